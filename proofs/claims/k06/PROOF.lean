import PyProof.Rows.All
import Wide.All
import OpenK.AllK
import Wide.FinOn
import Lean
import PyProof.EqAt
import PyProof.EqKinds
import PyProof.TupleCall
import PyProof.NeKinds
import PyProof.MinMaxWalk
import PyProof.Walks
import PyProof.EnumMake
import PyProof.WalksEnum
import PyProof.ZipIter
import PyProof.DictWalks
import PyProof.DictIter
import PySem.Challenge.RW_midpile_k06_whole_share_told
set_option Elab.async false
set_option linter.all false
set_option maxRecDepth 100000
namespace L2
open PySem PySem.Spec PyProof.Rows
abbrev Key := Sum Int Str
def keyIs : Key -> Value -> Bool
  | .inl k, v => Value.isInt k v
  | .inr x, v => Value.isStrOf x v
def keyH (w : World) : Key -> Int
  | .inl k => hashInt k
  | .inr x => hashStr w x
theorem keyIs_shape : ∀ {k : Key} {v : Value}, keyIs k v = true -> (∃ i t, k = Sum.inl i /\ v = Value.int i t) \/ (∃ x t, k = Sum.inr x /\ v = Value.str x t)
  | .inl i, v, h => by
    obtain ⟨t, e⟩ := Value.isInt_shape (k := i) (v := v) h
    exact .inl ⟨i, t, rfl, e⟩
  | .inr x, v, h => by
    obtain ⟨t, e⟩ := Value.isStrOf_shape (x := x) (v := v) h
    exact .inr ⟨x, t, rfl, e⟩
theorem keyIs_int (i : Int) (t : Tok) : keyIs (.inl i) (.int i t) = true := by simp [keyIs, Value.isInt]
theorem keyIs_str (x : Str) (t : Tok) : keyIs (.inr x) (.str x t) = true := by simp [keyIs, Value.isStrOf]
theorem key_ll (a b : Int) : decide ((Sum.inl a : Key) = Sum.inl b) = (a == b) := by
  by_cases e : a = b
  . subst e; simp
  . have h : ¬ (Sum.inl a : Key) = Sum.inl b := λ q => e (Sum.inl.inj q)
    rw [decide_eq_false h]
    exact (beq_eq_false_iff_ne.mpr e).symm
theorem key_rr (a b : Str) : decide ((Sum.inr a : Key) = Sum.inr b) = decide (a = b) := by
  by_cases e : a = b
  . subst e; simp
  . have h : ¬ (Sum.inr a : Key) = Sum.inr b := λ q => e (Sum.inr.inj q)
    rw [decide_eq_false h, decide_eq_false e]
theorem key_lr (a : Int) (b : Str) : decide ((Sum.inl a : Key) = Sum.inr b) = false := decide_eq_false (λ q => nomatch q)
theorem key_rl (a : Str) (b : Int) : decide ((Sum.inr a : Key) = Sum.inl b) = false := decide_eq_false (λ q => nomatch q)
def mixKind (prog : Program) (w : World) : PySem.KeyKind prog w Key where
  is := keyIs
  hash := keyH w
  inj := λ v a b ha hb => by
    rcases keyIs_shape ha with ⟨i, t, rfl, rfl⟩ | ⟨x, t, rfl, rfl⟩
    . rcases keyIs_shape hb with ⟨j, u, rfl, e⟩ | ⟨y, u, rfl, e⟩
      . injection e with e1 _; rw [e1]
      . exact nomatch e
    . rcases keyIs_shape hb with ⟨j, u, rfl, e⟩ | ⟨y, u, rfl, e⟩
      . exact nomatch e
      . injection e with e1 _; rw [e1]
  byValue := λ k v h => by
    rcases keyIs_shape h with ⟨i, t, rfl, rfl⟩ | ⟨x, t, rfl, rfl⟩ <;> rfl
  pyHash := λ hv h => by
    rcases keyIs_shape hv with ⟨i, t, rfl, rfl⟩ | ⟨x, t, rfl, rfl⟩
    . exact wpAny_pyHash_int h
    . exact wpAny_pyHash_str h
  eqBool := λ hu hv h => by
    rcases keyIs_shape hu with ⟨i, t, rfl, rfl⟩ | ⟨x, t, rfl, rfl⟩
    . rcases keyIs_shape hv with ⟨j, u, rfl, rfl⟩ | ⟨y, u, rfl, rfl⟩
      . rw [key_ll] at h; exact wpAny_eqBool_int h
      . rw [key_lr] at h; exact SeqAt.EqAt.int_str i t y u _ _ _ _ h
    . rcases keyIs_shape hv with ⟨j, u, rfl, rfl⟩ | ⟨y, u, rfl, rfl⟩
      . rw [key_rl] at h; exact SeqAt.EqAt.str_int x t j u _ _ _ _ h
      . rw [key_rr] at h; exact wpAny_eqBool_str h
  «strs» := λ k x t v h => by
    rcases keyIs_shape h with ⟨i, u, rfl, e⟩ | ⟨y, u, rfl, e⟩
    . exact nomatch e
    . injection e with e1 _
      subst e1
      cases v <;> rfl
theorem mixKind_is (prog : Program) (w : World) (k : Key) (v : Value) : (mixKind prog w).is k v = keyIs k v := rfl
theorem mixKind_int (prog : Program) (w : World) (i : Int) (t : Tok) : (mixKind prog w).is (.inl i) (.int i t) = true := keyIs_int i t
theorem mixKind_str (prog : Program) (w : World) (x : Str) (t : Tok) : (mixKind prog w).is (.inr x) (.str x t) = true := keyIs_str x t
end L2
namespace L2
open PySem PySem.Spec PyProof.Rows
inductive V where
  | non | bl (b : Bool) | int (i : Int) | str (x : Str) | byt (b : Array UInt8) | flt (b : UInt64) | ref (a : Addr) | ty (n : String)
  deriving DecidableEq
def RelV : V -> Value -> Prop
  | .non, u => u = Value.none
  | .bl b, u => u = Value.bool b
  | .int i, u => ∃ t, u = Value.int i t
  | .str x, u => ∃ t, u = Value.str x t
  | .byt b, u => ∃ t, u = Value.bytes b t
  | .flt b, u => ∃ t, u = Value.float b t
  | .ref a, u => u = Value.ref a
  | .ty n, u => u = Value.type n
abbrev Vals : List V -> List Value -> Prop := Paired RelV
theorem Vals.length {xs : List V} {us : List Value} (r : Vals xs us) : xs.length = us.length := Paired.length r
theorem Vals.get : ∀ {xs : List V} {us : List Value} {i : Nat} {x : V}, Vals xs us -> xs[i]? = some x -> ∃ u, us[i]? = some u /\ RelV x u
  | _, _, _, _, .nil, e => by simp at e
  | _, _, 0, _, .cons r _, e => by simp at e; subst e; exact ⟨_, rfl, r⟩
  | _, _, i + 1, x, .cons _ t, e => by
    obtain ⟨u, h1, h2⟩ := Vals.get (i := i) (x := x) t (by simpa using e)
    exact ⟨u, by simpa using h1, h2⟩
theorem Vals.set {x : V} {u : Value} (r : RelV x u) : ∀ {xs : List V} {us : List Value} (i : Nat), Vals xs us -> Vals (xs.set i x) (us.set i u)
  | _, _, _, .nil => .nil
  | _, _, 0, .cons _ t => .cons r t
  | _, _, i + 1, .cons q t => .cons q (Vals.set r i t)
theorem Vals.append : ∀ {xs ys : List V} {us ws : List Value}, Vals xs us -> Vals ys ws -> Vals (xs ++ ys) (us ++ ws)
  | _, _, _, _, .nil, s => s
  | _, _, _, _, .cons r t, s => .cons r (Vals.append t s)
theorem Vals.take : ∀ {xs : List V} {us : List Value} (n : Nat), Vals xs us -> Vals (xs.take n) (us.take n)
  | _, _, 0, _ => .nil
  | _, _, _ + 1, .nil => .nil
  | _, _, n + 1, .cons r t => .cons r (Vals.take n t)
theorem Vals.drop : ∀ {xs : List V} {us : List Value} (n : Nat), Vals xs us -> Vals (xs.drop n) (us.drop n)
  | _, _, 0, r => r
  | _, _, _ + 1, .nil => .nil
  | _, _, n + 1, .cons _ t => Vals.drop n t
def RelO : Option V -> Option Value -> Prop
  | some v, some u => RelV v u
  | none, none => True
  | _, _ => False
def KV {κ : Type} : List (κ × V) -> List (κ × Value) -> Prop := Paired λ (p : κ × V) (q : κ × Value) => p.1 = q.1 /\ RelV p.2 q.2
def kV : Key -> V
  | .inl i => .int i
  | .inr x => .str x
inductive HO where
  | lst (xs : List V)
  | tup (xs : List V)
  | dK (kvs : List (Key × V)) | dT (kvs : List (List Key × V))
  | set (S : Int -> Bool) (n : Nat)
  | ins (C dx : Addr) (fs : List (Str × V))
  | own (x : Addr)
  | xd (fs : List (Str × V))
  | met (f x : Addr)
  | rng (lo hi : Int)
  | frz (o : Obj) (u : HO)
  | tbl (ps : Array Value)
  | ext (φ : Heap -> Prop)
abbrev Hp := Addr -> Option HO
def upd (H : Hp) (a : Addr) (o : HO) : Hp := λ b => if b = a then some o else H b
theorem upd_same {H : Hp} {a : Addr} {o : HO} : upd H a o a = some o := by unfold upd; rw [if_pos rfl]
theorem upd_ne {H : Hp} {a b : Addr} {o : HO} (h : b ≠ a) : upd H a o b = H b := by unfold upd; rw [if_neg h]
theorem upd_upd {H : Hp} {a : Addr} {o u : HO} : upd (upd H a o) a u = upd H a u := by
  funext b; unfold upd; split <;> rfl
theorem ne_of {H : Hp} {a b : Addr} {o u : HO} (h : H a = some o) (h' : H b = some u) (d : o ≠ u) : a ≠ b := by
  intro e; subst e; rw [h] at h'; exact d (Option.some.inj h')
theorem ne_of_none {H : Hp} {a b : Addr} {o : HO} (h : H a = some o) (h' : H b = none) : a ≠ b := by
  intro e; subst e; rw [h] at h'; cases h'
section
variable (P : Program) (w : World)
def ObjOk (H : Hp) (h : Heap) (a : Addr) : HO -> Prop
  | .lst xs => xs.length <= sizeLine /\ ∃ (its : List Value) (n : Nat), Vals xs its /\ h.get? a = some { cls := .type "list", data := .seq its.toArray n }
  | .tup xs => xs.length <= sizeLine /\ ∃ its : List Value, Vals xs its /\ IsTup h a its.toArray
  | .dK kvs => kvs.length <= sizeLine /\ (a == sysModules) = false /\ ∃ vs, KV kvs vs /\ h.DictOf (mixKind P w) a vs
  | .dT kvs => kvs.length <= sizeLine /\ (a == sysModules) = false /\ ∃ xs : List (List Key × Addr × Value),
      Paired (λ (p : List Key × V) (q : List Key × Addr × Value) => p.1 = q.1 /\ H q.2.1 = some (.tup (p.1.map kV)) /\ RelV p.2 q.2.2) kvs xs /\
      ∃ o es ep, h.get? a = some o /\ o.ExactDict /\ o.data = .dict es ep /\ es.toList = xs.map (entryOfKey (tupleKind (mixKind P w))) /\ (xs.map (·.1)).Nodup
  | .set S n => h.SetOf (intKind P w) a S n
  | .ins C dx fs => H dx = some (.own a) /\ fs.length <= 1000 /\ dx ≠ a /\ h.get? a = some (PySem.W.instObj C dx) /\
      ∃ mA, h.Ns1 dx mA /\ (∀ f, RelO (fs.lookup f) (mA f)) /\ PySem.Within mA (fs.map (·.1))
  | .own _ => ∃ o, h.get? a = some o
  | .xd fs => ∃ mA, h.Ns1 a mA /\ ∀ f, RelO (fs.lookup f) (mA f)
  | .rng lo hi => ∃ t u v, h.get? a = some { cls := .type "range", data := .fields #[.int lo t, .int hi u, .int 1 v] }
  | .frz o u => h.get? a = some o /\ ObjOk H h a u
  | .tbl ps => h.get? a = some { cls := .none, data := .fields ps }
  | .met f x => h.get? a = some (PySem.W.methodObj (.ref f) (.ref x))
  | .ext φ => φ h /\ (∃ o, h.get? a = some o) /\ ∀ h1 h2 : Heap, φ h1 -> (∀ o, h1.get? a = some o -> h2.get? a = some o) -> φ h2
def HOk (H : Hp) (h : Heap) : Prop := ∀ a o, H a = some o -> ObjOk P w H h a o
end
section
variable {P : Program} {w : World} {H H' : Hp} {h h' : Heap} {a : Addr} {o : HO}
theorem ObjOk.lt (x : ObjOk P w H h a o) : a < h.objs.size := by
  cases o with
  | lst xs => obtain ⟨_, _, _, _, e⟩ := x; exact Heap.lt_size e
  | tup xs => obtain ⟨_, _, _, p⟩ := x; exact p.lt
  | dK kvs => obtain ⟨_, _, _, _, o, _, _, e, _⟩ := x; exact Heap.lt_size e
  | dT kvs => obtain ⟨_, _, _, _, o, _, _, e, _⟩ := x; exact Heap.lt_size e
  | set S n => obtain ⟨o, _, _, _, e, _⟩ := x; exact Heap.lt_size e
  | ins C dx fs => obtain ⟨_, _, _, e, _⟩ := x; exact Heap.lt_size e
  | own y => obtain ⟨_, e⟩ := x; exact Heap.lt_size e
  | xd fs => obtain ⟨_, ⟨_, _, _, e, _⟩, _⟩ := x; exact Heap.lt_size e
  | rng lo hi => obtain ⟨_, _, _, e⟩ := x; exact Heap.lt_size e
  | frz ob u => obtain ⟨e, _⟩ := x; exact Heap.lt_size e
  | tbl ps => exact Heap.lt_size (show h.get? a = some _ from x)
  | met f y => exact Heap.lt_size (show h.get? a = some _ from x)
  | ext φ => obtain ⟨_, ⟨_, e⟩, _⟩ := x; exact Heap.lt_size e
theorem Paired.mapP {α β : Type} {F G : α -> β -> Prop} : ∀ {l₁ : List α} {l₂ : List β}, Paired F l₁ l₂ -> (∀ a b, F a b -> G a b) -> Paired G l₁ l₂
  | _, _, .nil, _ => .nil
  | _, _, .cons r t, f => .cons (f _ _ r) (Paired.mapP t f)
theorem ObjOk.stay (x : ObjOk P w H h a o) (k : ∀ b u, (b = a \/ H b = some (.own a)) -> h.get? b = some u -> h'.get? b = some u)
    (ho : ∀ b, H b = some (.own a) -> H' b = some (.own a)) (ht : ∀ b xs, H b = some (.tup xs) -> H' b = some (.tup xs)) : ObjOk P w H' h' a o := by
  induction o with
  | lst xs => obtain ⟨z, its, n, r, e⟩ := x; exact ⟨z, its, n, r, k _ _ (.inl rfl) e⟩
  | tup xs => obtain ⟨z, its, r, ob, e, c⟩ := x; exact ⟨z, its, r, ob, k _ _ (.inl rfl) e, c⟩
  | dK kvs => obtain ⟨z, y, vs, r, ob, es, ep, e, c⟩ := x; exact ⟨z, y, vs, r, ob, es, ep, k _ _ (.inl rfl) e, c⟩
  | dT kvs =>
    obtain ⟨z, y, xs, r, ob, es, ep, e, c⟩ := x
    exact ⟨z, y, xs, Paired.mapP r λ p q z => ⟨z.1, ht _ _ z.2.1, z.2.2⟩, ob, es, ep, k _ _ (.inl rfl) e, c⟩
  | set S n => obtain ⟨ob, es, ep, t, e, c⟩ := x; exact ⟨ob, es, ep, t, k _ _ (.inl rfl) e, c⟩
  | ins C dx fs =>
    obtain ⟨d, z, ne, e, mA, ⟨od, es, ep, e2, c⟩, r⟩ := x
    exact ⟨ho _ d, z, ne, k _ _ (.inl rfl) e, mA, ⟨od, es, ep, k _ _ (.inr d) e2, c⟩, r⟩
  | own y => obtain ⟨ob, e⟩ := x; exact ⟨ob, k _ _ (.inl rfl) e⟩
  | xd fs => obtain ⟨mA, ⟨od, es, ep, e, c⟩, r⟩ := x; exact ⟨mA, ⟨od, es, ep, k _ _ (.inl rfl) e, c⟩, r⟩
  | rng lo hi => obtain ⟨t, u, v, e⟩ := x; exact ⟨t, u, v, k _ _ (.inl rfl) e⟩
  | frz ob u ih => obtain ⟨e, q⟩ := x; exact ⟨k _ _ (.inl rfl) e, ih q⟩
  | tbl ps =>
    have e : h.get? a = some { cls := .none, data := .fields ps } := x
    show h'.get? a = some { cls := .none, data := .fields ps }
    exact k a _ (.inl rfl) e
  | met f y =>
    have e : h.get? a = some (PySem.W.methodObj (.ref f) (.ref y)) := x
    show h'.get? a = some (PySem.W.methodObj (.ref f) (.ref y))
    exact k a _ (.inl rfl) e
  | ext φ => obtain ⟨p, ⟨o, e⟩, st⟩ := x; exact ⟨st _ _ p λ o q => k _ _ (.inl rfl) q, ⟨o, k _ _ (.inl rfl) e⟩, st⟩
theorem HOk.lt (x : HOk P w H h) (e : H a = some o) : a < h.objs.size := (x a o e).lt
theorem HOk.fresh (x : HOk P w H h) (e : h.objs.size <= a) : H a = none := by
  cases q : H a with
  | none => rfl
  | some u => exact absurd (Nat.lt_of_lt_of_le (x.lt q) e) (Nat.lt_irrefl _)
theorem HOk.kept (x : HOk P w H h) (k : ∀ b u, h.get? b = some u -> h'.get? b = some u) : HOk P w H h' := λ a o e =>
  (x a o e).stay (λ b u _ q => k b u q) (λ _ q => q) λ _ _ q => q
theorem HOk.laid (x : HOk P w H h) (k : ∀ b u, h.get? b = some u -> h'.get? b = some u) (hp : h.objs.size <= a) (new : ObjOk P w (upd H a o) h' a o) : HOk P w (upd H a o) h' := λ b u e => by
  have hn := x.fresh hp
  by_cases hb : b = a
  . subst hb; rw [upd_same] at e; cases e; exact new
  . rw [upd_ne hb] at e
    exact (x b u e).stay (λ c v _ q => k c v q) (λ c q => by rw [upd_ne (ne_of_none q hn)]; exact q) λ c xs q => by rw [upd_ne (ne_of_none q hn)]; exact q
end
def Rd (H : Hp) (a : Addr) (u : HO) : Prop := H a = some u \/ ∃ o, H a = some (.frz o u)
theorem Rd.ok {P : Program} {w : World} {H : Hp} {h : Heap} {a : Addr} {u : HO} (r : Rd H a u) (x : HOk P w H h) : ObjOk P w H h a u := by
  rcases r with r | ⟨o, r⟩
  . exact x a u r
  . obtain ⟨_, q⟩ := x a _ r
    exact q
def Mut : Option HO -> Prop
  | some (.lst _) => True
  | some (.dK _) => True
  | some (.dT _) => True
  | some (.set _ _) => True
  | some (.ins _ _ _) => True
  | some (.ext _) => True
  | _ => False
section
variable {P : Program} {w : World} {H : Hp} {h h' : Heap} {x e : Addr} {o' : HO}
theorem HOk.write (ok : HOk P w H h) (mu : Mut (H x)) (he : e = x \/ H e = some (.own x)) (k : ∀ b u, b ≠ e -> h.get? b = some u -> h'.get? b = some u) (heo : ∃ u, h'.get? e = some u)
    (new : ObjOk P w (upd H x o') h' x o') : HOk P w (upd H x o') h' := λ b u q => by
  have nown : ∀ c y, H c = some (.own y) -> c ≠ x := λ c y r z => by subst z; rw [r] at mu; exact mu
  have ntup : ∀ c xs, H c = some (.tup xs) -> c ≠ x := λ c xs r z => by subst z; rw [r] at mu; exact mu
  by_cases hb : b = x
  . subst hb; rw [upd_same] at q; cases q; exact new
  . rw [upd_ne hb] at q
    by_cases hbe : b = e
    . have q' : H b = some (.own x) := by
        rcases he with z | z
        . exact absurd (hbe.trans z) hb
        . rw [hbe]; exact z
      rw [q] at q'; cases q'
      obtain ⟨v, hv⟩ := heo
      exact ⟨v, by rw [hbe]; exact hv⟩
    . refine (ok b u q).stay (λ c v hc r => k c v ?_ r) (λ c r => by rw [upd_ne (nown c b r)]; exact r) λ c xs r => by rw [upd_ne (ntup c xs r)]; exact r
      rcases hc with rfl | hc
      . exact hbe
      . rintro rfl
        rcases he with z | z
        . exact nown c b hc z
        . rw [hc] at z; cases z; exact hb rfl
end
structure Un (fs ex : List Addr) (H H' : Hp) (h h' : Heap) : Prop where
  keep : ∀ b o, h.get? b = some o -> H b = none -> b ∉ fs -> b ∉ ex -> h'.get? b = some o
  slot : ∀ b o, h.get? b = some o -> H b = none -> b ∈ fs -> b ∉ ex -> ∃ sl, h'.get? b = some { o with slots := sl }
  free : ∀ b o, h.get? b = some o -> H b = none -> b ∉ ex -> H' b = none
  there : ∀ b o, h.get? b = some o -> b ∉ ex -> ∃ o', h'.get? b = some o'
  tups : ∀ b xs, H b = some (.tup xs) -> H' b = some (.tup xs)
  frzs : ∀ b o u, H b = some (.frz o u) -> H' b = some (.frz o u)
  tbls : ∀ b ps, H b = some (.tbl ps) -> ∃ more, H' b = some (.tbl (ps ++ more))
section
variable {fs fs' ex ex' : List Addr} {H H1 H2 : Hp} {h h1 h2 h' : Heap} {a x e : Addr} {o : HO}
theorem Un.any (u : Un fs ex H H1 h h1) {b : Addr} {ob : Obj} (q : h.get? b = some ob) (n : H b = none) (hx : b ∉ ex) : ∃ sl, h1.get? b = some { ob with slots := sl } := by
  by_cases hb : b ∈ fs
  . exact u.slot b ob q n hb hx
  . exact ⟨ob.slots, u.keep b ob q n hb hx⟩
theorem Un.kept (k : ∀ b u, h.get? b = some u -> h'.get? b = some u) : Un fs ex H H h h' :=
  ⟨λ b ob q _ _ _ => k b ob q, λ b ob q _ _ _ => ⟨ob.slots, k b ob q⟩, λ _ _ _ n _ => n, λ b ob q _ => ⟨ob, k b ob q⟩, λ _ _ q => q, λ _ _ _ q => q, λ _ ps q => ⟨#[], by rw [q]; simp⟩⟩
theorem Un.refl : Un fs ex H H h h := Un.kept λ _ _ q => q
theorem Un.laid (k : ∀ b u, h.get? b = some u -> h'.get? b = some u) (hp : h.objs.size <= a) (hn : H a = none) : Un fs ex H (upd H a o) h h' where
  keep := λ b u q _ _ _ => k b u q
  slot := λ b u q _ _ _ => ⟨u.slots, k b u q⟩
  free := λ b u q n _ => by rw [upd_ne (Nat.ne_of_lt (Nat.lt_of_lt_of_le (Heap.lt_size q) hp))]; exact n
  there := λ b u q _ => ⟨u, k b u q⟩
  tups := λ b xs q => by rw [upd_ne (ne_of_none q hn)]; exact q
  frzs := λ b u xs q => by rw [upd_ne (ne_of_none q hn)]; exact q
  tbls := λ b ps q => ⟨#[], by rw [upd_ne (ne_of_none q hn), q]; simp⟩
theorem Un.write (mu : Mut (H x)) (he : e = x \/ H e = some (.own x)) (k : ∀ b u, b ≠ e -> h.get? b = some u -> h'.get? b = some u) (heo : ∃ u, h'.get? e = some u) : Un fs ex H (upd H x o) h h' := by
  have hx : ∀ b, H b = none -> b ≠ x := λ b n z => by subst z; rw [n] at mu; exact mu
  have hb : ∀ b, H b = none -> b ≠ e := λ b n z => by
    subst z
    rcases he with r | r
    . exact hx b n r
    . rw [n] at r; cases r
  have hm : ∀ b u, H b = some u -> ¬ Mut (some u) -> b ≠ x := λ b u q nm z => by subst z; rw [q] at mu; exact nm mu
  refine ⟨λ b u q n _ _ => k b u (hb b n) q, λ b u q n _ _ => ⟨u.slots, k b u (hb b n) q⟩, λ b u q n _ => by rw [upd_ne (hx b n)]; exact n, λ b u q _ => ?_,
    λ b xs q => by rw [upd_ne (hm b _ q λ z => z)]; exact q, λ b u xs q => by rw [upd_ne (hm b _ q λ z => z)]; exact q, λ b ps q => ⟨#[], by rw [upd_ne (hm b _ q λ z => z), q]; simp⟩⟩
  by_cases hbe : b = e
  . subst hbe; exact heo
  . exact ⟨u, k b u hbe q⟩
end
def trk (h : Heap) (H : Hp) : List Addr := (List.range h.objs.size).filter λ a => (H a).isSome
def hidT (h : Heap) (H : Hp) : Heap := PySem.W.hideAll h (trk h H)
theorem hidT_size (h : Heap) (H : Hp) : (hidT h H).objs.size = h.objs.size := PySem.W.hideAll_size _ _
theorem hidT_get {h : Heap} {H : Hp} {b : Addr} {o : Obj} (e : h.get? b = some o) (n : H b = none) : (hidT h H).get? b = some o :=
  PySem.W.hideAll_get _ e λ hm => by
    have q : (H b).isSome = true := (List.mem_filter.mp hm).2
    rw [n] at q; simp at q
theorem of_hidT {h : Heap} {H : Hp} {b : Addr} {o : Obj} (e : (hidT h H).get? b = some o) : h.get? b = some o /\ H b = none := by
  have e' : h.get? b = some o := PySem.W.of_hideAll (trk h H) e
  refine ⟨e', ?_⟩
  cases q : H b with
  | none => rfl
  | some x =>
    have hm : b ∈ trk h H := List.mem_filter.mpr ⟨List.mem_range.mpr (Heap.lt_size e'), by simp [q]⟩
    have z : (hidT h H).get? b = none := PySem.W.hideAll_none (trk h H) hm
    rw [z] at e; cases e
def allNews (g h : Heap) (L : Addr) : List (Addr × Obj) := (List.range h.objs.size).filterMap λ a => if a = L \/ (g.get? a).isSome = true then none else (h.get? a).map λ o => (a, o)
def rest (g h : Heap) (L d : Addr) : List (Addr × Obj) := (allNews g h L).filter λ p => decide (p.1 ≠ d)
end L2
namespace L2
open PySem PySem.Spec PyProof.Rows
structure Mod (K : PySem.W.Frag) (mg : Str -> Option Value) (base : Heap) : Prop where
  kin : K.In base
  glob : base.Ns mainGlobals mg
  blt : ∃ mb, base.Ns builtinsNs mb /\ ∀ x : Str, x ≠ "__name__" -> mb x = bootBuiltins x
  nolimit : base.NoLimit
structure Cx where
  prog : Program
  w : World
  K : PySem.W.Frag
  mg : Str -> Option Value
  base : Heap
  A : Around
  N : List Str
  s₀ : Shared
  H₀ : Hp
  env : Env
  outer : List Env
  stack : List Env
  ex : List Addr
  fn : Str -> Bool
  calm : Bool
  pn : List (Addr × Obj)
  xe : Value -> Shared -> Prop
def frs (l : List Env) : List Addr := l.filterMap (·.frame)
abbrev Cx.fs (X : Cx) : List Addr := frs X.outer
def Vis (sc : Scope) (x : Str) : Prop := sc.names.lookup x = some .local \/ sc.names.lookup x = some .cell \/ sc.names.lookup x = some .free
def Loc (sc : Scope) (x : Str) : Prop := sc.names.lookup x = some .local \/ sc.names.lookup x = some .cell
def Look (env : Env) (h : Heap) (m : Str -> Option Value) (x : Str) (u : Value) : Prop :=
  (env.kindOf x = some .local /\ m x = some u) \/ ((env.kindOf x = some .cell \/ env.kindOf x = some .free) /\ ∃ c, env.cells.lookup x = some c /\ h.IsCell c (some u))
structure Cx.Ok (X : Cx) : Prop where
  mod : Mod X.K X.mg X.base
  kind : X.env.scope.kind = .function
  glob : X.env.globals = mainGlobals
  blt : X.env.builtins = builtinsNs
  above : X.s₀.heap.objs.size <= X.env.locals
  inj : ∀ x y c, X.env.cells.lookup x = some c -> X.env.cells.lookup y = some c -> x = y
  has : ∀ x, (X.env.kindOf x = some .cell \/ X.env.kindOf x = some .free) -> ∃ c, X.env.cells.lookup x = some c
  cab : ∀ x c, X.fn x = true -> X.env.cells.lookup x = some c -> X.s₀.heap.objs.size <= c
  hd : X.calm = true -> X.A.handled = none
  frames : X.A.frames = some X.stack
  stk : X.stack = X.outer \/ (X.stack = X.env :: X.outer /\ X.env.frame = some X.env.locals)
  exf : ∀ b ∈ X.ex, b ≠ X.env.locals /\ ∀ x c, X.env.cells.lookup x = some c -> c ≠ b
  bs : ∀ b o, X.base.get? b = some o -> X.s₀.heap.get? b = some o /\ X.H₀ b = none
  bsz : X.base.objs.size <= X.s₀.heap.objs.size
  noex : ∀ b o, X.base.get? b = some o -> b ∉ X.ex
  exfs : ∀ b ∈ X.ex, b ∉ X.fs
  funs : X.s₀.heap.FunFrames X.base X.outer
  frf : ∀ b ∈ X.fs, X.H₀ b = none
structure Inv (X : Cx) (pins : List (Addr × Obj)) (σ : List (Option V)) (H : Hp) (s : Shared) : Prop where
  ok : X.Ok
  os : s.os = X.s₀.os
  bare : AllBare s.gens
  base : Un X.fs X.ex X.H₀ H X.s₀.heap s.heap
  loc : ∃ m, s.heap.Ns X.env.locals m /\ ∀ (i : Nat) (x : Str) (v : V), X.N[i]? = some x -> σ[i]? = some (some v) -> Vis X.env.scope x -> ∃ u, RelV v u /\ Look X.env s.heap m x u
  cell : ∀ x c, X.env.cells.lookup x = some c -> ∃ v, s.heap.IsCell c v
  free : H X.env.locals = none
  freeC : ∀ x c, X.env.cells.lookup x = some c -> H c = none
  pin : ∀ p ∈ X.pn ++ pins, s.heap.get? p.1 = some p.2 /\ H p.1 = none /\ p.1 ≠ X.env.locals /\ p.1 ∉ X.fs /\ ∀ v, p.2.data ≠ .cell v
  hok : HOk X.prog X.w H s.heap
  len : σ.length = X.N.length
section
variable {X : Cx} {pins : List (Addr × Obj)} {σ : List (Option V)} {H H' : Hp} {s : Shared} {h' : Heap}
theorem Cx.Ok.nofr (ok : X.Ok) {b : Addr} {o : Obj} (e : X.base.get? b = some o) : b ∉ X.fs := λ hb => by
  have := (ok.funs.mem hb).1
  rw [e] at this; cases this
theorem Inv.bs (I : Inv X pins σ H s) : ∀ b o, X.base.get? b = some o -> s.heap.get? b = some o /\ H b = none := λ b o e =>
  ⟨I.base.keep b o (I.ok.bs b o e).1 (I.ok.bs b o e).2 (I.ok.nofr e) (I.ok.noex b o e), I.base.free b o (I.ok.bs b o e).1 (I.ok.bs b o e).2 (I.ok.noex b o e)⟩
theorem Inv.bk (I : Inv X pins σ H s) : ∀ b o, X.base.get? b = some o -> s.heap.get? b = some o := λ b o e => (I.bs b o e).1
theorem Inv.mod (I : Inv X pins σ H s) : Mod X.K X.mg X.base := I.ok.mod
theorem Inv.kIn (I : Inv X pins σ H s) : X.K.In s.heap := I.ok.mod.kin.keeps I.bk
theorem Inv.lt (I : Inv X pins σ H s) : X.env.locals < s.heap.objs.size := let ⟨_, hn, _⟩ := I.loc; hn.lt
theorem Inv.sz (I : Inv X pins σ H s) : X.s₀.heap.objs.size <= s.heap.objs.size := Nat.le_trans I.ok.above (Nat.le_of_lt I.lt)
theorem Inv.nofs (I : Inv X pins σ H s) {a : Addr} (h : s.heap.objs.size <= a) : a ∉ X.fs := λ hb => by
  obtain ⟨_, o, ho, _⟩ := I.ok.funs.mem hb
  exact absurd (Nat.lt_of_lt_of_le (Heap.lt_size ho) (Nat.le_trans I.sz h)) (Nat.lt_irrefl _)
theorem Inv.cne (I : Inv X pins σ H s) : ∀ x c, X.env.cells.lookup x = some c -> c ≠ X.env.locals := λ x c e z => by
  obtain ⟨v, o, ho, hd⟩ := I.cell x c e
  obtain ⟨m, ⟨o', es, ep, ho', hd', _⟩, _⟩ := I.loc
  rw [z, ho'] at ho; cases ho; rw [hd'] at hd; cases hd
theorem Inv.funs (I : Inv X pins σ H s) : s.heap.FunFrames X.base X.outer := by
  have all : ∀ (l : List Env), (∀ b ∈ frs l, b ∈ X.fs) -> X.s₀.heap.FunFrames X.base l -> s.heap.FunFrames X.base l := by
    intro l
    induction l with
    | nil => intro _ _; trivial
    | cons env r ih =>
      intro hs hl
      obtain ⟨hk, ⟨L, o, hf, hn, ho, hd⟩, hr⟩ := hl
      have hL : L ∈ X.fs := hs L (by unfold frs; rw [List.filterMap_cons, hf]; exact List.mem_cons_self)
      obtain ⟨sl, e⟩ := I.base.slot L o ho (I.ok.frf L hL) hL λ z => I.ok.exfs L z hL
      exact ⟨hk, ⟨L, _, hf, hn, e, hd⟩, ih (λ b hb => hs b (by unfold frs; rw [List.filterMap_cons, hf]; exact List.mem_cons_of_mem _ hb)) hr⟩
  exact all X.outer (λ _ hb => hb) I.ok.funs
theorem Inv.stack (I : Inv X pins σ H s) : s.heap.FunFrames X.base X.stack := by
  rcases I.ok.stk with e | ⟨e, hf⟩
  . rw [e]; exact I.funs
  . rw [e]
    obtain ⟨m, hn, _⟩ := I.loc
    refine .cons (by rw [I.ok.kind]; decide) hf hn ?_ I.funs
    exact Heap.get?_none_of_le (Nat.le_trans I.ok.bsz I.ok.above)
theorem Inv.stkSub (I : Inv X pins σ H s) : ∀ b ∈ frs X.stack, b ∈ X.env.locals :: X.fs := λ b hb => by
  rcases I.ok.stk with e | ⟨e, hf⟩
  . rw [e] at hb; exact List.mem_cons_of_mem _ hb
  . rw [e] at hb
    unfold frs at hb
    rw [List.filterMap_cons, hf] at hb
    exact hb
theorem Inv.stkFree (I : Inv X pins σ H s) : ∀ b ∈ frs X.stack, H b = none := λ b hb => by
  rcases List.mem_cons.mp (I.stkSub b hb) with e | hb
  . rw [e]; exact I.free
  . obtain ⟨_, o, ho, _⟩ := I.ok.funs.mem hb
    exact I.base.free b o ho (I.ok.frf b hb) λ z => I.ok.exfs b z hb
theorem Inv.step {g' : Array GenState} {t' : Nat} {d' : Drawn} {ch : List Addr} (I : Inv X pins σ H s)
    (hch : ∀ b ∈ ch, (b ∈ X.ex \/ X.s₀.heap.objs.size <= b) /\ b ≠ X.env.locals /\ (∀ x c, X.env.cells.lookup x = some c -> c ≠ b) /\ ∀ p ∈ X.pn ++ pins, p.1 ≠ b)
    (keep : ∀ b o, b ≠ X.env.locals -> b ∉ X.fs -> b ∉ ch -> s.heap.get? b = some o -> H b = none -> h'.get? b = some o)
    (slot : ∀ b o, b ≠ X.env.locals -> b ∈ X.fs -> b ∉ ch -> s.heap.get? b = some o -> H b = none -> ∃ sl, h'.get? b = some { o with slots := sl }) (free : ∀ b o, b ∉ ch -> s.heap.get? b = some o -> H b = none -> H' b = none)
    (there : ∀ b o, b ∉ ch -> s.heap.get? b = some o -> ∃ o', h'.get? b = some o')
    (tups : ∀ b xs, H b = some (.tup xs) -> H' b = some (.tup xs)) (frzs : ∀ b o u, H b = some (.frz o u) -> H' b = some (.frz o u)) (tbls : ∀ b ps, H b = some (.tbl ps) -> ∃ more, H' b = some (.tbl (ps ++ more)))
    (ns : ∀ m, s.heap.Ns X.env.locals m -> h'.Ns X.env.locals m) (hok : HOk X.prog X.w H' h') (hg : AllBare g') :
    Inv X pins σ H' { s with heap := h', gens := g', drawn := d', toks := t' } := by
  have neL : ∀ b o, X.s₀.heap.get? b = some o -> b ≠ X.env.locals := λ b o e => Nat.ne_of_lt (Nat.lt_of_lt_of_le (Heap.lt_size e) I.ok.above)
  have neC : ∀ b o, X.s₀.heap.get? b = some o -> b ∉ X.ex -> b ∉ ch := λ b o e hx hb => by
    rcases (hch b hb).1 with z | z
    . exact hx z
    . exact absurd (Nat.lt_of_lt_of_le (Heap.lt_size e) z) (Nat.lt_irrefl _)
  have cellK : ∀ x c, X.env.cells.lookup x = some c -> ∀ v, s.heap.IsCell c v -> h'.IsCell c v := λ x c e v ⟨o, ho, hd⟩ => by
    have nch : c ∉ ch := λ z => (hch c z).2.2.1 x c e rfl
    by_cases hc : c ∈ X.fs
    . obtain ⟨sl, q⟩ := slot c o (I.cne x c e) hc nch ho (I.freeC x c e)
      exact ⟨_, q, hd⟩
    . exact ⟨o, keep c o (I.cne x c e) hc nch ho (I.freeC x c e), hd⟩
  refine ⟨I.ok, I.os, hg, ⟨λ b o e n hb hx => ?_, λ b o e n hb hx => ?_, λ b o e n hx => ?_, λ b o e hx => ?_, λ b xs e => tups b xs (I.base.tups b xs e), λ b o xs e => frzs b o xs (I.base.frzs b o xs e), λ b ps e => ?_⟩, ?_, λ x c e => ?_, ?_, λ x c e => ?_, λ p hp => ?_, hok, I.len⟩
  . exact keep b o (neL b o e) hb (neC b o e hx) (I.base.keep b o e n hb hx) (I.base.free b o e n hx)
  . obtain ⟨sl, e1⟩ := I.base.slot b o e n hb hx
    obtain ⟨sl', e2⟩ := slot b _ (neL b o e) hb (neC b o e hx) e1 (I.base.free b o e n hx)
    exact ⟨sl', e2⟩
  . obtain ⟨o', e1⟩ := I.base.there b o e hx
    exact free b o' (neC b o e hx) e1 (I.base.free b o e n hx)
  . obtain ⟨o', e1⟩ := I.base.there b o e hx
    exact there b o' (neC b o e hx) e1
  . obtain ⟨m1, e1⟩ := I.base.tbls b ps e
    obtain ⟨m2, e2⟩ := tbls b _ e1
    exact ⟨m1 ++ m2, by rw [e2, Array.append_assoc]⟩
  . obtain ⟨m, hn, hl⟩ := I.loc
    refine ⟨m, ns m hn, λ i x v e1 e2 e3 => ?_⟩
    obtain ⟨u, r, l⟩ := hl i x v e1 e2 e3
    refine ⟨u, r, ?_⟩
    rcases l with l | ⟨k, c, e, z⟩
    . exact .inl l
    . exact .inr ⟨k, c, e, cellK x c e _ z⟩
  . obtain ⟨v, z⟩ := I.cell x c e
    exact ⟨v, cellK x c e v z⟩
  . obtain ⟨m, ⟨o, _, _, ho, _⟩, _⟩ := I.loc
    exact free _ o (λ z => (hch _ z).2.1 rfl) ho I.free
  . obtain ⟨v, o, ho, hd⟩ := I.cell x c e
    exact free c o (λ z => (hch c z).2.2.1 x c e rfl) ho (I.freeC x c e)
  . obtain ⟨e, n, ne, nf, d⟩ := I.pin p hp
    have nch : p.1 ∉ ch := λ z => (hch p.1 z).2.2.2 p hp rfl
    exact ⟨keep p.1 p.2 ne nf nch e n, free p.1 p.2 nch e n, ne, nf, d⟩
theorem Inv.un {t' : Nat} (I : Inv X pins σ H s) (u : Un X.fs [] H H' s.heap h') (hok : HOk X.prog X.w H' h') : Inv X pins σ H' { s with heap := h', toks := t' } := by
  obtain ⟨m, ⟨o, es, ep, ho, r⟩, _⟩ := id I.loc
  obtain ⟨sl, hL⟩ := u.any ho I.free (by simp)
  exact I.step (g' := s.gens) (d' := s.drawn) (ch := []) (λ _ z => nomatch z) (λ b o _ hb _ e n => u.keep b o e n hb (by simp)) (λ b o _ hb _ e n => u.slot b o e n hb (by simp)) (λ b o _ e n => u.free b o e n (by simp)) (λ b o _ e => u.there b o e (by simp)) u.tups u.frzs u.tbls (λ m' hm => by
    obtain ⟨o', es', ep', ho', r'⟩ := hm
    rw [ho] at ho'; cases ho'
    exact ⟨_, es', ep', hL, r'⟩) hok I.bare
theorem Inv.call {g' : Array GenState} {t' : Nat} {d' : Drawn} {ch : List Addr} (I : Inv X pins σ H s) (u : Un (frs X.stack) ch H H' s.heap h') (hok : HOk X.prog X.w H' h') (hg : AllBare g')
    (hch : ∀ b ∈ ch, (b ∈ X.ex \/ X.s₀.heap.objs.size <= b) /\ b ≠ X.env.locals /\ (∀ x c, X.env.cells.lookup x = some c -> c ≠ b) /\ ∀ p ∈ X.pn ++ pins, p.1 ≠ b) :
    Inv X pins σ H' { s with heap := h', gens := g', drawn := d', toks := t' } := by
  obtain ⟨m, ⟨o, es, ep, ho, r⟩, _⟩ := id I.loc
  obtain ⟨sl, hL⟩ := u.any ho I.free λ z => (hch _ z).2.1 rfl
  exact I.step (ch := ch) hch (λ b o hL hb hc e n => u.keep b o e n (λ z => (List.mem_cons.mp (I.stkSub b z)).elim hL hb) hc) (λ b o _ _ hc e n => u.any e n hc) (λ b o hc e n => u.free b o e n hc) (λ b o hc e => u.there b o e hc) u.tups u.frzs u.tbls (λ m' hm => by
    obtain ⟨o', es', ep', ho', r'⟩ := hm
    rw [ho] at ho'; cases ho'
    exact ⟨_, es', ep', hL, r'⟩) hok hg
theorem Inv.turned {t' : Nat} {it : Addr} (I : Inv X pins σ H s) (k : ∀ b o, b ≠ it -> s.heap.get? b = some o -> h'.get? b = some o) (hn : H it = none) (hL : it ≠ X.env.locals)
    (h1 : it ∈ X.ex \/ X.s₀.heap.objs.size <= it) (h2 : ∀ x c, X.env.cells.lookup x = some c -> c ≠ it) (h3 : ∀ p ∈ X.pn ++ pins, p.1 ≠ it) : Inv X pins σ H { s with heap := h', toks := t' } := by
  have nit : ∀ b u, H b = some u -> b ≠ it := λ b u e z => by rw [z, hn] at e; cases e
  refine I.step (g' := s.gens) (d' := s.drawn) (ch := [it]) (λ b hb => ?_) (λ b o _ _ hc e _ => k b o (λ z => hc (by simp [z])) e) (λ b o _ _ hc e _ => ⟨o.slots, k b o (λ z => hc (by simp [z])) e⟩) (λ _ _ _ _ n => n)
    (λ b o hc e => ⟨o, k b o (λ z => hc (by simp [z])) e⟩) (λ _ _ e => e) (λ _ _ _ e => e) (λ b ps e => ⟨#[], by rw [e]; simp⟩) (λ m hm => ?_) (λ b u e => ?_) I.bare
  . have e : b = it := by simpa using hb
    subst e
    exact ⟨h1, hL, h2, h3⟩
  . obtain ⟨o, es, ep, ho, r⟩ := hm
    exact ⟨o, es, ep, k _ o (Ne.symm hL) ho, r⟩
  . refine (I.hok b u e).stay (λ c v hc q => k c v ?_ q) (λ _ q => q) λ _ _ q => q
    rcases hc with z | z
    . rw [z]; exact nit b u e
    . exact nit c _ z
theorem Inv.tok (I : Inv X pins σ H s) (t : Nat) : Inv X pins σ H { s with toks := t } := I.un (h' := s.heap) (t' := t) Un.refl I.hok
theorem Inv.kept {t' : Nat} (I : Inv X pins σ H s) (k : ∀ b u, s.heap.get? b = some u -> h'.get? b = some u) : Inv X pins σ H { s with heap := h', toks := t' } := I.un (Un.kept k) (I.hok.kept k)
theorem Inv.laid {a : Addr} {o : HO} {t' : Nat} (I : Inv X pins σ H s) (k : ∀ b u, s.heap.get? b = some u -> h'.get? b = some u) (hp : s.heap.objs.size <= a) (new : ObjOk X.prog X.w (upd H a o) h' a o) :
    Inv X pins σ (upd H a o) { s with heap := h', toks := t' } := I.un (Un.laid k hp (I.hok.fresh hp)) (I.hok.laid k hp new)
theorem Inv.write {x e : Addr} {o : HO} {t' : Nat} (I : Inv X pins σ H s) (mu : Mut (H x)) (he : e = x \/ H e = some (.own x)) (k : ∀ b u, b ≠ e -> s.heap.get? b = some u -> h'.get? b = some u) (heo : ∃ u, h'.get? e = some u)
    (new : ObjOk X.prog X.w (upd H x o) h' x o) : Inv X pins σ (upd H x o) { s with heap := h', toks := t' } := I.un (Un.write mu he k heo) (I.hok.write mu he k heo new)
theorem Inv.pins_of {pins' : List (Addr × Obj)} (I : Inv X pins σ H s) (h : ∀ p ∈ pins', s.heap.get? p.1 = some p.2 /\ H p.1 = none /\ p.1 ≠ X.env.locals /\ p.1 ∉ X.fs /\ ∀ v, p.2.data ≠ .cell v) : Inv X pins' σ H s :=
  ⟨I.ok, I.os, I.bare, I.base, I.loc, I.cell, I.free, I.freeC, λ p hp => (List.mem_append.mp hp).elim (λ z => I.pin p (List.mem_append_left _ z)) (h p), I.hok, I.len⟩
theorem nodup_ix {N : List Str} (hN : N.Nodup) {i j : Nat} {x : Str} (a : N[i]? = some x) (b : N[j]? = some x) : i = j := by
  obtain ⟨h1, e1⟩ := List.getElem?_eq_some_iff.mp a
  obtain ⟨h2, e2⟩ := List.getElem?_eq_some_iff.mp b
  exact (List.getElem_inj hN).mp (e1.trans e2.symm)
theorem store_ok2 {M : Model} {A : Around} {E : Value -> Shared -> Prop} {i : Nat} {x : Str} {v : V} {u : Value} {Q : Unit -> Shared -> Prop} (I : Inv X pins σ H s) (hN : X.N.Nodup) (hi : X.N[i]? = some x) (hx : Loc X.env.scope x) (r : RelV v u)
    (h : ∀ s', Inv X pins (σ.set i (some v)) H s' -> (∃ a, Heap.SameBut a s.heap s'.heap /\ (a = X.env.locals \/ X.env.cells.lookup x = some a)) -> Q () s') (hf : X.fn x = true \/ X.env.scope.names.lookup x = some .local := by first | exact .inl rfl | exact .inr rfl | assumption) : wpAny M A (storeName X.env x u) Q E s := by
  obtain ⟨m, hn, hl⟩ := id I.loc
  have hcls : (X.env.scope.kind == .class || (X.env.scope.kind == .module && X.env.locals != X.env.globals)) = false := by rw [I.ok.kind]; rfl
  have hiσ : i < σ.length := by rw [I.len]; exact (List.getElem?_eq_some_iff.mp hi).1
  have cne := I.cne
  have tracked : ∀ {a : Addr} {h' : Heap}, (∃ o, s.heap.get? a = some o /\ H a = none) -> Heap.SameBut a s.heap h' -> HOk X.prog X.w H h' := λ {a h'} ha hs b ob e => by
    obtain ⟨_, _, hfree⟩ := ha
    refine (I.hok b ob e).stay (λ c w' hc q => (hs.2 c ?_).trans q) (λ _ q => q) λ _ _ q => q
    rintro rfl
    rcases hc with rfl | hc
    . rw [hfree] at e; cases e
    . rw [hfree] at hc; cases hc
  rcases hx with hk | hk
  . refine wpAny_storeName_local hk hn (λ h' hn' hs => ?_) hcls
    obtain ⟨oL, _, _, hoL, _⟩ := id hn
    refine h _ ⟨I.ok, I.os, I.bare, ⟨λ b o e n hb hx => ?_, λ b o e n hb hx => ?_, I.base.free, λ b o e hx => ?_, I.base.tups, I.base.frzs, I.base.tbls⟩, ⟨_, hn', λ j y v' e1 e2 e3 => ?_⟩, λ y c e => ?_, I.free, I.freeC, λ p hp => ?_, tracked ⟨oL, hoL, I.free⟩ hs, by simpa using I.len⟩ ⟨_, hs, .inl rfl⟩
    . exact (hs.2 b (Nat.ne_of_lt (Nat.lt_of_lt_of_le (Heap.lt_size e) I.ok.above))).trans (I.base.keep b o e n hb hx)
    . obtain ⟨sl, e1⟩ := I.base.slot b o e n hb hx
      exact ⟨sl, (hs.2 b (Nat.ne_of_lt (Nat.lt_of_lt_of_le (Heap.lt_size e) I.ok.above))).trans e1⟩
    . obtain ⟨o', e1⟩ := I.base.there b o e hx
      exact ⟨o', (hs.2 b (Nat.ne_of_lt (Nat.lt_of_lt_of_le (Heap.lt_size e) I.ok.above))).trans e1⟩
    . by_cases hj : j = i
      . subst hj
        rw [hi] at e1; cases e1
        rw [List.getElem?_set_self hiσ] at e2
        cases e2
        exact ⟨u, r, .inl ⟨hk, by simp⟩⟩
      . rw [List.getElem?_set_ne (Ne.symm hj)] at e2
        obtain ⟨u', r', q⟩ := hl j y v' e1 e2 e3
        refine ⟨u', r', ?_⟩
        rcases q with ⟨k, e⟩ | ⟨k, c, e, z⟩
        . refine .inl ⟨k, ?_⟩
          have : y ≠ x := λ e => hj (nodup_ix hN e1 (e ▸ hi))
          simp [this, e]
        . exact .inr ⟨k, c, e, z.sameBut hs (cne y c e)⟩
    . obtain ⟨w', z⟩ := I.cell y c e
      exact ⟨w', z.sameBut hs (cne y c e)⟩
    . obtain ⟨e, n, ne, nf, d⟩ := I.pin p hp
      exact ⟨(hs.2 p.1 ne).trans e, n, ne, nf, d⟩
  . have hfn : X.fn x = true := by
      rcases hf with z | z
      . exact z
      . rw [z] at hk; cases hk
    obtain ⟨c, hc⟩ := I.ok.has x (.inl hk)
    obtain ⟨w', z⟩ := I.cell x c hc
    refine wpAny_storeName_cell I.ok.kind hk hc z (λ h' hc' hs => ?_)
    obtain ⟨oc, hoc, hocd⟩ := id z
    refine h { s with heap := h' } ⟨I.ok, I.os, I.bare, ⟨λ b o e n hb hx => ?_, λ b o e n hb hx => ?_, I.base.free, λ b o e hx => ?_, I.base.tups, I.base.frzs, I.base.tbls⟩, ⟨m, hn.sameBut hs (Ne.symm (cne x c hc)), λ j y v' e1 e2 e3 => ?_⟩, λ y c' e => ?_, I.free, I.freeC, λ p hp => ?_, tracked ⟨oc, hoc, I.freeC x c hc⟩ hs, by simpa using I.len⟩ ⟨c, hs, .inr hc⟩
    . exact (hs.2 b (Nat.ne_of_lt (Nat.lt_of_lt_of_le (Heap.lt_size e) (I.ok.cab x c hfn hc)))).trans (I.base.keep b o e n hb hx)
    . obtain ⟨sl, e1⟩ := I.base.slot b o e n hb hx
      exact ⟨sl, (hs.2 b (Nat.ne_of_lt (Nat.lt_of_lt_of_le (Heap.lt_size e) (I.ok.cab x c hfn hc)))).trans e1⟩
    . obtain ⟨o', e1⟩ := I.base.there b o e hx
      exact ⟨o', (hs.2 b (Nat.ne_of_lt (Nat.lt_of_lt_of_le (Heap.lt_size e) (I.ok.cab x c hfn hc)))).trans e1⟩
    . by_cases hj : j = i
      . subst hj
        rw [hi] at e1; cases e1
        rw [List.getElem?_set_self hiσ] at e2
        cases e2
        exact ⟨u, r, .inr ⟨.inl hk, c, hc, hc'⟩⟩
      . rw [List.getElem?_set_ne (Ne.symm hj)] at e2
        obtain ⟨u', r', q⟩ := hl j y v' e1 e2 e3
        refine ⟨u', r', ?_⟩
        rcases q with q | ⟨k, c', e, z'⟩
        . exact .inl q
        . refine .inr ⟨k, c', e, z'.sameBut hs ?_⟩
          rintro rfl
          exact hj (nodup_ix hN e1 (I.ok.inj _ _ _ e hc ▸ hi))
    . by_cases hcc : c' = c
      . subst hcc; exact ⟨_, hc'⟩
      . obtain ⟨w2, z2⟩ := I.cell y c' e
        exact ⟨w2, z2.sameBut hs hcc⟩
    . obtain ⟨e, n, ne, nf, d⟩ := I.pin p hp
      refine ⟨(hs.2 p.1 ?_).trans e, n, ne, nf, d⟩
      intro q
      rw [q, hoc] at e
      have q' : oc = p.2 := Option.some.inj e
      exact d w' (by rw [<- q']; exact hocd)
theorem store_ok {M : Model} {A : Around} {E : Value -> Shared -> Prop} {i : Nat} {x : Str} {v : V} {u : Value} {Q : Unit -> Shared -> Prop} (I : Inv X pins σ H s) (hN : X.N.Nodup) (hi : X.N[i]? = some x) (hx : Loc X.env.scope x) (r : RelV v u)
    (h : ∀ s', Inv X pins (σ.set i (some v)) H s' -> Q () s') (hf : X.fn x = true \/ X.env.scope.names.lookup x = some .local := by first | exact .inl rfl | exact .inr rfl | assumption) : wpAny M A (storeName X.env x u) Q E s :=
  store_ok2 I hN hi hx r (λ s' I' _ => h s' I') hf
theorem Inv.call' {s' : Shared} {ch : List Addr} (I : Inv X pins σ H s) (ho : s'.os = s.os) (u : Un (frs X.stack) ch H H' s.heap s'.heap) (hok : HOk X.prog X.w H' s'.heap) (hg : AllBare s'.gens)
    (hch : ∀ b ∈ ch, (b ∈ X.ex \/ X.s₀.heap.objs.size <= b) /\ b ≠ X.env.locals /\ (∀ x c, X.env.cells.lookup x = some c -> c ≠ b) /\ ∀ p ∈ X.pn ++ pins, p.1 ≠ b) : Inv X pins σ H' s' := by
  obtain ⟨h', g', d', t', o'⟩ := s'
  have e : o' = s.os := ho
  subst e
  exact I.call (g' := g') (t' := t') (d' := d') u hok hg hch
end
abbrev XK := Value -> Option Addr -> Hp -> Prop
abbrev St := List (Option V)
abbrev VK := V -> Hp -> Prop
abbrev TE := St -> Hp -> VK -> Prop
abbrev TT := St -> Hp -> (Bool -> Hp -> Prop) -> Prop
abbrev TA := St -> Hp -> (List V -> Hp -> Prop) -> Prop
structure Ends where
  nx : St -> Hp -> Prop
  rt : VK
  bk : St -> Hp -> Prop := λ _ _ => False
  ct : St -> Hp -> Prop := λ _ _ => False
abbrev TS := Ends -> St -> Hp -> Prop
def EP (X : Cx) (pins : List (Addr × Obj)) (σ : St) (Q : VK) (u : Value) (s' : Shared) : Prop := ∃ v H', Inv X pins σ H' s' /\ RelV v u /\ Q v H'
def TP (X : Cx) (pins : List (Addr × Obj)) (σ : St) (Q : Bool -> Hp -> Prop) (b : Bool) (s' : Shared) : Prop := ∃ H', Inv X pins σ H' s' /\ Q b H'
def AP (X : Cx) (pins : List (Addr × Obj)) (σ : St) (Q : List V -> Hp -> Prop) (us : List Value) (s' : Shared) : Prop := ∃ vs H', Inv X pins σ H' s' /\ Vals vs us /\ Q vs H'
def SP (X : Cx) (pins : List (Addr × Obj)) (D : Ends) (f : Flow) (s' : Shared) : Prop :=
  match f with
  | .next => ∃ σ' H', Inv X pins σ' H' s' /\ D.nx σ' H'
  | .brk => ∃ σ' H', Inv X pins σ' H' s' /\ D.bk σ' H'
  | .cont => ∃ σ' H', Inv X pins σ' H' s' /\ D.ct σ' H'
  | .ret u => ∃ v σ' H', Inv X pins σ' H' s' /\ RelV v u /\ D.rt v H'
def PE (X : Cx) (e : Expr) (t : TE) : Prop :=
  ∀ (pins : List (Addr × Obj)) (s : Shared) (σ : St) (H : Hp) (Q : VK), Inv X pins σ H s -> t σ H Q -> wpAny (model X.prog X.w) X.A (eval e X.env) (EP X pins σ Q) X.xe s
def PT (X : Cx) (e : Expr) (t : TT) : Prop :=
  ∀ (pins : List (Addr × Obj)) (s : Shared) (σ : St) (H : Hp) (Q : Bool -> Hp -> Prop), Inv X pins σ H s -> t σ H Q -> wpAny (model X.prog X.w) X.A (isTrue e X.env (eval e X.env)) (TP X pins σ Q) X.xe s
def PW (X : Cx) (e : Expr) (t : TT) : Prop :=
  ∀ (whole : Sem Value) (pins : List (Addr × Obj)) (s : Shared) (σ : St) (H : Hp) (Q : Bool -> Hp -> Prop), Inv X pins σ H s -> t σ H Q -> wpAny (model X.prog X.w) X.A (isTrue e X.env whole) (TP X pins σ Q) X.xe s
theorem PW.pt {X : Cx} {e : Expr} {t : TT} (h : PW X e t) : PT X e t := h _
def PA (X : Cx) (es : List Expr) (t : TA) : Prop :=
  ∀ (pos : Pos) (pins : List (Addr × Obj)) (s : Shared) (σ : St) (H : Hp) (Q : List V -> Hp -> Prop), Inv X pins σ H s -> t σ H Q -> wpAny (model X.prog X.w) X.A (spliced (backTo pos (starEach es X.env))) (AP X pins σ Q) X.xe s
def PS (X : Cx) (st : Stmt) (t : TS) : Prop :=
  ∀ (pins : List (Addr × Obj)) (s : Shared) (σ : St) (H : Hp) (D : Ends), Inv X pins σ H s -> t D σ H -> wpAny (model X.prog X.w) X.A (exec st X.env) (SP X pins D) X.xe s
def PSs (X : Cx) (st : List Stmt) (t : TS) : Prop :=
  ∀ (pins : List (Addr × Obj)) (s : Shared) (σ : St) (H : Hp) (D : Ends), Inv X pins σ H s -> t D σ H -> wpAny (model X.prog X.w) X.A (execs st X.env) (SP X pins D) X.xe s
theorem thn {α : Type} {t : Sem α} {Q Q' : α -> Shared -> Prop} {M : Model} {A : Around} {E : Value -> Shared -> Prop} {s : Shared} (h : wpAny M A t Q E s) (hQ : ∀ a s, Q a s -> Q' a s) : wpAny M A t Q' E s := wpAny_mono h hQ λ _ _ x => x
end L2
namespace L2
open PySem PySem.Spec PyProof.Rows
section
variable {X : Cx}
theorem bin {a b : Expr} {ta tb : TE} (ha : PE X a ta) (hb : PE X b tb) {pins : List (Addr × Obj)} {s : Shared} {σ : St} {H : Hp} {R : V -> V -> Hp -> Prop} (I : Inv X pins σ H s) (h : ta σ H λ x H1 => tb σ H1 λ y H2 => R x y H2)
    {α : Type} {Q : α -> Shared -> Prop} {f : Value -> Value -> Sem α}
    (hf : ∀ v u s2 x y H2, Inv X pins σ H2 s2 -> RelV x v -> RelV y u -> R x y H2 -> wpAny (model X.prog X.w) X.A (f v u) Q X.xe s2) :
    wpAny (model X.prog X.w) X.A (eval a X.env) (λ v s₁ => wpAny (model X.prog X.w) X.A (eval b X.env) (λ u s₂ => wpAny (model X.prog X.w) X.A (f v u) Q X.xe s₂) X.xe s₁) X.xe s := by
  refine thn (ha pins s σ H _ I h) λ v s1 ⟨x, H1, I1, r1, q1⟩ => ?_
  refine thn (hb pins s1 σ H1 _ I1 q1) λ u s2 ⟨y, H2, I2, r2, q2⟩ => ?_
  exact hf v u s2 x y H2 I2 r1 r2 q2
def tVar (i : Nat) : TE := λ σ H Q => ∃ v, σ[i]? = some (some v) /\ Q v H
def tC (v : V) : TE := λ _ H Q => Q v H
theorem pe_var {i : Nat} {x : Str} {pos : Pos} (hN : X.N[i]? = some x) (hv : Vis X.env.scope x) (hd : (x == ("__debug__" : Str)) = false := by decide) (hcd : (x == ("__classdict__" : Str)) = false := by decide) : PE X (.Name x pos) (tVar i) := by
  intro pins s σ H Q I h
  obtain ⟨v, e, h⟩ := h
  obtain ⟨m, hn, hl⟩ := I.loc
  obtain ⟨u, r, l⟩ := hl i x v hN e hv
  have fin : EP X pins σ Q u s := ⟨v, H, I, r, h⟩
  rcases l with ⟨hk, hm⟩ | ⟨hk, c, hc, hcell⟩
  . exact wpAny_Name (wpAny_loadName_local I.ok.kind hk hn hm fin) hd
  . rcases hk with hk | hk
    . exact wpAny_Name (wpAny_loadName_cell I.ok.kind hk hc hcell fin) hd
    . exact wpAny_Name (wpAny_loadName_free I.ok.kind hk hc hcell fin hcd) hd
theorem pe_int {i j pos} : PE X (.Constant (.int i) j pos) (tC (.int i)) := λ _ _ _ H _ I h => wpAny_Constant_int ⟨.int i, H, I.tok _, ⟨_, rfl⟩, h⟩
theorem pe_bl {b j pos} : PE X (.Constant (.bool b) j pos) (tC (.bl b)) := λ _ _ _ H _ I h => Constant_bool ⟨.bl b, H, I, rfl, h⟩
theorem pe_non {j pos} : PE X (.Constant .none j pos) (tC .non) := λ _ _ _ H _ I h => Constant_none ⟨.non, H, I, rfl, h⟩
theorem pe_str {x j pos} : PE X (.Constant (.str x) j pos) (tC (.str x)) := λ _ _ _ H _ I h => Calls.Constant_str ⟨.str x, H, I.tok _, ⟨_, rfl⟩, h⟩
def Gl (X : Cx) (x : Str) : Prop := X.env.kindOf x = some .globalImplicit
theorem ld_glob {E : Value -> Shared -> Prop} {pins : List (Addr × Obj)} {s : Shared} {σ : St} {H : Hp} {x : Str} {u : Value} {pos : Pos} {Q : Value -> Shared -> Prop} (I : Inv X pins σ H s) (hg : Gl X x) (hm : X.mg x = some u) (h : Q u s)
    (hd : (x == ("__debug__" : Str)) = false := by decide) : wpAny (model X.prog X.w) X.A (eval (.Name x pos) X.env) Q E s :=
  Calls.Name_function_global I.ok.kind hg (Calls.loadGlobal_global (by rw [I.ok.glob]; exact I.mod.glob.keeps I.bk) hm h) hd
theorem ld_blt {E : Value -> Shared -> Prop} {pins : List (Addr × Obj)} {s : Shared} {σ : St} {H : Hp} {x : Str} {u : Value} {pos : Pos} {Q : Value -> Shared -> Prop} (I : Inv X pins σ H s) (hg : Gl X x) (hm : X.mg x = none) (hv : bootBuiltins x = some u) (h : Q u s)
    (hn : x ≠ "__name__" := by decide) (hd : (x == ("__debug__" : Str)) = false := by decide) : wpAny (model X.prog X.w) X.A (eval (.Name x pos) X.env) Q E s := by
  obtain ⟨mb, h1, h2⟩ := I.mod.blt
  exact Calls.Name_function_global I.ok.kind hg (Calls.loadGlobal_builtin (by rw [I.ok.glob]; exact I.mod.glob.keeps I.bk) hm (by rw [I.ok.blt]; exact h1.keeps I.bk) ((h2 x hn).trans hv) h) hd
theorem pe_glob {x : Str} {v : V} {u : Value} {pos : Pos} (hg : Gl X x) (hm : X.mg x = some u) (r : RelV v u) (hd : (x == ("__debug__" : Str)) = false := by decide) : PE X (.Name x pos) (tC v) :=
  λ _ _ _ H _ I h => ld_glob I hg hm ⟨v, H, I, r, h⟩ hd
theorem pe_bltn {x : Str} {v : V} {u : Value} {pos : Pos} (hg : Gl X x) (hm : X.mg x = none) (hv : bootBuiltins x = some u) (r : RelV v u) (hn : x ≠ "__name__" := by decide) (hd : (x == ("__debug__" : Str)) = false := by decide) : PE X (.Name x pos) (tC v) :=
  λ _ _ _ H _ I h => ld_blt I hg hm hv ⟨v, H, I, r, h⟩ hn hd
variable {a b : Expr} {ta tb : TE} {pos : Pos}
def PC (X : Cx) (op : CmpOp) (a b : Expr) (t : TE) : Prop :=
  ∀ (pins : List (Addr × Obj)) (s : Shared) (σ : St) (H : Hp) (Q : VK), Inv X pins σ H s -> t σ H Q ->
    wpAny (model X.prog X.w) X.A (eval a X.env) (λ v s₁ => wpAny (model X.prog X.w) X.A (eval b X.env) (λ u s₂ => wpAny (model X.prog X.w) X.A (compareOp op v u) (EP X pins σ Q) X.xe s₂) X.xe s₁) X.xe s
theorem nobehind (b : Expr) {op : CmpOp} (h : op ≠ .In) (h2 : op ≠ .NotIn) : behindInMarks op b = false := by
  have e1 : (op == CmpOp.In) = false := by cases op <;> first | rfl | exact absurd rfl h
  have e2 : (op == CmpOp.NotIn) = false := by cases op <;> first | rfl | exact absurd rfl h2
  cases b <;> simp [behindInMarks, e1, e2]
def tB (t : TE) : TT := λ σ H Q => t σ H λ x H1 => ∃ c, x = .bl c /\ Q c H1
theorem pt_cmp {op : CmpOp} {t : TE} (h : PC X op a b t) (h1 : behindInMarks op b = false := by first | exact nobehind _ (by decide) (by decide) | rfl) : PT X (.Compare a [op] [b] pos) (tB t) := by
  intro pins s σ H Q I hw
  refine wpAny_isTrue_Compare1 (thn (h pins s σ H _ I hw) λ v s1 h1 => thn h1 λ u s2 h2 => thn h2 λ c s3 ⟨x, H1, I1, r1, q1⟩ => ?_) h1
  obtain ⟨d, rfl, q⟩ := q1
  cases r1
  exact wpAny_truthy_bool ⟨H1, I1, q⟩
theorem pt_val {e : Expr} {t : TE} (h : PE X e t) (he : ∀ whole, isTrue e X.env whole = (do let v <- whole; standAt e.pos; holding [v] (truthy v)) := by intro _; rfl) : PT X e (tB t) := by
  intro pins s σ H Q I hw
  refine isTrue_plain (thn (h pins s σ H _ I hw) λ v s1 ⟨x, H1, I1, r1, q1⟩ => ?_) (he _)
  obtain ⟨d, rfl, q⟩ := q1
  cases r1
  exact wpAny_truthy_bool ⟨H1, I1, q⟩
variable {tA tB' : TT} {rest : List Expr}
def tAnd (t u : TT) : TT := λ σ H Q => t σ H λ c H1 => if c = true then u σ H1 Q else Q false H1
def tOr (t u : TT) : TT := λ σ H Q => t σ H λ c H1 => if c = true then Q true H1 else u σ H1 Q
def tNot (t : TT) : TT := λ σ H Q => t σ H λ c H1 => Q (!c) H1
theorem pw_and1 (ha : PT X a tA) : PW X (.BoolOp .And [a] pos) tA := by
  intro wh pins s σ H Q I h
  refine isTrue_and (thn (ha pins s σ H Q I h) λ c s1 e => ?_)
  cases c with
  | true => exact isTrue_and_nil e
  | false => exact e
theorem pw_or1 (ha : PT X a tA) : PW X (.BoolOp .Or [a] pos) tA := by
  intro wh pins s σ H Q I h
  refine isTrue_or (thn (ha pins s σ H Q I h) λ c s1 e => ?_)
  cases c with
  | false => exact isTrue_or_nil e
  | true => exact e
theorem pw_and (ha : PT X a tA) (hb : PW X (.BoolOp .And (b :: rest) pos) tB') : PW X (.BoolOp .And (a :: b :: rest) pos) (tAnd tA tB') := by
  intro wh pins s σ H Q I h
  refine isTrue_and (thn (ha pins s σ H _ I h) λ c s1 ⟨H1, I1, q1⟩ => ?_)
  cases c with
  | true => exact hb wh pins s1 σ H1 Q I1 q1
  | false => exact ⟨H1, I1, q1⟩
theorem pw_or (ha : PT X a tA) (hb : PW X (.BoolOp .Or (b :: rest) pos) tB') : PW X (.BoolOp .Or (a :: b :: rest) pos) (tOr tA tB') := by
  intro wh pins s σ H Q I h
  refine isTrue_or (thn (ha pins s σ H _ I h) λ c s1 ⟨H1, I1, q1⟩ => ?_)
  cases c with
  | true => exact ⟨H1, I1, q1⟩
  | false => exact hb wh pins s1 σ H1 Q I1 q1
theorem pt_not (ha : PT X a tA) : PT X (.UnaryOp .Not a pos) (tNot tA) := by
  intro pins s σ H Q I h
  exact isTrue_not (ha pins s σ H (λ c H1 => Q (!c) H1) I h)
def tAndV (ta tb : TE) : TE := λ σ H Q => ta σ H λ x H1 => ∃ c, x = .bl c /\ if c = true then tb σ H1 Q else Q (.bl false) H1
def tOrV (ta tb : TE) : TE := λ σ H Q => ta σ H λ x H1 => ∃ c, x = .bl c /\ if c = true then Q (.bl true) H1 else tb σ H1 Q
def tNotV (ta : TE) : TE := λ σ H Q => ta σ H λ x H1 => ∃ c, x = .bl c /\ Q (.bl (!c)) H1
theorem pe_one {op} {t : TE} (h : PE X a t) : PE X (.BoolOp op [a] pos) t := λ pins s σ H Q I hw => BoolOp_one (h pins s σ H Q I hw)
theorem pe_and (ha : PE X a ta) (hb : PE X (.BoolOp .And (b :: rest) pos) tb) : PE X (.BoolOp .And (a :: b :: rest) pos) (tAndV ta tb) := by
  intro pins s σ H Q I h
  refine BoolOp_and (thn (ha pins s σ H _ I h) λ v s1 ⟨x, H1, I1, r1, q1⟩ => ?_)
  obtain ⟨c, rfl, q1⟩ := q1
  cases r1
  refine wpAny_truthy_bool ?_
  cases c with
  | true => exact hb pins s1 σ H1 Q I1 q1
  | false => exact ⟨.bl false, H1, I1, rfl, q1⟩
theorem pe_or (ha : PE X a ta) (hb : PE X (.BoolOp .Or (b :: rest) pos) tb) : PE X (.BoolOp .Or (a :: b :: rest) pos) (tOrV ta tb) := by
  intro pins s σ H Q I h
  refine BoolOp_or (thn (ha pins s σ H _ I h) λ v s1 ⟨x, H1, I1, r1, q1⟩ => ?_)
  obtain ⟨c, rfl, q1⟩ := q1
  cases r1
  refine wpAny_truthy_bool ?_
  cases c with
  | false => exact hb pins s1 σ H1 Q I1 q1
  | true => exact ⟨.bl true, H1, I1, rfl, q1⟩
theorem pe_not (ha : PE X a ta) : PE X (.UnaryOp .Not a pos) (tNotV ta) := by
  intro pins s σ H Q I h
  refine UnaryOp_ (thn (ha pins s σ H _ I h) λ v s1 ⟨x, H1, I1, r1, q1⟩ => ?_)
  obtain ⟨c, rfl, q1⟩ := q1
  cases r1
  exact not_of (wpAny_truthy_bool ⟨.bl (!c), H1, I1, rfl, q1⟩)
end
end L2
namespace L2
open PySem PySem.Spec PyProof.Rows
def SqL (K : PySem.W.Frag) (H : Hp) (a : Addr) (xs : List V) : Prop :=
  Rd H a (.lst xs) \/
    ∃ (o : Obj) (its : Array Value) (n : Nat), K.lookup a = some o /\ o.cls = .type "list" /\ o.dict = none /\ o.data = .seq its n /\ its.size <= sizeLine /\ Vals xs its.toList
def SqT (K : PySem.W.Frag) (H : Hp) (a : Addr) (xs : List V) : Prop :=
  Rd H a (.tup xs) \/
    ∃ (o : Obj) (its : Array Value) (n : Nat), K.lookup a = some o /\ o.cls = .type "tuple" /\ o.data = .seq its n /\ its.size <= sizeLine /\ Vals xs its.toList
def absV : Value -> Option V
  | .none => some .non
  | .bool b => some (.bl b)
  | .int i _ => some (.int i)
  | .str x _ => some (.str x)
  | .bytes b _ => some (.byt b)
  | .float b _ => some (.flt b)
  | .ref a => some (.ref a)
  | .type n => some (.ty n)
  | _ => none
theorem RelV.abs {x : V} {u : Value} (r : RelV x u) : absV u = some x := by
  cases x with
  | non => cases r; rfl
  | bl _ => cases r; rfl
  | int _ => obtain ⟨t, rfl⟩ := r; rfl
  | str _ => obtain ⟨t, rfl⟩ := r; rfl
  | byt _ => obtain ⟨t, rfl⟩ := r; rfl
  | flt _ => obtain ⟨t, rfl⟩ := r; rfl
  | ref _ => cases r; rfl
  | ty _ => cases r; rfl
theorem RelV.inj {x y : V} {u : Value} (r : RelV x u) (q : RelV y u) : x = y := Option.some.inj (r.abs.symm.trans q.abs)
theorem Vals.inj : ∀ {xs ys : List V} {us : List Value}, Vals xs us -> Vals ys us -> xs = ys
  | _, _, _, .nil, .nil => rfl
  | _, _, _, .cons r t, .cons r' t' => by rw [r.inj r', Vals.inj t t']
section
variable {X : Cx} {pins : List (Addr × Obj)} {σ : St} {H : Hp} {s : Shared} {a : Addr} {xs ys : List V}
theorem SqL.of {K : PySem.W.Frag} (h : H a = some (.lst xs)) : SqL K H a xs := .inl (.inl h)
theorem SqT.of {K : PySem.W.Frag} (h : H a = some (.tup xs)) : SqT K H a xs := .inl (.inl h)
theorem Inv.list (I : Inv X pins σ H s) (h : SqL X.K H a xs) : ∃ its : List Value, Vals xs its /\ PlainL s.heap a its.toArray /\ xs.length <= sizeLine := by
  rcases h with h | ⟨o, its, n, hk, hc, hd, hs, hz, r⟩
  . obtain ⟨z, its, n, r, e⟩ := h.ok I.hok
    exact ⟨its, r, ⟨_, n, e, rfl, rfl, rfl⟩, z⟩
  . refine ⟨its.toList, r, ⟨o, n, I.kIn a o hk, hc, hd, by simpa using hs⟩, ?_⟩
    have e := r.length
    simp only [Array.length_toList] at e
    omega
theorem Inv.tuple (I : Inv X pins σ H s) (h : SqT X.K H a xs) : ∃ its : List Value, Vals xs its /\ IsTup s.heap a its.toArray /\ xs.length <= sizeLine := by
  rcases h with h | ⟨o, its, n, hk, hc, hs, hz, r⟩
  . obtain ⟨z, its, r, p⟩ := h.ok I.hok
    exact ⟨its, r, p, z⟩
  . refine ⟨its.toList, r, ⟨o, I.kIn a o hk, hc, n, by simpa using hs⟩, ?_⟩
    have e := r.length
    simp only [Array.length_toList] at e
    omega
theorem Inv.list_inj (I : Inv X pins σ H s) (h : SqL X.K H a xs) (h' : SqL X.K H a ys) : xs = ys := by
  obtain ⟨its, r, ⟨o, n, e, _, _, d⟩, _⟩ := I.list h
  obtain ⟨its', r', ⟨o', n', e', _, _, d'⟩, _⟩ := I.list h'
  rw [e] at e'; cases e'
  rw [d] at d'
  injection d' with d1 _
  have : its = its' := by simpa using congrArg Array.toList d1
  subst this
  exact r.inj r'
end
abbrev Cx.wish (X : Cx) (E : Value -> Shared -> Prop) : Cx := { X with xe := E }
abbrev Cx.nox (X : Cx) : Cx := X.wish λ _ _ => False
theorem Cx.Ok.wish {X : Cx} (ok : X.Ok) (E : Value -> Shared -> Prop) : (X.wish E).Ok :=
  ⟨ok.mod, ok.kind, ok.glob, ok.blt, ok.above, ok.inj, ok.has, ok.cab, ok.hd, ok.frames, ok.stk, ok.exf, ok.bs, ok.bsz, ok.noex, ok.exfs, ok.funs, ok.frf⟩
theorem Cx.Ok.unwish {X : Cx} {E : Value -> Shared -> Prop} (ok : (X.wish E).Ok) : X.Ok :=
  ⟨ok.mod, ok.kind, ok.glob, ok.blt, ok.above, ok.inj, ok.has, ok.cab, ok.hd, ok.frames, ok.stk, ok.exf, ok.bs, ok.bsz, ok.noex, ok.exfs, ok.funs, ok.frf⟩
section
variable {X : Cx} {pins : List (Addr × Obj)} {σ : St} {H : Hp} {s : Shared} {E : Value -> Shared -> Prop}
theorem Inv.wish (I : Inv X pins σ H s) (E : Value -> Shared -> Prop) : Inv (X.wish E) pins σ H s := ⟨I.ok.wish E, I.os, I.bare, I.base, I.loc, I.cell, I.free, I.freeC, I.pin, I.hok, I.len⟩
theorem Inv.unwish (I : Inv (X.wish E) pins σ H s) : Inv X pins σ H s := ⟨I.ok.unwish, I.os, I.bare, I.base, I.loc, I.cell, I.free, I.freeC, I.pin, I.hok, I.len⟩
theorem SP.unwish {D : Ends} {f : Flow} {s' : Shared} (h : SP (X.wish E) pins D f s') : SP X pins D f s' := by
  cases f with
  | next => obtain ⟨σ', H', I, q⟩ := h; exact ⟨σ', H', I.unwish, q⟩
  | brk => obtain ⟨σ', H', I, q⟩ := h; exact ⟨σ', H', I.unwish, q⟩
  | cont => obtain ⟨σ', H', I, q⟩ := h; exact ⟨σ', H', I.unwish, q⟩
  | ret u => obtain ⟨v, σ', H', I, r, q⟩ := h; exact ⟨v, σ', H', I.unwish, r, q⟩
theorem PSs.nox {st : List Stmt} {t : TS} (h : PSs X.nox st t) : PSs X st t := λ pins s σ H D I hw =>
  wpAny_mono (h pins s σ H D (I.wish _) hw) (λ _ _ q => q.unwish) λ _ _ z => False.elim z
end
section
variable {X : Cx} {st : Stmt} {rest : List Stmt} {t u : TS} {e : Expr} {te : TE} {pos : Pos}
def tNext : TS := λ D σ H => D.nx σ H
def tSeq (t u : TS) : TS := λ D σ H => t { D with nx := u D } σ H
theorem pss_nil : PSs X [] tNext := λ _ _ σ H _ I h => wpAny_execs_nil ⟨σ, H, I, h⟩
theorem pss_cons (h1 : PS X st t) (h2 : PSs X rest u) : PSs X (st :: rest) (tSeq t u) := by
  intro pins s σ H D I h
  refine wpAny_execs_cons (thn (h1 pins s σ H { D with nx := u D } I h) λ f s1 q => ?_)
  cases f with
  | next =>
    obtain ⟨σ', H', I', q⟩ := q
    exact h2 pins s1 σ' H' D I' q
  | ret v => exact q
  | brk => exact q
  | cont => exact q
theorem pss_one (h1 : PS X st t) : PSs X [st] t := by
  intro pins s σ H D I h
  refine wpAny_execs_cons (thn (h1 pins s σ H D I h) λ f s1 q => ?_)
  cases f with
  | next => exact wpAny_execs_nil q
  | ret v => exact q
  | brk => exact q
  | cont => exact q
theorem Inv.quiet {pins : List (Addr × Obj)} {σ : St} {H : Hp} {s : Shared} (I : Inv X pins σ H s) : interactive X.env = false := by simp [interactive, I.ok.kind]
def tDrop (te : TE) : TS := λ D σ H => te σ H λ _ H1 => D.nx σ H1
theorem ps_expr (he : PE X e te) (hs : swapsWith e none pos.line X.env = pure false := by rfl) : PS X (.Expr e pos) (tDrop te) := by
  intro pins s σ H D I h
  exact wpAny_Expr_any (thn (he pins s σ H _ I h) λ v s1 ⟨x, H1, I1, r1, q1⟩ => ⟨σ, H1, I1, q1⟩) I.quiet hs
def tRet (te : TE) : TS := λ D σ H => te σ H D.rt
theorem ps_ret (he : PE X e te) : PS X (.Return (some e) pos) (tRet te) := by
  intro pins s σ H D I h
  exact wpAny_Return_some (thn (he pins s σ H _ I h) λ v s1 ⟨x, H1, I1, r1, q1⟩ => ⟨x, σ, H1, I1, r1, q1⟩)
def tIfS (c : TT) (t u : TS) : TS := λ D σ H => c σ H λ b H1 => if b = true then t D σ H1 else u D σ H1
theorem ps_if {c : Expr} {a b : List Stmt} {tc : TT} (hc : PT X c tc) (ha : PSs X a t) (hb : PSs X b u) : PS X (.If c a b pos) (tIfS tc t u) := by
  intro pins s σ H D I h
  refine wpAny_If (thn (hc pins s σ H _ I h) λ d s1 ⟨H1, I1, q1⟩ => ?_)
  cases d with
  | true => exact ha pins s1 σ H1 D I1 q1
  | false => exact hb pins s1 σ H1 D I1 q1
end
abbrev TG := V -> St -> Hp -> (St -> Hp -> Prop) -> Prop
abbrev TGs := List V -> St -> Hp -> (St -> Hp -> Prop) -> Prop
def PG (X : Cx) (target : Expr) (t : TG) : Prop :=
  ∀ (pins : List (Addr × Obj)) (s : Shared) (σ : St) (H : Hp) (v : V) (u : Value) (Q : St -> Hp -> Prop), Inv X pins σ H s -> RelV v u -> t v σ H Q ->
    wpAny (model X.prog X.w) X.A (assign target X.env u) (λ _ s' => ∃ σ' H', Inv X pins σ' H' s' /\ Q σ' H') X.xe s
def PGs (X : Cx) (ts : List Expr) (t : TGs) : Prop :=
  ∀ (pins : List (Addr × Obj)) (s : Shared) (σ : St) (H : Hp) (vs : List V) (us : List Value) (Q : St -> Hp -> Prop), Inv X pins σ H s -> Vals vs us -> t vs σ H Q ->
    wpAny (model X.prog X.w) X.A (assignInOrder ((assignEach ts X.env).map (·.2)) us) (λ _ s' => ∃ σ' H', Inv X pins σ' H' s' /\ Q σ' H') X.xe s
abbrev TSet := V -> V -> V -> Hp -> (Hp -> Prop) -> Prop
def PSet (X : Cx) (t : TSet) : Prop :=
  ∀ (pins : List (Addr × Obj)) (s : Shared) (σ : St) (H : Hp) (o i v : V) (ov iv u : Value) (Q : Hp -> Prop), Inv X pins σ H s -> RelV o ov -> RelV i iv -> RelV v u -> t o i v H Q ->
    wpAny (model X.prog X.w) X.A (setItem ov iv u) (λ _ s' => ∃ H', Inv X pins σ H' s' /\ Q H') X.xe s
section
variable {X : Cx} {pos : Pos}
def gName (i : Nat) : TG := λ v σ H Q => Q (σ.set i (some v)) H
theorem pg_name {i : Nat} {x : Str} (hN : X.N.Nodup) (hi : X.N[i]? = some x) (hx : Loc X.env.scope x) (hf : X.fn x = true \/ X.env.scope.names.lookup x = some .local := by first | exact .inl rfl | exact .inr rfl | assumption) : PG X (.Name x pos) (gName i) := by
  intro pins s σ H v u Q I r h
  exact wpAny_assign_Name (store_ok I hN hi hx r (λ s' I' => ⟨_, H, I', h⟩) hf)
def gNil : TGs := λ vs σ H Q => vs = [] /\ Q σ H
def gCons (t : TG) (u : TGs) : TGs := λ vs σ H Q => ∃ v r, vs = v :: r /\ t v σ H λ σ' H' => u r σ' H' Q
theorem pgs_nil : PGs X [] gNil := by
  intro pins s σ H vs us Q I r h
  obtain ⟨e, h⟩ := h
  subst e
  cases r
  exact assignInOrder_nil ⟨σ, H, I, h⟩
theorem pgs_cons {e : Expr} {es : List Expr} {t : TG} {u : TGs} (h1 : PG X e t) (h2 : PGs X es u)
    (hs : (assignEach (e :: es) X.env).map (·.2) = assign e X.env :: (assignEach es X.env).map (·.2) := by rfl) : PGs X (e :: es) (gCons t u) := by
  intro pins s σ H vs us Q I r h
  obtain ⟨v, vr, e1, h⟩ := h
  subst e1
  cases r with
  | cons r rr =>
    rw [hs]
    refine assignInOrder_cons (thn (h1 pins s σ H _ _ _ I r h) λ _ s1 ⟨σ1, H1, I1, q1⟩ => ?_)
    exact h2 pins s1 σ1 H1 _ _ Q I1 rr q1
def gTup (K : PySem.W.Frag) (n : Nat) (t : TGs) : TG := λ v σ H Q => ∃ a xs, v = .ref a /\ SqT K H a xs /\ xs.length = n /\ t xs σ H Q
theorem pg_tup {es : List Expr} {k : Nat} {t : TGs} {n : Nat} (hc : X.calm = true) (h : PGs X es t)
    (hn : (assignEach es X.env).length = n := by rfl) (hst : (assignEach es X.env).findIdx? (·.1) = none := by rfl) : PG X (.Tuple es k pos) (gTup X.K n t) := by
  intro pins s σ H v u Q I r hw
  obtain ⟨a, xs, e1, hq, hl, hw⟩ := hw
  subst e1
  cases r
  obtain ⟨its, rv, ht, hz⟩ := I.tuple hq
  refine assign_Tuple_tuple (I.ok.hd hc) ht (by simp [hn, <- hl, rv.length]) hst λ h' hx => ?_
  have I1 : Inv X pins σ H { s with heap := h' } := I.kept (t' := s.toks) λ b o e => hx b o (Nat.ne_of_lt (Heap.lt_size e)) e
  exact h pins _ σ H xs _ Q I1 (by simpa using rv) hw
def gSub (to ti : TE) (t : TSet) : TG := λ v σ H Q => to σ H λ o H1 => ti σ H1 λ i H2 => t o i v H2 λ H3 => Q σ H3
theorem pg_sub {o i : Expr} {to ti : TE} {t : TSet} (ho : PE X o to) (hi : PE X i ti) (hs : PSet X t)
    (ha : ∀ v, assign (.Subscript o i pos) X.env v = (do
      let ov <- holding [v] (eval o X.env)
      let iv <- holding [v, ov] (eval i X.env)
      standAt pos
      holding [v, ov, iv] (setItem ov iv v)
      release [v, ov, iv] []) := by intro _; rfl) : PG X (.Subscript o i pos) (gSub to ti t) := by
  intro pins s σ H v u Q I r h
  rw [ha]
  refine wpAny_bind (wpAny_holding (thn (ho pins s σ H _ I h) λ ov s1 ⟨x, H1, I1, r1, q1⟩ => ?_))
  refine wpAny_bind (wpAny_holding (thn (hi pins s1 σ H1 _ I1 q1) λ iv s2 ⟨y, H2, I2, r2, q2⟩ => ?_))
  refine wpAny_bind (wpAny_standAt (wpAny_bind (wpAny_holding (thn (hs pins s2 σ H2 x y v ov iv u _ I2 r1 r2 r q2) λ _ s3 ⟨H3, I3, q3⟩ => ?_))))
  exact wpAny_release ⟨σ, H3, I3, q3⟩
def tAsg (te : TE) (g : TG) : TS := λ D σ H => te σ H λ x H1 => g x σ H1 D.nx
theorem ps_asg {tg e : Expr} {te : TE} {g : TG} (he : PE X e te) (hg : PG X tg g) (hs : swapsWithSole [tg] e pos.line X.env = pure false := by rfl) (hw : swappedStores [tg] e X.env = pure none := by rfl)
    (h1 : (assignEach [tg] X.env).map (·.2) = [assign tg X.env] := by rfl) : PS X (.Assign [tg] e pos) (tAsg te g) := by
  intro pins s σ H D I h
  refine wpAny_Assign_stores (thn (he pins s σ H _ I h) λ v s1 ⟨x, H1, I1, r1, q1⟩ => ?_) hs hw
  rw [h1]
  exact thn (hg pins s1 σ H1 x v _ I1 r1 q1) λ _ s2 q => q
theorem ps_set {i : Nat} {x : Str} {e : Expr} {te : TE} {pos' : Pos} (hN : X.N.Nodup) (hi : X.N[i]? = some x) (hx : Loc X.env.scope x) (he : PE X e te) (hs : swapsWith e (some (.Name x pos')) pos.line X.env = pure false := by rfl) (hf : X.fn x = true \/ X.env.scope.names.lookup x = some .local := by first | exact .inl rfl | exact .inr rfl | assumption) :
    PS X (.Assign [.Name x pos'] e pos) (tAsg te (gName i)) := by
  intro pins s σ H D I h
  refine wpAny_Assign_Name (thn (he pins s σ H _ I h) λ v s1 ⟨y, H1, I1, r1, q1⟩ => ?_) hs
  exact store_ok I1 hN hi hx r1 (λ s2 I2 => ⟨_, H1, I2, q1⟩) hf
end
section
variable {X : Cx} {pos : Pos}
def tWhile (c : TT) (tb : TS) : TS := λ D σ H => ∃ W : Nat -> St -> Hp -> Prop, (∃ m, W m σ H) /\ ∀ m σ H, W m σ H ->
  c σ H λ b H1 => if b = true then ∃ N : St -> Hp -> Prop, (∀ σ' H', N σ' H' -> ∃ m', m' < m /\ W m' σ' H') /\ tb { D with nx := N, ct := N, bk := D.nx } σ H1 else D.nx σ H1
theorem ps_while {c : Expr} {body : List Stmt} {tc : TT} {tb : TS} (hp : PassesOwn (model X.prog X.w) X.A X.env X.xe) (hc : PT X c tc) (hb : PSs X body tb) : PS X (.While c body [] pos) (tWhile tc tb) := by
  intro pins s σ H D I h
  obtain ⟨W, ⟨m0, w0⟩, turn⟩ := h
  refine wpAny_While (codeAny_whileLoop (λ n s' => ∃ σ' H', Inv X pins σ' H' s' /\ W n σ' H') ?_ m0 ⟨σ, H, I, w0⟩)
  rintro n s1 ⟨σ1, H1, I1, w1⟩
  refine wpAny_passesOwn hp (thn (hc pins s1 σ1 H1 _ I1 (turn n σ1 H1 w1)) λ b s2 ⟨H2, I2, q2⟩ => ?_)
  cases b with
  | true =>
    obtain ⟨N, hN, q2⟩ := q2
    rw [if_pos rfl]
    refine wpAny_passesOwn hp (thn (hb pins s2 σ1 H2 _ I2 q2) λ f s3 q3 => ?_)
    cases f with
    | next =>
      obtain ⟨σ3, H3, I3, n3⟩ := q3
      obtain ⟨m', hm, w3⟩ := hN σ3 H3 n3
      exact ⟨m', hm, σ3, H3, I3, w3⟩
    | cont =>
      obtain ⟨σ3, H3, I3, n3⟩ := q3
      obtain ⟨m', hm, w3⟩ := hN σ3 H3 n3
      exact ⟨m', hm, σ3, H3, I3, w3⟩
    | brk => exact q3
    | ret v => exact q3
  | false =>
    rw [if_neg Bool.false_ne_true]
    exact wpAny_execs_nil ⟨σ1, H2, I2, q2⟩
end
structure It where
  go : Nat -> Hp -> Prop
  yld : Nat -> Hp -> V -> Hp -> Prop
  stop : Nat -> Hp -> Prop
def FpOk (X : Cx) (pins : List (Addr × Obj)) (H : Hp) (b : Addr) : Prop :=
  H b = none /\ b ≠ X.env.locals /\ b ∉ X.fs /\ (b ∈ X.ex \/ X.s₀.heap.objs.size <= b) /\ (∀ x c, X.env.cells.lookup x = some c -> c ≠ b) /\ ∀ p ∈ X.pn ++ pins, p.1 ≠ b
theorem Inv.fpOk {X : Cx} {pins : List (Addr × Obj)} {σ : St} {H H' : Hp} {s : Shared} {b : Addr} (I : Inv X pins σ H s) (hb : s.heap.objs.size <= b) (hn : H' b = none) : FpOk X pins H' b := by
  refine ⟨hn, Nat.ne_of_gt (Nat.lt_of_lt_of_le I.lt hb), I.nofs hb, .inr (Nat.le_trans I.sz hb), λ x c e z => ?_, λ p hp z => ?_⟩
  . obtain ⟨v, q⟩ := I.cell x c e
    exact absurd (Nat.lt_of_lt_of_le q.lt (by rw [z]; exact hb)) (Nat.lt_irrefl _)
  . exact absurd (Nat.lt_of_lt_of_le (Heap.lt_size (I.pin p hp).1) (by rw [z]; exact hb)) (Nat.lt_irrefl _)
structure Turn (P : Program) (w : World) (K : PySem.W.Frag) (tg : Expr) (J : It) (fp : List Addr) (it : Addr) (tn : Nat -> Heap -> Prop) : Prop where
  mem : it ∈ fp
  obj : ∀ i h, tn i h -> ∀ b ∈ fp, ∃ o, h.get? b = some o /\ ∀ v, o.data ≠ .cell v
  keep : ∀ i h h', tn i h -> (∀ b ∈ fp, ∀ o, h.get? b = some o -> h'.get? b = some o) -> tn i h'
  item : ∀ (X : Cx), X.prog = P -> X.w = w -> X.K = K -> X.calm = true -> ∀ (i : Nat) (pins : List (Addr × Obj)) (s : Shared) (σ : St) (H : Hp) (E : Value -> Shared -> Prop), Inv X pins σ H s -> (∀ b ∈ fp, FpOk X pins H b) -> tn i s.heap -> J.go i H ->
    wpAny (model P w) X.A (pyNext (.ref it)) (λ r s1 => ∃ u, r = some u /\
      wpAny (model P w) X.A (letOwnedTupleGo tg (.ref it) u) (λ _ s2 => ∃ x H', Inv X pins σ H' s2 /\ RelV x u /\ J.yld i H x H' /\ tn (i + 1) s2.heap /\ ∀ b ∈ fp, H' b = none) E s1) E s
  done : ∀ (X : Cx), X.prog = P -> X.w = w -> X.K = K -> X.calm = true -> ∀ (i : Nat) (pins : List (Addr × Obj)) (s : Shared) (σ : St) (H : Hp) (E : Value -> Shared -> Prop), Inv X pins σ H s -> (∀ b ∈ fp, FpOk X pins H b) -> tn i s.heap -> J.stop i H ->
    wpAny (model P w) X.A (pyNext (.ref it)) (λ r s1 => r = none /\ Inv X pins σ H s1) E s
  self : ∀ (A : Around) (i : Nat) (s : Shared) (Q : Value -> Shared -> Prop) (E : Value -> Shared -> Prop), tn i s.heap -> Q (.ref it) s -> wpAny (model P w) A (pyIter (.ref it)) Q E s
abbrev TI := St -> Hp -> (It -> Hp -> Prop) -> Prop
def PIE (X : Cx) (pins : List (Addr × Obj)) (σ : St) (tg : Expr) (R : It -> Hp -> Prop) (itv : Value) (s2 : Shared) : Prop :=
  ∃ (it : Addr) (fp : List Addr) (tn : Nat -> Heap -> Prop) (J : It) (H' : Hp), itv = .ref it /\ Inv X pins σ H' s2 /\ Turn X.prog X.w X.K tg J fp it tn /\ tn 0 s2.heap /\ (∀ b ∈ fp, FpOk X pins H' b) /\ R J H'
def PI (X : Cx) (tg iter : Expr) (wi : TI) : Prop :=
  ∀ (pins : List (Addr × Obj)) (s : Shared) (σ : St) (H : Hp) (R : It -> Hp -> Prop), Inv X pins σ H s -> wi σ H R ->
    wpAny (model X.prog X.w) X.A (eval iter X.env) (λ v s1 => wpAny (model X.prog X.w) X.A (pyIter v) (PIE X pins σ tg R) X.xe s1) X.xe s
theorem go_of {M : Model} {A : Around} {E : Value -> Shared -> Prop} {s : Shared} {tg : Expr} {it : Addr} {u : Value} {o : Obj} {n : String} {vs : Array Value} {Q : Unit -> Shared -> Prop} (ho : s.heap.get? it = some o) (hc : o.cls = .type n) (hd : o.data = .fields vs)
    (hn : ["enumerate", "zip", "dict_itemiterator", "dict_reverseitemiterator", "odict_iterator", "itertools.zip_longest", "itertools.pairwise"].contains n = false) (hQ : Q () s) : wpAny M A (letOwnedTupleGo tg (.ref it) u) Q E s := by
  unfold letOwnedTupleGo
  cases tg <;> first
    | exact wpAny_pure hQ
    | (cases u <;> first
        | exact wpAny_pure hQ
        | (refine wpAny_bind (wpAny_load ho ?_)
           rw [hc, hd]
           show wpAny M A (if (["enumerate", "zip", "dict_itemiterator", "dict_reverseitemiterator", "odict_iterator", "itertools.zip_longest", "itertools.pairwise"].contains n && vs[0]? == some (rawInt _)) = true then _ else _) Q E s
           rw [if_neg (by intro h; rw [hn, Bool.false_and] at h; cases h)]
           exact wpAny_pure hQ))
def Itl (K : PySem.W.Frag) (a : Addr) : It :=
  ⟨λ i H => ∃ xs x, SqL K H a xs /\ xs[i]? = some x, λ i H x H' => H' = H /\ ∀ xs, SqL K H a xs -> xs[i]? = some x, λ i H => ∃ xs, SqL K H a xs /\ xs.length <= i⟩
def Itr (lo : Int) (n : Nat) : It := ⟨λ i _ => i < n, λ i H x H' => H' = H /\ x = .int (lo + i), λ i _ => n <= i⟩
theorem turn_list {P : Program} {w : World} {K : PySem.W.Frag} {tg : Expr} (a it : Addr) : Turn P w K tg (Itl K a) [it] it (λ i h => h.IsListIter it a i) where
  mem := by simp
  obj := λ i h st b hb => by
    have e : b = it := by simpa using hb
    subst e
    obtain ⟨o, e, c, d⟩ := st
    exact ⟨o, e, λ v z => by rw [d] at z; cases z⟩
  keep := λ i h h' st k => st.at λ o e => k it (by simp) o e
  item := by
    intro X hP hw hK hc i pins s σ H E I hf st hg
    subst hP hw hK
    obtain ⟨xs, x, hq, hx⟩ := hg
    obtain ⟨its, rv, p, hz⟩ := I.list hq
    obtain ⟨u, hu, ru⟩ := rv.get hx
    obtain ⟨f0, f1, f2, f3, f4, f5⟩ := hf it (by simp)
    refine wpAny_pyNext_list_item st p.isList (x := u) (by simpa using hu) λ h' st' sb => ?_
    have I1 : Inv X pins σ H { s with heap := h' } := I.turned (t' := s.toks) (λ b o hb e => (sb.2 b hb).trans e) f0 f1 f3 f4 f5
    obtain ⟨o, e, c, d⟩ := id st'
    exact ⟨u, rfl, go_of (s := { s with heap := h' }) e c d (by decide) ⟨x, H, I1, ru, ⟨rfl, λ ys hy => by rw [I.list_inj hy hq]; exact hx⟩, st', λ b hb => (hf b hb).1⟩⟩
  done := by
    intro X hP hw hK hc i pins s σ H E I hf st hg
    subst hP hw hK
    obtain ⟨xs, hq, hx⟩ := hg
    obtain ⟨its, rv, p, hz⟩ := I.list hq
    obtain ⟨f0, f1, f2, f3, f4, f5⟩ := hf it (by simp)
    have hl := rv.length
    exact wpAny_pyNext_list_end (I.ok.hd hc) st p.isList (by simp; omega) λ h' eb => ⟨rfl, I.turned (t' := s.toks) (λ b o hb e => eb b o hb e) f0 f1 f3 f4 f5⟩
  self := λ _ _ _ _ _ st h => wpAny_pyIter_listiter st h
theorem turn_range {P : Program} {w : World} {K : PySem.W.Frag} {tg : Expr} (it : Addr) (lo : Int) (n : Nat) : Turn P w K tg (Itr lo n) [it] it (λ i h => IsRangeIter h it (lo + (i : Nat) * 1) ((n : Int) - (i : Nat)) 1) where
  mem := by simp
  obj := λ i h st b hb => by
    have e : b = it := by simpa using hb
    subst e
    exact ⟨_, st, λ v z => by
      have z' : Data.fields _ = Data.cell v := z
      cases z'⟩
  keep := λ i h h' st k => k it (by simp) _ st
  item := by
    intro X hP hw hK hc i pins s σ H E I hf st hg
    subst hP hw hK
    obtain ⟨f0, f1, f2, f3, f4, f5⟩ := hf it (by simp)
    have W := Walks.range (prog := X.prog) (w := X.w) (I.ok.hd hc) it lo 1 n
    refine W.item i s _ _ hg st λ v h' tk hv st' kk => ?_
    obtain ⟨t, rfl⟩ := hv
    have I1 : Inv X pins σ H { s with heap := h', toks := tk } := I.turned (λ b o hb e => kk b o (by simpa using hb) e) f0 f1 f3 f4 f5
    refine ⟨_, rfl, go_of (s := { s with heap := h', toks := tk }) (n := "range_iterator") st' rfl rfl (by decide) ⟨.int (lo + i), H, I1, ⟨t, ?_⟩, ⟨rfl, rfl⟩, st', λ b hb => (hf b hb).1⟩⟩
    rw [Int.mul_one]
  done := by
    intro X hP hw hK hc i pins s σ H E I hf st hg
    subst hP hw hK
    obtain ⟨f0, f1, f2, f3, f4, f5⟩ := hf it (by simp)
    exact wpAny_pyNext_range_end (I.ok.hd hc) st (by have : n <= i := hg; omega) λ h' eb => ⟨rfl, I.turned (t' := s.toks) (λ b o hb e => eb b o hb e) f0 f1 f3 f4 f5⟩
  self := λ _ _ _ _ _ st h => wpAny_pyIter_rangeiter st h
end L2
namespace L2
open PySem PySem.Spec PyProof.Rows
section
variable {X : Cx} {tg : Expr}
def iList (K : PySem.W.Frag) (tl : TE) : TI := λ σ H R => tl σ H λ x H1 => ∃ a, x = .ref a /\ (∃ xs, SqL K H1 a xs) /\ R (Itl K a) H1
theorem pi_list {l : Expr} {tl : TE} (hl : PE X l tl) : PI X tg l (iList X.K tl) := by
  intro pins s σ H R I h
  refine thn (hl pins s σ H _ I h) λ v s1 ⟨x, H1, I1, r1, q1⟩ => ?_
  obtain ⟨a, e, ⟨xs, hq⟩, q⟩ := q1
  subst e
  cases r1
  obtain ⟨its, rv, p, hz⟩ := I1.list hq
  refine wpAny_pyIter_list p.isList ?_
  refine ⟨s1.heap.objs.size, [s1.heap.objs.size], _, _, H1, rfl, I1.kept (t' := s1.toks) λ b o e => Heap.get?_push_of_some _ e, turn_list a _, ⟨_, Heap.get?_push_size _ rfl, rfl, rfl⟩, λ b hb => ?_, q⟩
  have e : b = s1.heap.objs.size := by simpa using hb
  subst e
  exact I1.fpOk (Nat.le_refl _) (I1.hok.fresh (Nat.le_refl _))
theorem range_it {pins : List (Addr × Obj)} {σ : St} {H : Hp} {s : Shared} {R : It -> Hp -> Prop} {E : Value -> Shared -> Prop} {lo hi : Int} {t u v : Tok} {tk : Nat} (I : Inv X pins σ H s) (h1 : -(2 ^ 62) <= lo) (h2 : lo < 2 ^ 62) (h3 : -(2 ^ 62) <= hi) (h4 : hi < 2 ^ 62)
    (q : R (Itr lo (hi - lo).toNat) H) : wpAny (model X.prog X.w) X.A (pyIter (.ref s.heap.objs.size)) (PIE X pins σ tg R) E { s with heap := s.heap.push { cls := .type "range", data := .fields #[.int lo t, .int hi u, .int 1 v] }, toks := tk } := by
  refine wpAny_pyIter_range (IsRange.new ..) (small_one h1 h2 h3 h4) ?_
  have I1 : Inv X pins σ H { s with heap := s.heap.push { cls := .type "range", data := .fields #[.int lo t, .int hi u, .int 1 v] }, toks := tk } := I.kept λ b o e => Heap.get?_push_of_some _ e
  refine ⟨(s.heap.push { cls := .type "range", data := .fields #[.int lo t, .int hi u, .int 1 v] }).objs.size, [(s.heap.push { cls := .type "range", data := .fields #[.int lo t, .int hi u, .int 1 v] }).objs.size], _, _, H, rfl,
    I1.kept (t' := tk) λ b o e => Heap.get?_push_of_some _ e, turn_range _ lo (hi - lo).toNat, ?_, λ b hb => ?_, q⟩
  . have e1 : lo + ((0 : Nat) : Int) * 1 = lo := by simp
    have e2 : (((hi - lo).toNat : Nat) : Int) - ((0 : Nat) : Int) = Builtin.Range.rangeSize lo hi 1 := by rw [rangeSize_one]; split <;> omega
    show IsRangeIter _ _ (lo + ((0 : Nat) : Int) * 1) ((((hi - lo).toNat : Nat) : Int) - ((0 : Nat) : Int)) 1
    rw [e1, e2]
    exact Heap.get?_push_size _ rfl
  . have e : b = (s.heap.push { cls := .type "range", data := .fields #[.int lo t, .int hi u, .int 1 v] }).objs.size := by simpa using hb
    subst e
    exact I1.fpOk (Nat.le_refl _) (I1.hok.fresh (Nat.le_refl _))
def iRng1 (ta : TA) : TI := λ σ H R => ta σ H λ vs H1 => ∃ j : Int, vs = [.int j] /\ -(2 ^ 62) <= j /\ j < 2 ^ 62 /\ R (Itr 0 j.toNat) H1
theorem pi_range1 {a : Expr} {ta : TA} {p pos : Pos} (hg : Gl X "range") (hm : X.mg "range" = none) (ha : PA X [a] ta) (hs : starEach [a] X.env = [(false, eval a X.env)] := by rfl) : PI X tg (.Call (.Name "range" p) [a] [] pos) (iRng1 ta) := by
  intro pins s σ H R I h
  refine Call_ (ld_blt I hg hm boot_range (PyProof.Rows.callWith_type1 (thn (ha pos pins s σ H _ I h) λ us s1 ⟨vs, H1, I1, r1, q1⟩ => ?_) hs rfl))
  obtain ⟨j, e, q1, q2, q⟩ := q1
  subst e
  cases r1 with
  | cons r rr =>
    cases rr
    obtain ⟨t, rfl⟩ := r
    exact call_range_1 (range_it I1 (by omega) (by omega) q1 q2 (by simpa using q))
def tFor (wi : TI) (g : TG) (tb : TS) : TS := λ D σ H => wi σ H λ J H1 => ∃ W : Nat -> Nat -> St -> Hp -> Prop, (∃ m, W 0 m σ H1) /\ ∀ i m σ H, W i m σ H ->
  (J.stop i H /\ D.nx σ H) \/ (J.go i H /\ ∃ N : St -> Hp -> Prop, (∀ σ' H', N σ' H' -> ∃ m', m' < m /\ W (i + 1) m' σ' H') /\ ∀ x H', J.yld i H x H' -> g x σ H' λ σ2 H2 => tb { D with nx := N, ct := N, bk := D.nx } σ2 H2)
def pinsAt (fp : List Addr) (h : Heap) : List (Addr × Obj) := fp.filterMap λ b => (h.get? b).map λ o => (b, o)
theorem mem_pinsAt {fp : List Addr} {h : Heap} {b : Addr} {o : Obj} (hb : b ∈ fp) (e : h.get? b = some o) : (b, o) ∈ pinsAt fp h := List.mem_filterMap.mpr ⟨b, hb, by rw [e]; rfl⟩
theorem of_pinsAt {fp : List Addr} {h : Heap} {p : Addr × Obj} (hp : p ∈ pinsAt fp h) : p.1 ∈ fp /\ h.get? p.1 = some p.2 := by
  obtain ⟨b, hb, e⟩ := List.mem_filterMap.mp hp
  cases q : h.get? b with
  | none => rw [q] at e; cases e
  | some o =>
    rw [q] at e
    have e' : (b, o) = p := Option.some.inj e
    subst e'
    exact ⟨hb, q⟩
theorem Inv.pinned {pins : List (Addr × Obj)} {σ : St} {H : Hp} {s : Shared} {fp : List Addr} (I : Inv X pins σ H s) (hf : ∀ b ∈ fp, FpOk X pins H b) (ho : ∀ b ∈ fp, ∃ o, s.heap.get? b = some o /\ ∀ v, o.data ≠ .cell v) : Inv X (pins ++ pinsAt fp s.heap) σ H s :=
  I.pins_of λ p hp => (List.mem_append.mp hp).elim (λ z => I.pin p (List.mem_append_right _ z)) λ z => by
    obtain ⟨hb, e⟩ := of_pinsAt z
    obtain ⟨f0, f1, f2, _⟩ := hf p.1 hb
    obtain ⟨o, e', d⟩ := ho p.1 hb
    rw [e] at e'; cases e'
    exact ⟨e, f0, f1, f2, d⟩
theorem Inv.unpinned {pins pl : List (Addr × Obj)} {σ : St} {H : Hp} {s : Shared} (I : Inv X (pins ++ pl) σ H s) : Inv X pins σ H s := I.pins_of λ p hp => I.pin p (List.mem_append_right _ (List.mem_append_left _ hp))
theorem ps_for {iter : Expr} {body : List Stmt} {wi : TI} {g : TG} {tb : TS} {pos : Pos} (hp : PassesOwn (model X.prog X.w) X.A X.env X.xe) (hc : X.calm = true) (hi : PI X tg iter wi) (hg : PG X tg g) (hb : PSs X body tb)
    (hs : ∀ x, foldedSetIterable iter X.env x = pure x := by intro _; rfl) : PS X (.For tg iter body [] pos) (tFor wi g tb) := by
  intro pins s σ H D I h
  refine wpAny_For (thn (hi pins s σ H _ I h) λ v s1 h1 => thn h1 λ itv s2 h2 => ?_) hs
  obtain ⟨it, fp, tn, J, H2, e, I2, T, st2, f2, W, ⟨m0, w0⟩, turn⟩ := h2
  subst e
  have stat : ∀ {H' : Hp}, (∀ b ∈ fp, H' b = none) -> ∀ b ∈ fp, FpOk X pins H' b := λ hn b hb => ⟨hn b hb, (f2 b hb).2⟩
  refine codeAny_forLoop_any (λ n s' => ∃ i σ' H', Inv X pins σ' H' s' /\ tn i s'.heap /\ (∀ b ∈ fp, H' b = none) /\ W i n σ' H') ?_ m0 ⟨0, σ, H2, I2, st2, λ b hb => (f2 b hb).1, w0⟩
  rintro n s3 ⟨i, σ3, H3, I3, st3, fr3, w3⟩
  rcases turn i n σ3 H3 w3 with ⟨stop, qn⟩ | ⟨go, N, hN, step⟩
  . refine wpAny_passesOwn hp (thn (T.done X rfl rfl rfl hc i pins s3 σ3 H3 X.xe I3 (stat fr3) st3 stop) λ r s4 ⟨hr, I4⟩ => ?_)
    subst hr
    exact wpAny_execs_nil ⟨σ3, H3, I4, qn⟩
  . refine wpAny_passesOwn hp (thn (T.item X rfl rfl rfl hc i pins s3 σ3 H3 X.xe I3 (stat fr3) st3 go) λ r s4 ⟨u, hr, h4⟩ => ?_)
    subst hr
    refine wpAny_passesOwn hp (thn h4 λ _ s5 ⟨x, H5, I5, r5, y5, st5, fr5⟩ => ?_)
    have I5' := I5.pinned (stat fr5) (T.obj _ _ st5)
    refine wpAny_passesOwn hp (thn (hg _ s5 σ3 H5 x u _ I5' r5 (step x H5 y5)) λ _ s6 ⟨σ6, H6, I6, q6⟩ => ?_)
    refine wpAny_passesOwn hp (thn (hb _ s6 σ6 H6 _ I6 q6) λ f s7 q7 => ?_)
    have again : ∀ {σ7 : St} {H7 : Hp}, Inv X (pins ++ pinsAt fp s5.heap) σ7 H7 s7 -> N σ7 H7 -> ∃ m, m < n /\ ∃ i σ' H', Inv X pins σ' H' s7 /\ tn i s7.heap /\ (∀ b ∈ fp, H' b = none) /\ W i m σ' H' := λ {σ7 H7} I7 n7 => by
      obtain ⟨m', hm, w7⟩ := hN σ7 H7 n7
      refine ⟨m', hm, i + 1, σ7, H7, I7.unpinned, T.keep _ _ _ st5 λ b hb o e => (I7.pin (b, o) (List.mem_append_right _ (List.mem_append_right _ (mem_pinsAt hb e)))).1, λ b hb => ?_, w7⟩
      obtain ⟨o, e, d⟩ := T.obj _ _ st5 b hb
      exact (I7.pin (b, o) (List.mem_append_right _ (List.mem_append_right _ (mem_pinsAt hb e)))).2.1
    cases f with
    | next => obtain ⟨σ7, H7, I7, n7⟩ := q7; exact again I7 n7
    | cont => obtain ⟨σ7, H7, I7, n7⟩ := q7; exact again I7 n7
    | brk => obtain ⟨σ7, H7, I7, q7⟩ := q7; exact ⟨σ7, H7, I7.unpinned, q7⟩
    | ret v => obtain ⟨x7, σ7, H7, I7, r7, q7⟩ := q7; exact ⟨x7, σ7, H7, I7.unpinned, r7, q7⟩
end
theorem for_list {K : PySem.W.Frag} {a : Addr} {xs : List V} {g : TG} {tb : TS} {D : Ends} {σ : St} {H : Hp} (Pv : Nat -> St -> Hp -> Prop) (h0 : Pv 0 σ H) (hl : ∀ i σ H, i <= xs.length -> Pv i σ H -> SqL K H a xs)
    (hs : ∀ i x σ H, xs[i]? = some x -> Pv i σ H -> g x σ H λ σ2 H2 => tb { D with nx := Pv (i + 1), ct := Pv (i + 1), bk := D.nx } σ2 H2) (hd : ∀ σ H, Pv xs.length σ H -> D.nx σ H) :
    ∃ W : Nat -> Nat -> St -> Hp -> Prop, (∃ m, W 0 m σ H) /\ ∀ i m σ H, W i m σ H ->
      ((Itl K a).stop i H /\ D.nx σ H) \/ ((Itl K a).go i H /\ ∃ N : St -> Hp -> Prop, (∀ σ' H', N σ' H' -> ∃ m', m' < m /\ W (i + 1) m' σ' H') /\ ∀ x H', (Itl K a).yld i H x H' -> g x σ H' λ σ2 H2 => tb { D with nx := N, ct := N, bk := D.nx } σ2 H2) := by
  refine ⟨λ i m σ H => m = xs.length - i /\ i <= xs.length /\ Pv i σ H, ⟨xs.length, by simp, Nat.zero_le _, h0⟩, ?_⟩
  rintro i m σ H ⟨rfl, hi, p⟩
  have q := hl i σ H hi p
  by_cases hlt : i < xs.length
  . refine .inr ⟨⟨xs, xs[i], q, by simp [hlt]⟩, Pv (i + 1), λ σ' H' p' => ⟨xs.length - (i + 1), by omega, rfl, hlt, p'⟩, λ x H' y => ?_⟩
    obtain ⟨e, y⟩ := y
    subst e
    exact hs i x σ _ (y xs q) p
  . have e : i = xs.length := by omega
    subst e
    exact .inl ⟨⟨xs, q, Nat.le_refl _⟩, hd σ H p⟩
theorem for_range {lo : Int} {n : Nat} {g : TG} {tb : TS} {D : Ends} {σ : St} {H : Hp} (Pv : Nat -> St -> Hp -> Prop) (h0 : Pv 0 σ H)
    (hs : ∀ i σ H, i < n -> Pv i σ H -> g (.int (lo + i)) σ H λ σ2 H2 => tb { D with nx := Pv (i + 1), ct := Pv (i + 1), bk := D.nx } σ2 H2) (hd : ∀ σ H, Pv n σ H -> D.nx σ H) :
    ∃ W : Nat -> Nat -> St -> Hp -> Prop, (∃ m, W 0 m σ H) /\ ∀ i m σ H, W i m σ H ->
      ((Itr lo n).stop i H /\ D.nx σ H) \/ ((Itr lo n).go i H /\ ∃ N : St -> Hp -> Prop, (∀ σ' H', N σ' H' -> ∃ m', m' < m /\ W (i + 1) m' σ' H') /\ ∀ x H', (Itr lo n).yld i H x H' -> g x σ H' λ σ2 H2 => tb { D with nx := N, ct := N, bk := D.nx } σ2 H2) := by
  refine ⟨λ i m σ H => m = n - i /\ i <= n /\ Pv i σ H, ⟨n, by simp, Nat.zero_le _, h0⟩, ?_⟩
  rintro i m σ H ⟨rfl, hi, p⟩
  by_cases hlt : i < n
  . refine .inr ⟨hlt, Pv (i + 1), λ σ' H' p' => ⟨n - (i + 1), by omega, rfl, hlt, p'⟩, λ x H' y => ?_⟩
    obtain ⟨e, y⟩ := y
    subst e y
    exact hs i σ _ hlt p
  . have e : i = n := by omega
    subst e
    exact .inl ⟨Nat.le_refl _, hd σ H p⟩
end L2
namespace L2
open PySem PySem.Spec PyProof.Rows
abbrev R2 := V -> V -> Hp -> VK -> Prop
def OpR (X : Cx) (f : Value -> Value -> Sem Value) (r : R2) : Prop :=
  ∀ (pins : List (Addr × Obj)) (s : Shared) (σ : St) (H : Hp) (x y : V) (v u : Value) (Q : VK), Inv X pins σ H s -> RelV x v -> RelV y u -> r x y H Q ->
    wpAny (model X.prog X.w) X.A (f v u) (EP X pins σ Q) X.xe s
def UnR (X : Cx) (f : Value -> Sem Value) (r : V -> Hp -> VK -> Prop) : Prop :=
  ∀ (pins : List (Addr × Obj)) (s : Shared) (σ : St) (H : Hp) (x : V) (v : Value) (Q : VK), Inv X pins σ H s -> RelV x v -> r x H Q ->
    wpAny (model X.prog X.w) X.A (f v) (EP X pins σ Q) X.xe s
def CallR (X : Cx) (f : Value) (r : List V -> Hp -> VK -> Prop) : Prop :=
  ∀ (pins : List (Addr × Obj)) (s : Shared) (σ : St) (H : Hp) (xs : List V) (us : List Value) (Q : VK), Inv X pins σ H s -> Vals xs us -> r xs H Q ->
    wpAny (model X.prog X.w) X.A (call f us) (EP X pins σ Q) X.xe s
def tOp (r : R2) (ta tb : TE) : TE := λ σ H Q => ta σ H λ x H1 => tb σ H1 λ y H2 => r x y H2 Q
def tUn (r : V -> Hp -> VK -> Prop) (ta : TE) : TE := λ σ H Q => ta σ H λ x H1 => r x H1 Q
def rI (C : Int -> Int -> Prop) (g : Int -> Int -> V) : R2 := λ x y H Q => ∃ i j, x = .int i /\ y = .int j /\ C i j /\ Q (g i j) H
def rI0 (g : Int -> Int -> V) : R2 := λ x y H Q => ∃ i j, x = .int i /\ y = .int j /\ Q (g i j) H
def rU (g : Int -> V) : V -> Hp -> VK -> Prop := λ x H Q => ∃ i, x = .int i /\ Q (g i) H
section
variable {X : Cx} {a b c : Expr} {ta tb tc : TE} {pos : Pos}
theorem binT (ha : PE X a ta) (hb : PE X b tb) {pins : List (Addr × Obj)} {s : Shared} {σ : St} {H : Hp} {R : V -> V -> Hp -> Prop} (I : Inv X pins σ H s)
    (h : ta σ H λ x H1 => tb σ H1 λ y H2 => R x y H2) {Q : Value -> Shared -> Prop} {f : Value -> Value -> Sem Value}
    (hf : ∀ v u s2 x y H2, Inv X pins σ H2 s2 -> RelV x v -> RelV y u -> R x y H2 -> wpAny (model X.prog X.w) X.A (f v u) Q X.xe s2) :
    wpAny (model X.prog X.w) X.A (eval a X.env) (λ v s₁ => wpAny (model X.prog X.w) X.A (eval b X.env) (λ u s₂ => wpAny (model X.prog X.w) X.A (f v u) Q X.xe s₂) X.xe s₁) X.xe s := by
  refine thn (ha pins s σ H _ I h) λ v s1 ⟨x, H1, I1, r1, q1⟩ => ?_
  refine thn (hb pins s1 σ H1 _ I1 q1) λ u s2 ⟨y, H2, I2, r2, q2⟩ => ?_
  exact hf v u s2 x y H2 I2 r1 r2 q2
theorem pe_op {op : Operator} {r : R2} (ho : OpR X (binaryOp op) r) (ha : PE X a ta) (hb : PE X b tb) : PE X (.BinOp a op b pos) (tOp r ta tb) := by
  intro pins s σ H Q I h
  exact wpAny_BinOp (binT ha hb I h λ v u s2 x y H2 I2 rx ry q => ho pins s2 σ H2 x y v u Q I2 rx ry q)
theorem pe_un {op : UnaryOp} {r : V -> Hp -> VK -> Prop} (ho : UnR X (unaryOp op) r) (ha : PE X a ta) : PE X (.UnaryOp op a pos) (tUn r ta) := by
  intro pins s σ H Q I h
  exact UnaryOp_ (thn (ha pins s σ H _ I h) λ v s1 ⟨x, H1, I1, r1, q1⟩ => ho pins s1 σ H1 x v Q I1 r1 q1)
theorem opI {f : Value -> Value -> Sem Value} {C : Int -> Int -> Prop} {g : Int -> Int -> Int}
    (rule : ∀ (i j : Int) (t u : Tok) (s : Shared) (Q : Value -> Shared -> Prop) (E : Value -> Shared -> Prop), C i j -> Q (.int (g i j) s.toks) { s with toks := s.toks + 1 } -> wpAny (model X.prog X.w) X.A (f (.int i t) (.int j u)) Q E s) :
    OpR X f (rI C λ i j => .int (g i j)) := by
  intro pins s σ H x y v u Q I rx ry h
  obtain ⟨i, j, rfl, rfl, hc, q⟩ := h
  obtain ⟨t, rfl⟩ := rx
  obtain ⟨t', rfl⟩ := ry
  exact rule i j t t' s _ _ hc ⟨.int (g i j), H, I.tok _, ⟨_, rfl⟩, q⟩
theorem opI0 {f : Value -> Value -> Sem Value} {g : Int -> Int -> Int}
    (rule : ∀ (i j : Int) (t u : Tok) (s : Shared) (Q : Value -> Shared -> Prop) (E : Value -> Shared -> Prop), Q (.int (g i j) s.toks) { s with toks := s.toks + 1 } -> wpAny (model X.prog X.w) X.A (f (.int i t) (.int j u)) Q E s) :
    OpR X f (rI0 λ i j => .int (g i j)) := by
  intro pins s σ H x y v u Q I rx ry h
  obtain ⟨i, j, rfl, rfl, q⟩ := h
  obtain ⟨t, rfl⟩ := rx
  obtain ⟨t', rfl⟩ := ry
  exact rule i j t t' s _ _ ⟨.int (g i j), H, I.tok _, ⟨_, rfl⟩, q⟩
theorem opB0 {f : Value -> Value -> Sem Value} {g : Int -> Int -> Bool}
    (rule : ∀ (i j : Int) (t u : Tok) (s : Shared) (Q : Value -> Shared -> Prop) (E : Value -> Shared -> Prop), Q (.bool (g i j)) s -> wpAny (model X.prog X.w) X.A (f (.int i t) (.int j u)) Q E s) :
    OpR X f (rI0 λ i j => .bl (g i j)) := by
  intro pins s σ H x y v u Q I rx ry h
  obtain ⟨i, j, rfl, rfl, q⟩ := h
  obtain ⟨t, rfl⟩ := rx
  obtain ⟨t', rfl⟩ := ry
  exact rule i j t t' s _ _ ⟨.bl (g i j), H, I, rfl, q⟩
def CPow (i j : Int) : Prop := 0 <= j /\ j <= 1000000 /\ i.natAbs < 2 ^ 64
theorem op_add : OpR X (binaryOp .Add) (rI0 λ i j => .int (i + j)) := opI0 λ _ _ _ _ _ _ _ q => add_int q
theorem op_sub : OpR X (binaryOp .Sub) (rI0 λ i j => .int (i - j)) := opI0 λ _ _ _ _ _ _ _ q => sub_int q
theorem op_mod : OpR X (binaryOp .Mod) (rI (λ _ j => 0 < j) λ i j => .int (i % j)) := opI λ i j _ _ _ _ _ hc q => by
  have h1 : (0 : Int) < j := hc
  exact mod_int' (by omega) (by rw [Int.fmod_eq_emod_of_nonneg i (by omega)]; exact q)
theorem op_pow : OpR X (binaryOp .Pow) (rI CPow λ i j => .int (i ^ j.toNat)) := opI λ _ _ _ _ _ _ _ hc q => pow_int_small hc.1 hc.2.1 hc.2.2 q
theorem unI {f : Value -> Sem Value} {g : Int -> Int}
    (rule : ∀ (i : Int) (t : Tok) (s : Shared) (Q : Value -> Shared -> Prop) (E : Value -> Shared -> Prop), Q (.int (g i) s.toks) { s with toks := s.toks + 1 } -> wpAny (model X.prog X.w) X.A (f (.int i t)) Q E s) :
    UnR X f (rU λ i => .int (g i)) := by
  intro pins s σ H x v Q I rx h
  obtain ⟨i, rfl, q⟩ := h
  obtain ⟨t, rfl⟩ := rx
  exact rule i t s _ _ ⟨.int (g i), H, I.tok _, ⟨_, rfl⟩, q⟩
theorem un_neg : UnR X (unaryOp .USub) (rU λ i => .int (-i)) := unI λ _ _ _ _ _ q => neg_int q
end
def scal : V -> V -> Bool
  | .non, .non => true | .non, .int _ => true | .int _, .non => true | .non, .bl _ => true | .bl _, .non => true | .non, .str _ => true | .str _, .non => true
  | .int _, .int _ => true | .bl _, .bl _ => true | .str _, .str _ => true | .byt _, .byt _ => true
  | .int _, .str _ => true | .str _, .int _ => true | .bl _, .str _ => true | .str _, .bl _ => true
  | _, _ => false
def rEq : R2 := λ x y H Q => scal x y = true /\ Q (.bl (decide (x = y))) H
def rNe : R2 := λ x y H Q => scal x y = true /\ Q (.bl (!decide (x = y))) H
theorem dec_int {i j : Int} : decide (V.int i = V.int j) = (i == j) := by
  rw [Bool.eq_iff_iff]
  simp
theorem dec_bl {i j : Bool} : decide (V.bl i = V.bl j) = (i == j) := by
  rw [Bool.eq_iff_iff]
  simp
theorem dec_str {i j : Str} : decide (V.str i = V.str j) = (i == j) := by
  rw [Bool.eq_iff_iff]
  simp
theorem dec_byt {i j : Array UInt8} : decide (V.byt i = V.byt j) = (i.toList == j.toList) := by
  rw [Bool.eq_iff_iff]
  cases i
  cases j
  simp
section
variable {X : Cx} {a b c : Expr} {ta tb tc : TE} {pos : Pos}
theorem fin_bl {pins : List (Addr × Obj)} {σ : St} {H : Hp} {s : Shared} {Q : VK} {k k' : Bool} (I : Inv X pins σ H s) (q : Q (.bl k) H) (e : k = k') : EP X pins σ Q (.bool k') s := by
  subst e
  exact ⟨.bl k, H, I, rfl, q⟩
theorem op_eq : OpR X (compareOp .Eq) rEq := by
  intro pins s σ H x y v u Q I rx ry h
  obtain ⟨hs, q⟩ := h
  cases x with
  | non =>
    cases rx
    cases y with
    | non => cases ry; exact PySem.EqNone.eq_none_none (fin_bl I q (by simp))
    | bl j => cases ry; exact PySem.EqNone.eq_none_bool (fin_bl I q (by simp))
    | int j => obtain ⟨t', rfl⟩ := ry; exact PySem.EqNone.eq_none_int (fin_bl I q (by simp))
    | str j => obtain ⟨t', rfl⟩ := ry; exact PySem.EqNone.eq_none_str (fin_bl I q (by simp))
    | _ => exact absurd (show false = true from hs) Bool.false_ne_true
  | bl i =>
    cases rx
    cases y with
    | non => cases ry; exact PySem.EqNone.eq_bool_none (fin_bl I q (by simp))
    | bl j => cases ry; exact eq_bool (fin_bl I q dec_bl)
    | str j => obtain ⟨t', rfl⟩ := ry; exact PySem.EqMixed.eq_bool_str (fin_bl I q (by simp))
    | _ => exact absurd (show false = true from hs) Bool.false_ne_true
  | int i =>
    obtain ⟨t, rfl⟩ := rx
    cases y with
    | non => cases ry; exact PySem.EqNone.eq_int_none (fin_bl I q (by simp))
    | int j => obtain ⟨t', rfl⟩ := ry; exact eq_int (fin_bl I q dec_int)
    | str j => obtain ⟨t', rfl⟩ := ry; exact PySem.EqMixed.eq_int_str (fin_bl I q (by simp))
    | _ => exact absurd (show false = true from hs) Bool.false_ne_true
  | str i =>
    obtain ⟨t, rfl⟩ := rx
    cases y with
    | non => cases ry; exact PySem.EqNone.eq_str_none (fin_bl I q (by simp))
    | bl j => cases ry; exact PySem.EqMixed.eq_str_bool (fin_bl I q (by simp))
    | int j => obtain ⟨t', rfl⟩ := ry; exact PySem.EqMixed.eq_str_int (fin_bl I q (by simp))
    | str j => obtain ⟨t', rfl⟩ := ry; exact eq_str (fin_bl I q dec_str)
    | _ => exact absurd (show false = true from hs) Bool.false_ne_true
  | byt i =>
    obtain ⟨t, rfl⟩ := rx
    cases y with
    | byt j => obtain ⟨t', rfl⟩ := ry; exact PySem.W.eq_bytes (fin_bl I q dec_byt)
    | _ => exact absurd (show false = true from hs) Bool.false_ne_true
  | _ => cases y <;> exact absurd (show false = true from hs) Bool.false_ne_true
theorem op_ne : OpR X (compareOp .NotEq) rNe := by
  intro pins s σ H x y v u Q I rx ry h
  obtain ⟨hs, q⟩ := h
  cases x with
  | non =>
    cases rx
    cases y with
    | non => cases ry; exact PySem.EqNone.ne_none_none (fin_bl I q (by simp))
    | bl j => cases ry; exact PySem.EqNone.ne_none_bool (fin_bl I q (by simp))
    | int j => obtain ⟨t', rfl⟩ := ry; exact PySem.EqNone.ne_none_int (fin_bl I q (by simp))
    | str j => obtain ⟨t', rfl⟩ := ry; exact PySem.EqNone.ne_none_str (fin_bl I q (by simp))
    | _ => exact absurd (show false = true from hs) Bool.false_ne_true
  | bl i =>
    cases rx
    cases y with
    | non => cases ry; exact PySem.EqNone.ne_bool_none (fin_bl I q (by simp))
    | bl j => cases ry; exact ne_bool (fin_bl I q (congrArg not dec_bl))
    | str j => obtain ⟨t', rfl⟩ := ry; exact PySem.EqMixed.ne_bool_str (fin_bl I q (by simp))
    | _ => exact absurd (show false = true from hs) Bool.false_ne_true
  | int i =>
    obtain ⟨t, rfl⟩ := rx
    cases y with
    | non => cases ry; exact PySem.EqNone.ne_int_none (fin_bl I q (by simp))
    | int j => obtain ⟨t', rfl⟩ := ry; exact ne_int (fin_bl I q (congrArg not dec_int))
    | str j => obtain ⟨t', rfl⟩ := ry; exact PySem.EqMixed.ne_int_str (fin_bl I q (by simp))
    | _ => exact absurd (show false = true from hs) Bool.false_ne_true
  | str i =>
    obtain ⟨t, rfl⟩ := rx
    cases y with
    | non => cases ry; exact PySem.EqNone.ne_str_none (fin_bl I q (by simp))
    | bl j => cases ry; exact PySem.EqMixed.ne_str_bool (fin_bl I q (by simp))
    | int j => obtain ⟨t', rfl⟩ := ry; exact PySem.EqMixed.ne_str_int (fin_bl I q (by simp))
    | str j => obtain ⟨t', rfl⟩ := ry; exact ne_str (fin_bl I q (congrArg not dec_str))
    | _ => exact absurd (show false = true from hs) Bool.false_ne_true
  | byt i =>
    obtain ⟨t, rfl⟩ := rx
    cases y with
    | byt j => obtain ⟨t', rfl⟩ := ry; exact PySem.W.ne_bytes (fin_bl I q (congrArg not dec_byt))
    | _ => exact absurd (show false = true from hs) Bool.false_ne_true
  | _ => cases y <;> exact absurd (show false = true from hs) Bool.false_ne_true
theorem op_lt : OpR X (compareOp .Lt) (rI0 λ i j => .bl (decide (i < j))) := opB0 λ _ _ _ _ _ _ _ q => lt_int q
theorem op_gt : OpR X (compareOp .Gt) (rI0 λ i j => .bl (decide (j < i))) := opB0 λ _ _ _ _ _ _ _ q => gt_int q
theorem op_ge : OpR X (compareOp .GtE) (rI0 λ i j => .bl (decide (j <= i))) := opB0 λ _ _ _ _ _ _ _ q => ge_int q
theorem op_notN : OpR X (compareOp .IsNot) (λ x y H Q => y = .non /\ Q (.bl (!decide (x = .non))) H) := by
  intro pins s σ H x y v u Q I rx ry h
  obtain ⟨rfl, q⟩ := h
  cases ry
  refine isnot_none_gen (fin_bl I q ?_)
  cases x <;> first
    | (cases rx; rfl)
    | (obtain ⟨t, rfl⟩ := rx; rfl)
theorem nomark (b : Expr) {op : CmpOp} (h : op ≠ .In := by decide) (h2 : op ≠ .NotIn := by decide) : behindInMarks op b = false := by
  have e1 : (op == CmpOp.In) = false := by cases op <;> first | rfl | exact absurd rfl h
  have e2 : (op == CmpOp.NotIn) = false := by cases op <;> first | rfl | exact absurd rfl h2
  cases b <;> simp [behindInMarks, e1, e2]
theorem pe_cmpR {op : CmpOp} {r : R2} (ho : OpR X (compareOp op) r) (ha : PE X a ta) (hb : PE X b tb) (hm : behindInMarks op b = false) : PE X (.Compare a [op] [b] pos) (tOp r ta tb) := by
  intro pins s σ H Q I h
  exact wpAny_Compare1 (binT ha hb I h λ v u s2 x y H2 I2 rx ry q => ho pins s2 σ H2 x y v u Q I2 rx ry q) hm
def tTest (t : TE) : TT := λ σ H Q => t σ H λ x H' => ∃ k, x = .bl k /\ Q k H'
theorem pt_cmpR {op : CmpOp} {r : R2} (ho : OpR X (compareOp op) r) (ha : PE X a ta) (hb : PE X b tb) (hm : behindInMarks op b = false) : PT X (.Compare a [op] [b] pos) (tTest (tOp r ta tb)) := by
  intro pins s σ H Q I h
  refine wpAny_isTrue_Compare1 (thn (ha pins s σ H _ I h) λ v s1 ⟨x, H1, I1, r1, q1⟩ => thn (hb pins s1 σ H1 _ I1 q1) λ u s2 ⟨y, H2, I2, r2, q2⟩ =>
    thn (ho pins s2 σ H2 x y v u _ I2 r1 r2 q2) λ c s3 ⟨z, H3, I3, r3, k, e, q3⟩ => ?_) hm
  subst e
  cases r3
  exact wpAny_truthy_bool ⟨H3, I3, q3⟩
theorem line63 : (sizeLine : Nat) < 2 ^ 63 := by rw [sizeLine_eq]; decide
theorem vals1 {x : V} {us : List Value} (r : Vals [x] us) : ∃ u, us = [u] /\ RelV x u := by
  cases r with
  | cons r1 r2 => cases r2; exact ⟨_, rfl, r1⟩
theorem vals2 {x y : V} {us : List Value} (r : Vals [x, y] us) : ∃ u w', us = [u, w'] /\ RelV x u /\ RelV y w' := by
  cases r with
  | cons r1 r2 =>
    cases r2 with
    | cons r3 r4 => cases r4; exact ⟨_, _, rfl, r1, r3⟩
theorem call_max2 (hc : X.calm = true) : CallR X (.builtin "max") (λ xs H Q => ∃ i j, xs = [.int i, .int j] /\ Q (.int (if j > i then j else i)) H) := by
  intro pins s σ H xs us Q I r h
  obtain ⟨i, j, rfl, q⟩ := h
  obtain ⟨u, w', rfl, ⟨t, rfl⟩, ⟨t', rfl⟩⟩ := vals2 r
  refine max_two_ints (I.ok.hd hc) λ h' tk k => ⟨_, H, I.kept k, ?_, q⟩
  by_cases hj : j > i
  . rw [if_pos hj, if_pos hj]; exact ⟨_, rfl⟩
  . rw [if_neg hj, if_neg hj]; exact ⟨_, rfl⟩
theorem call_min2 (hc : X.calm = true) : CallR X (.builtin "min") (λ xs H Q => ∃ i j, xs = [.int i, .int j] /\ Q (.int (if j < i then j else i)) H) := by
  intro pins s σ H xs us Q I r h
  obtain ⟨i, j, rfl, q⟩ := h
  obtain ⟨u, w', rfl, ⟨t, rfl⟩, ⟨t', rfl⟩⟩ := vals2 r
  refine min_two_ints (I.ok.hd hc) λ h' tk k => ⟨_, H, I.kept k, ?_, q⟩
  by_cases hj : j < i
  . rw [if_pos hj, if_pos hj]; exact ⟨_, rfl⟩
  . rw [if_neg hj, if_neg hj]; exact ⟨_, rfl⟩
end
end L2
namespace L2
open PySem PySem.Spec PyProof.Rows
structure ObjM (h : Heap) (x dx C : Addr) (mA : Str -> Option Value) : Prop where
  obj : h.get? x = some (PySem.W.instObj C dx)
  ns : h.Ns1 dx mA
  ne : dx ≠ x
theorem lookIn_ns {h : Heap} {dx : Addr} {mA : Str -> Option Value} (n : h.Ns1 dx mA) : ∃ od, h.get? dx = some od /\ ∀ name, PySem.W.lookIn name od = some (mA name) := by
  obtain ⟨o, es, ep, ho, hd, hk, _, hm⟩ := n
  refine ⟨o, ho, λ name => ?_⟩
  have e := hm name
  unfold nsFind findBy at e
  rw [<- Array.find?_toList] at e
  unfold PySem.W.lookIn
  rw [hd]
  dsimp only
  split
  . rename_i y q
    rw [q] at e
    exact congrArg some e
  . rename_i q
    rw [q] at e
    have a : es.toList.any (·.refKey) = false := by
      rw [List.any_eq_false]
      intro y hy
      obtain ⟨z, t, hkey⟩ := hk y (Array.mem_toList_iff.mp hy)
      simp [DictEntry.refKey, hkey]
    have a' : ¬ es.toList.any (·.refKey) = true := by rw [a]; exact Bool.false_ne_true
    rw [if_neg a']
    exact congrArg some e
theorem ObjM.look {h : Heap} {x dx C : Addr} {mA : Str -> Option Value} (I : ObjM h x dx C mA) : ∃ od, PySem.W.InstAt h x (PySem.W.instObj C dx) C (some od) /\ ∀ name, PySem.W.lookIn name od = some (mA name) :=
  let ⟨od, ho, hl⟩ := lookIn_ns I.ns
  ⟨od, ⟨I.obj, rfl, rfl, ho⟩, hl⟩
section
variable {prog : Program} {w : World} {A : Around} {E : Value -> Shared -> Prop} {s : Shared} {K : PySem.W.Frag} {x dx C f : Addr} {mA : Str -> Option Value} {name : Str} {v : Value}
theorem get_map {expr : Bool} {Q : Value -> Shared -> Prop} (X : K.In s.heap) (I : ObjM s.heap x dx C mA) (hg : PySem.W.plainGet K C name = true) (hh : PySem.W.hasDictIn K C = true)
    (ha : PySem.W.findIn K (.ref C) name = some none) (hv : mA name = some v) (hv' : PySem.W.handedIn v = true) (h : Q v { s with toks := s.toks + 1 }) :
    wpAny (model prog w) A (getAttr (.ref x) name expr) Q E s := by
  obtain ⟨od, J, hl⟩ := I.look
  exact PySem.W.get_value X J (PySem.W.plainGet_of hg).1 (PySem.W.findObj_own hh ha rfl (by rw [hl, hv])) hv' h
theorem get_meth {pl : Sem Bool} {Q : Value × List Value -> Shared -> Prop} (X : K.In s.heap) (I : ObjM s.heap x dx C mA) (hg : PySem.W.plainGet K C name = true)
    (hf : PySem.W.findIn K (.ref C) name = some (some (.ref f))) (ht : PySem.W.isFn K (.ref f) = true) (hv : mA name = none) (h : Q (.ref f, [.ref x]) s) :
    wpAny (model prog w) A (getMethod (.ref x) name pl) Q E s := by
  obtain ⟨od, J, hl⟩ := I.look
  exact PySem.W.method_fn X J (PySem.W.plainGet_of hg).1 (PySem.W.plainGet_of hg).2 hf (beq_iff_eq.mp ht) (by show (PySem.W.lookIn name od).map (·.isSome) = some false; rw [hl, hv]; rfl) h
theorem set_map {ns : List Str} {Q : Unit -> Shared -> Prop} (X : K.In s.heap) (I : ObjM s.heap x dx C mA)
    (hs : PySem.W.findIn K (.ref C) "__setattr__" = some (some (.builtin "object.__setattr__"))) (hp : PySem.W.plainOver K C = true) (ht : PySem.W.takerIn K C name = some none) (hh : PySem.W.hasDictIn K C = true)
    (hw : PySem.Within mA ns) (hsz : ns.length <= sizeLine)
    (h : ∀ h', ObjM h' x dx C (λ y => if y = name then some v else mA y) -> Heap.SameBut dx s.heap h' -> Q () { s with heap := h', toks := s.toks + 2 }) :
    wpAny (model prog w) A (setAttr (.ref x) name v) Q E s := by
  obtain ⟨od, J, hl⟩ := I.look
  refine PySem.W.set_plain X J hs (PySem.W.osa_open (s := { s with toks := s.toks + 1 }) (r := none) X J hp ht λ b => ?_)
  obtain ⟨cd, hc, hd'⟩ := PySem.W.any_some hh
  have hx : s.heap.get? x = some ⟨.ref C, some dx, .plain, #[]⟩ := I.obj
  refine wpAny_bind (wpAny_pure (wpAny_bind (wpAny_bind (wpAny_loadPart hx (wpAny_bind (PySem.W.Looks.here (s := { s with toks := s.toks + 1 }) (PySem.W.looks_clsIn X hc) ?_))))))
  rw [hd']
  refine wpAny_pure (a := some dx) (wpAny_bind (wpAny_pure (wpAny_bind ?_)))
  refine wpAny_nsSet1 (s := { s with toks := s.toks + 1 }) I.ns λ h' hn2 hs2 => ?_
  obtain ⟨oD, esD, epD, hoD, hdD, hcD⟩ := hn2.count (PySem.Within.cons name v hw)
  refine wpAny_bind (wpAny_lookBehind hoD (by rw [hdD]; exact pastItsLine_dict (Nat.le_trans hcD (by rw [List.length_cons]; omega))) ?_)
  exact wpAny_pure (h _ ⟨(hs2.2 _ (Ne.symm I.ne)).trans I.obj, hn2, I.ne⟩ hs2)
theorem make_map {R : Result -> Shared -> Prop} {vs : List Value} {kw : List (Str × Value)} (X : K.In s.heap) (hm : PySem.W.makesIn K C = true)
    (hi : PySem.W.findIn K (.ref C) "__init__" = some (some (.ref f))) (hf : PySem.W.typeIn K (.ref f) = some (.type "function"))
    (h : codeAny (model prog w) (A.under (.builtin "type.__call__" ⟨.ref C :: vs, kw⟩)) (.call (.ref f) ⟨.ref (s.heap.objs.size + 1) :: vs, kw⟩) (PySem.W.InitBack (s.heap.objs.size + 1) R)
      { s with heap := (s.heap.push PySem.W.emptyDict).push (PySem.W.instObj C s.heap.objs.size) }) :
    codeAny (model prog w) A (.call (.ref C) ⟨vs, kw⟩) R s := by
  obtain ⟨hh, g, d, t, os⟩ := s
  exact PySem.W.make_core (PySem.W.makes_of X hm) (PySem.W.looks_findIn X hi) (λ self => PySem.W.bind_fn X self hf) (.inl rfl) h
end
def putF (f : Str) (v : V) : List (Str × V) -> List (Str × V)
  | [] => [(f, v)]
  | (g, x) :: r => if g = f then (g, v) :: r else (g, x) :: putF f v r
theorem lookup_putF (f g : Str) (v : V) : ∀ fs : List (Str × V), (putF f v fs).lookup g = if g = f then some v else fs.lookup g
  | [] => by
    show List.lookup g [(f, v)] = _
    by_cases h : g = f
    . have hb : (g == f) = true := beq_iff_eq.mpr h
      simp only [List.lookup, hb, if_pos h]
    . have hb : (g == f) = false := beq_eq_false_iff_ne.mpr h
      simp only [List.lookup, hb, if_neg h]
  | (k, x) :: r => by
    have ih := lookup_putF f g v r
    rw [show putF f v ((k, x) :: r) = (if k = f then (k, v) :: r else (k, x) :: putF f v r) from rfl]
    by_cases hk : k = f
    . rw [if_pos hk]
      by_cases h : g = k
      . have hb : (g == k) = true := beq_iff_eq.mpr h
        simp only [List.lookup, hb, if_pos (h.trans hk)]
      . have hb : (g == k) = false := beq_eq_false_iff_ne.mpr h
        simp only [List.lookup, hb, if_neg (λ e : g = f => h (e.trans hk.symm))]
    . rw [if_neg hk]
      by_cases h : g = k
      . have hb : (g == k) = true := beq_iff_eq.mpr h
        simp only [List.lookup, hb, if_neg (λ e : g = f => hk (h.symm.trans e))]
      . have hb : (g == k) = false := beq_eq_false_iff_ne.mpr h
        simp only [List.lookup, hb]
        exact ih
theorem keys_putF (f : Str) (v : V) : ∀ fs : List (Str × V), f ∈ (putF f v fs).map (·.1) /\ ∀ g, g ∈ fs.map (·.1) -> g ∈ (putF f v fs).map (·.1)
  | [] => ⟨by simp [putF], λ g h => by simp at h⟩
  | (k, x) :: r => by
    obtain ⟨i1, i2⟩ := keys_putF f v r
    rw [show putF f v ((k, x) :: r) = (if k = f then (k, v) :: r else (k, x) :: putF f v r) from rfl]
    by_cases hk : k = f
    . rw [if_pos hk]
      subst hk
      exact ⟨by simp, λ g h => by simpa using h⟩
    . rw [if_neg hk]
      refine ⟨?_, λ g h => ?_⟩
      . rw [List.map_cons]
        exact List.mem_cons_of_mem _ i1
      . rw [List.map_cons] at h ⊢
        rcases List.mem_cons.mp h with e | e
        . exact List.mem_cons.mpr (.inl e)
        . exact List.mem_cons_of_mem _ (i2 g e)
theorem length_putF (f : Str) (v : V) : ∀ fs : List (Str × V), (putF f v fs).length <= fs.length + 1
  | [] => by simp [putF]
  | (k, x) :: r => by
    have ih := length_putF f v r
    rw [show putF f v ((k, x) :: r) = (if k = f then (k, v) :: r else (k, x) :: putF f v r) from rfl]
    by_cases hk : k = f
    . rw [if_pos hk, List.length_cons, List.length_cons]; omega
    . rw [if_neg hk, List.length_cons, List.length_cons]; omega
theorem RelO.some_of {v : V} {o : Option Value} (r : RelO (some v) o) : ∃ u, o = some u /\ RelV v u := by
  cases o with
  | none => exact (show False from r).elim
  | some u => exact ⟨u, rfl, r⟩
theorem RelO.none_of {o : Option Value} (r : RelO none o) : o = none := by
  cases o with
  | none => rfl
  | some u => exact (show False from r).elim
theorem handed_of {v : V} {u : Value} (r : RelV v u) : PySem.W.handedIn u = true := by
  cases v with
  | non => cases (show u = Value.none from r); rfl
  | bl b => cases (show u = Value.bool b from r); rfl
  | int i => obtain ⟨t, e⟩ := (show ∃ t, u = Value.int i t from r); cases e; rfl
  | str x => obtain ⟨t, e⟩ := (show ∃ t, u = Value.str x t from r); cases e; rfl
  | byt b => obtain ⟨t, e⟩ := (show ∃ t, u = Value.bytes b t from r); cases e; rfl
  | flt b => obtain ⟨t, e⟩ := (show ∃ t, u = Value.float b t from r); cases e; rfl
  | ref a => cases (show u = Value.ref a from r); rfl
  | ty n => cases (show u = Value.type n from r); rfl
section
variable {P : Program} {w : World} {H H' : Hp} {h h' : Heap} {a C dx : Addr} {fs fs' : List (Str × V)}
theorem ins_get (hok : HOk P w H h) (e : H a = some (.ins C dx fs)) : ∃ mA, ObjM h a dx C mA /\ (∀ f, RelO (fs.lookup f) (mA f)) /\ PySem.Within mA (fs.map (·.1)) /\ fs.length <= 1000 /\ H dx = some (.own a) := by
  obtain ⟨d, z, ne, ob, mA, n, r, q⟩ := (show ObjOk P w H h a (.ins C dx fs) from hok a _ e)
  exact ⟨mA, ⟨ob, n, ne⟩, r, q, z, d⟩
end
structure Cls (K : PySem.W.Frag) (C : Addr) : Prop where
  pg : PySem.W.plainGet K C Str.empty = true
  hd : PySem.W.hasDictIn K C = true
  po : PySem.W.plainOver K C = true
  sa : PySem.W.findIn K (.ref C) "__setattr__" = some (some (.builtin "object.__setattr__"))
theorem Cls.get {K : PySem.W.Frag} {C : Addr} (c : Cls K C) (f : Str) : PySem.W.plainGet K C f = true := c.pg
def NoAttr (K : PySem.W.Frag) (C : Addr) (f : Str) : Prop := PySem.W.findIn K (.ref C) f = some none
theorem NoAttr.taker {K : PySem.W.Frag} {C : Addr} {f : Str} (n : NoAttr K C f) : PySem.W.takerIn K C f = some none := by
  unfold PySem.W.takerIn
  rw [show PySem.W.findIn K (.ref C) f = some none from n]
  rfl
structure Con (K : PySem.W.Frag) (C : Addr) (f : Str) (v : V) (u : Value) : Prop where
  at_ : PySem.W.findIn K (.ref C) f = some (some u)
  rel : RelV v u
  get : PySem.W.specialIn K u "__get__" = some none
  cp : PySem.W.copiedNames.contains f = false
structure Meth (K : PySem.W.Frag) (C : Addr) (m : Str) (f : Addr) : Prop where
  at_ : PySem.W.findIn K (.ref C) m = some (some (.ref f))
  fn : PySem.W.isFn K (.ref f) = true
  kp : PySem.W.keepIn K (.ref f) = true
section
variable {X : Cx} {pins : List (Addr × Obj)} {σ : St} {H : Hp} {s : Shared} {a C dx : Addr} {fs : List (Str × V)} {f : Str} {v : V} {A : Around} {E : Value -> Shared -> Prop}
theorem getattr_ok {b : Bool} {Q : Value -> Shared -> Prop} (I : Inv X pins σ H s) (e : H a = some (.ins C dx fs)) (c : Cls X.K C) (n : NoAttr X.K C f) (l : fs.lookup f = some v)
    (h : ∀ u s', Inv X pins σ H s' -> RelV v u -> Q u s') : wpAny (model X.prog X.w) A (getAttr (.ref a) f b) Q E s := by
  obtain ⟨mA, O, r, _, _, _⟩ := ins_get I.hok e
  obtain ⟨u, hu, ru⟩ := RelO.some_of (v := v) (o := mA f) (by rw [<- l]; exact r f)
  exact get_map I.kIn O (c.get f) c.hd n hu (handed_of ru) (h u _ (I.tok _) ru)
theorem getmeth_ok {m : Str} {g : Addr} {pl : Sem Bool} {Q : Value × List Value -> Shared -> Prop} (I : Inv X pins σ H s) (e : H a = some (.ins C dx fs)) (c : Cls X.K C) (k : Meth X.K C m g) (l : fs.lookup m = none)
    (h : Q (.ref g, [.ref a]) s) : wpAny (model X.prog X.w) A (getMethod (.ref a) m pl) Q E s := by
  obtain ⟨mA, O, r, _, _, _⟩ := ins_get I.hok e
  have hn : mA m = none := RelO.none_of (by rw [<- l]; exact r m)
  exact get_meth I.kIn O (c.get m) k.at_ k.fn hn h
theorem setattr_ok {y : V} {u : Value} {Q : Unit -> Shared -> Prop} (I : Inv X pins σ H s) (e : H a = some (.ins C dx fs)) (c : Cls X.K C) (n : NoAttr X.K C f) (hl : fs.length < 1000) (ry : RelV y u)
    (h : ∀ s', Inv X pins σ (upd H a (.ins C dx (putF f y fs))) s' -> Q () s') : wpAny (model X.prog X.w) A (setAttr (.ref a) f u) Q E s := by
  obtain ⟨mA, O, r, wi, _, ho⟩ := ins_get I.hok e
  have hz : (fs.map (·.1)).length <= sizeLine := by rw [List.length_map, sizeLine_eq]; omega
  refine set_map I.kIn O c.sa c.po n.taker c.hd wi hz λ h' O' sb => h _ ?_
  have hd : ∃ o, h'.get? dx = some o := let ⟨o, _, _, e', _⟩ := O'.ns; ⟨o, e'⟩
  refine I.write (x := a) (e := dx) (by rw [e]; exact True.intro) (.inr ho) (λ b q hb z => (sb.2 b hb).trans z) hd ?_
  refine ⟨by rw [upd_ne O.ne]; exact ho, ?_, O.ne, O'.obj, _, O'.ns, λ g => ?_, λ g hg => ?_⟩
  . have := length_putF f y fs; omega
  . show RelO ((putF f y fs).lookup g) (if g = f then some u else mA g)
    rw [lookup_putF]
    by_cases q : g = f
    . rw [if_pos q, if_pos q]; exact ry
    . rw [if_neg q, if_neg q]; exact r g
  . by_cases q : g = f
    . rw [q]; exact (keys_putF f y fs).1
    . refine (keys_putF f y fs).2 g (wi g λ z => hg ?_)
      show (if g = f then some u else mA g) = none
      rw [if_neg q]; exact z
theorem Inv.made (I : Inv X pins σ H s) : Inv X pins σ (upd (upd H s.heap.objs.size (.own (s.heap.objs.size + 1))) (s.heap.objs.size + 1) (.ins C s.heap.objs.size []))
    { s with heap := (s.heap.push PySem.W.emptyDict).push (PySem.W.instObj C s.heap.objs.size) } := by
  have e1 : (s.heap.push PySem.W.emptyDict).get? s.heap.objs.size = some PySem.W.emptyDict := Heap.get?_push_size s.heap rfl
  have e2 : ((s.heap.push PySem.W.emptyDict).push (PySem.W.instObj C s.heap.objs.size)).get? (s.heap.objs.size + 1) = some (PySem.W.instObj C s.heap.objs.size) := by
    have := Heap.get?_push_size (s.heap.push PySem.W.emptyDict) (o := PySem.W.instObj C s.heap.objs.size) rfl
    rwa [Heap.size_push] at this
  have e3 : (s.heap.push PySem.W.emptyDict).Ns s.heap.objs.size (λ _ => none) := ⟨PySem.W.emptyDict, #[], _, e1, rfl, (λ e he => absurd he (by simp)), λ _ => rfl⟩
  have I1 := I.laid (a := s.heap.objs.size) (o := .own (s.heap.objs.size + 1)) (h' := s.heap.push PySem.W.emptyDict) (t' := s.toks) (λ b u q => Heap.get?_push_of_some _ q) (Nat.le_refl _) ⟨_, e1⟩
  refine I1.laid (a := s.heap.objs.size + 1) (o := .ins C s.heap.objs.size []) (t' := s.toks) (λ b u q => Heap.get?_push_of_some _ q) (Nat.le_of_eq (Heap.size_push _ _)) ?_
  have ne : s.heap.objs.size ≠ s.heap.objs.size + 1 := Nat.ne_of_lt (Nat.lt_succ_self _)
  refine ⟨by rw [upd_ne ne, upd_same], Nat.zero_le _, ne, e2, λ _ => none, (Heap.Ns1.of_empty e3).at λ o q => Heap.get?_push_of_some _ q, λ _ => True.intro, λ y hy => absurd rfl hy⟩
theorem attr_of {prog : Program} {w : World} {env : Env} {e : Expr} {f : Str} {pos : Pos} {s : Shared} {Q : Value -> Shared -> Prop} (hb : attributeBase e f env (eval e env) = eval e env)
    (h : wpAny (model prog w) A (eval e env) (λ o s₁ => wpAny (model prog w) A (getAttr o f true) Q E s₁) E s) : wpAny (model prog w) A (eval (.Attribute e f pos) env) Q E s :=
  Attribute_any_ h (by rw [arm_eval_Attribute, hb])
end
def tFld (K : PySem.W.Frag) (ta : TE) (f : Str) : TE := λ σ H Q => ta σ H λ x H1 => ∃ a C dx fs v, x = .ref a /\ H1 a = some (.ins C dx fs) /\ Cls K C /\ NoAttr K C f /\ fs.lookup f = some v /\ Q v H1
def sFld (K : PySem.W.Frag) (ta tv : TE) (f : Str) : TS := λ D σ H => tv σ H λ y H1 => ta σ H1 λ x H2 => ∃ a C dx fs, x = .ref a /\ H2 a = some (.ins C dx fs) /\ Cls K C /\ NoAttr K C f /\ fs.length < 1000 /\
  D.nx σ (upd H2 a (.ins C dx (putF f y fs)))
def InOp (X : Cx) (op : Operator) (rd : V -> V -> Hp -> VK -> Prop) : Prop :=
  ∀ (pins : List (Addr × Obj)) (s : Shared) (σ : St) (H : Hp) (x y : V) (u v : Value) (Q : VK), Inv X pins σ H s -> RelV x u -> RelV y v -> rd x y H Q -> wpAny (model X.prog X.w) X.A (inplaceOp op u v) (EP X pins σ Q) X.xe s
def sFldAug (K : PySem.W.Frag) (ta tv : TE) (rd : V -> V -> Hp -> VK -> Prop) (f : Str) : TS := λ D σ H => ta σ H λ x H1 => ∃ a C dx fs v, x = .ref a /\ H1 a = some (.ins C dx fs) /\ Cls K C /\ NoAttr K C f /\ fs.lookup f = some v /\
  tv σ H1 λ y H2 => rd v y H2 λ z H3 => ∃ dx' fs', H3 a = some (.ins C dx' fs') /\ fs'.length < 1000 /\ D.nx σ (upd H3 a (.ins C dx' (putF f z fs')))
section
variable {X : Cx} {o e value : Expr} {f : Str} {pos pos' tpos : Pos} {ta tv : TE}
theorem pe_fld (he : PE X e ta) (hb : attributeBase e f X.env (eval e X.env) = eval e X.env) : PE X (.Attribute e f pos) (tFld X.K ta f) := by
  intro pins s σ H Q I h
  refine attr_of hb (thn (he pins s σ H _ I h) λ u s1 ⟨x, H1, I1, rx, a, C, dx, fs, v, ex, ea, c, n, l, q⟩ => ?_)
  subst ex
  obtain rfl : u = Value.ref a := rx
  exact getattr_ok I1 ea c n l λ u' s2 I2 ru => ⟨v, H1, I2, ru, q⟩
theorem ps_fld (ha : PE X o ta) (hv : PE X value tv) (hs : swapsWith value (some (.Attribute o f pos')) pos.line X.env = pure false) : PS X (.Assign [.Attribute o f pos'] value pos) (sFld X.K ta tv f) := by
  intro pins s σ H D I h
  refine plainObj_wpAny_Assign_Attribute (thn (hv pins s σ H _ I h) λ u s1 ⟨y, H1, I1, ry, q⟩ => thn (ha pins s1 σ H1 _ I1 q) λ ov s2 ⟨x, H2, I2, rx, a, C, dx, fs, ex, ea, c, n, l, q2⟩ => ?_) hs
  subst ex
  obtain rfl : ov = Value.ref a := rx
  exact setattr_ok I2 ea c n l ry λ s3 I3 => ⟨σ, _, I3, q2⟩
theorem ps_fldaug {op : Operator} {rd : V -> V -> Hp -> VK -> Prop} (ha : PE X o ta) (hv : PE X value tv) (hop : InOp X op rd) : PS X (.AugAssign (.Attribute o f tpos) op value pos) (sFldAug X.K ta tv rd f) := by
  intro pins s σ H D I h
  refine wpAny_AugAssign_AttributeAny (thn (ha pins s σ H _ I h) λ ov s1 ⟨x, H1, I1, rx, a, C, dx, fs, v, ex, ea, c, n, l, q⟩ => ?_)
  subst ex
  obtain rfl : ov = Value.ref a := rx
  refine getattr_ok I1 ea c n l λ u s2 I2 ru => thn (hv pins s2 σ H1 _ I2 q) λ w3 s3 ⟨y, H2, I3, ry, q3⟩ => thn (hop pins s3 σ H2 v y u w3 _ I3 ru ry q3) λ w4 s4 ⟨z, H3, I4, rz, dx', fs', ea', l', q4⟩ => ?_
  exact setattr_ok I4 ea' c n l' rz λ s5 I5 => ⟨σ, _, I5, q4⟩
def rAdd : V -> V -> Hp -> VK -> Prop := λ x y H Q => ∃ i j, x = .int i /\ y = .int j /\ Q (.int (i + j)) H
def rSub : V -> V -> Hp -> VK -> Prop := λ x y H Q => ∃ i j, x = .int i /\ y = .int j /\ Q (.int (i - j)) H
theorem in_add : InOp X .Add rAdd := by
  rintro pins s σ H x y u v Q I rx ry ⟨i, j, rfl, rfl, q⟩
  obtain ⟨t, rfl⟩ := (show ∃ t, u = Value.int i t from rx)
  obtain ⟨t', rfl⟩ := (show ∃ t', v = Value.int j t' from ry)
  exact PyProof.Rows.iadd_int ⟨.int (i + j), H, I.tok _, ⟨_, rfl⟩, q⟩
theorem in_sub : InOp X .Sub rSub := by
  rintro pins s σ H x y u v Q I rx ry ⟨i, j, rfl, rfl, q⟩
  obtain ⟨t, rfl⟩ := (show ∃ t, u = Value.int i t from rx)
  obtain ⟨t', rfl⟩ := (show ∃ t', v = Value.int j t' from ry)
  exact PyProof.Rows.isub_int ⟨.int (i - j), H, I.tok _, ⟨_, rfl⟩, q⟩
end
section
variable {X : Cx} {pins : List (Addr × Obj)} {σ : St} {H : Hp} {s : Shared} {A : Around} {E : Value -> Shared -> Prop} {Q : Value -> Shared -> Prop} {c : Value} {b : Bool}
inductive TyOf (K : PySem.W.Frag) (H : Hp) : V -> Value -> Prop where
  | non : TyOf K H .non (.type "NoneType")
  | bl (x : Bool) : TyOf K H (.bl x) (.type "bool")
  | int (i : Int) : TyOf K H (.int i) (.type "int")
  | str (x : Str) : TyOf K H (.str x) (.type "str")
  | flt (x : UInt64) : TyOf K H (.flt x) (.type "float")
  | lst {a : Addr} {xs : List V} (e : H a = some (.lst xs)) : TyOf K H (.ref a) (.type "list")
  | frz {a : Addr} {o : Obj} {xs : List V} (e : H a = some (.frz o (.lst xs))) : TyOf K H (.ref a) (.type "list")
  | tup {a : Addr} {xs : List V} (e : H a = some (.tup xs)) : TyOf K H (.ref a) (.type "tuple")
  | dK {a : Addr} {kvs : List (Key × V)} (e : H a = some (.dK kvs)) : TyOf K H (.ref a) (.type "dict")
  | dT {a : Addr} {kvs : List (List Key × V)} (e : H a = some (.dT kvs)) : TyOf K H (.ref a) (.type "dict")
  | ins {a C dx : Addr} {fs : List (Str × V)} (e : H a = some (.ins C dx fs)) (cl : Cls K C) (ha : PySem.W.findIn K (.ref C) "__class__" = some (some (.builtin "object.__class__")))
      (hn : PySem.W.specialIn K (.builtin "object.__class__") "__get__" = some (some (.builtin "getset_descriptor.__get__"))) (htk : PySem.W.takesIn K (.builtin "object.__class__") = some true)
      (hm : PySem.W.mroIn K C (.type "object") = some true) : TyOf K H (.ref a) (.ref C)
theorem isinst_ok {x : V} {u t : Value} (I : Inv X pins σ H s) (rx : RelV x u) (ty : TyOf X.K H x t) (e : PySem.W.kitOne X.K t c = some b) (h : ∀ tk, Q (.bool b) { s with toks := tk }) :
    wpAny (model X.prog X.w) A (call (.builtin "isinstance") [u, c]) Q E s := by
  cases ty with
  | non => cases (show u = Value.none from rx); exact PySem.W.kia_one PySem.W.kitx_none I.kIn True.intro e (λ z => nomatch z) h
  | bl y => cases (show u = Value.bool y from rx); exact PySem.W.kia_one PySem.W.kitx_bool I.kIn True.intro e (λ z => nomatch z) h
  | int i => obtain ⟨t, q⟩ := (show ∃ t, u = Value.int i t from rx); cases q; exact PySem.W.kia_one PySem.W.kitx_int I.kIn True.intro e (λ z => nomatch z) h
  | str y => obtain ⟨t, q⟩ := (show ∃ t, u = Value.str y t from rx); cases q; exact PySem.W.kia_one PySem.W.kitx_str I.kIn True.intro e (λ z => nomatch z) h
  | flt y => obtain ⟨t, q⟩ := (show ∃ t, u = Value.float y t from rx); cases q; exact PySem.W.kia_one PySem.W.kitx_float I.kIn True.intro e (λ z => nomatch z) h
  | @lst a xs ea =>
    cases (show u = Value.ref a from rx)
    obtain ⟨_, _, n, _, h1⟩ := (show ObjOk X.prog X.w H s.heap a (.lst xs) from I.hok a _ ea)
    exact PySem.W.kia_one PySem.W.kitx_list I.kIn ⟨_, h1, rfl⟩ e (λ z => nomatch z) h
  | @frz a ob xs ea =>
    cases (show u = Value.ref a from rx)
    obtain ⟨_, _, _, n, _, h1⟩ := (show ObjOk X.prog X.w H s.heap a (.frz ob (.lst xs)) from I.hok a _ ea)
    exact PySem.W.kia_one PySem.W.kitx_list I.kIn ⟨_, h1, rfl⟩ e (λ z => nomatch z) h
  | @tup a xs ea =>
    cases (show u = Value.ref a from rx)
    obtain ⟨_, _, _, p⟩ := (show ObjOk X.prog X.w H s.heap a (.tup xs) from I.hok a _ ea)
    obtain ⟨o, h1, h2, _⟩ := p
    exact PySem.W.kia_one PySem.W.kitx_tuple I.kIn ⟨o, h1, h2⟩ e (λ z => nomatch z) h
  | @dK a kvs ea =>
    cases (show u = Value.ref a from rx)
    obtain ⟨_, _, vs, _, p⟩ := (show ObjOk X.prog X.w H s.heap a (.dK kvs) from I.hok a _ ea)
    obtain ⟨o, es, ep, h1, h2, _⟩ := p
    exact PySem.W.kia_one PySem.W.kitx_dict I.kIn ⟨o, h1, h2.1⟩ e (λ z => nomatch z) h
  | @dT a kvs ea =>
    cases (show u = Value.ref a from rx)
    obtain ⟨_, _, xs, _, o, es, ep, h1, h2, _⟩ := (show ObjOk X.prog X.w H s.heap a (.dT kvs) from I.hok a _ ea)
    exact PySem.W.kia_one PySem.W.kitx_dict I.kIn ⟨o, h1, h2.1⟩ e (λ z => nomatch z) h
  | @ins a C dx fs ea cl ha hn htk hm =>
    cases (show u = Value.ref a from rx)
    obtain ⟨mA, O, _⟩ := ins_get I.hok ea
    obtain ⟨od, J, _⟩ := O.look
    exact PySem.W.kia_one (PySem.W.kitx_own (cl.get _) cl.hd ha hn htk hm) I.kIn J e (λ z => nomatch z) h
end
end L2
namespace L2
open PySem PySem.Spec PyProof.Rows
structure Room (k : Nat) (A : Around) : Prop where
  hd : A.handled = none
  dp : A.depth + 3 * k + 5 < recursionLimit
  un : A.units + 16 * k + 200 < cLine
theorem Room.mono {j k : Nat} {A : Around} (r : Room k A) (h : j <= k) : Room j A := ⟨r.hd, by have := r.dp; omega, by have := r.un; omega⟩
theorem Room.deeper {k : Nat} {A : Around} (r : Room (k + 1) A) (env : Env) : Room k (A.deeper env) :=
  ⟨r.hd, by have := r.dp; show A.depth + 1 + 3 * k + 5 < _; omega, by have := r.un; show A.units + 3 + 16 * k + 200 < _; omega⟩
theorem make_depth {A : Around} {C : Addr} {us : List Value} {kw : List (Str × Value)} : (A.under (.builtin "type.__call__" ⟨.ref C :: us, kw⟩)).depth = A.depth + 1 := by
  first | rfl | simp [Around.under, Code.weight, Code.isCreation, Code.isGuard, Code.isCaller, Code.frames, Code.isFrame, guardIds]
theorem make_units {A : Around} {C : Addr} {us : List Value} {kw : List (Str × Value)} : (A.under (.builtin "type.__call__" ⟨.ref C :: us, kw⟩)).units = A.units + 1 := by
  first | rfl | simp [Around.under, Code.cUnits, Code.frames, Code.isFrame]
theorem Room.make {k : Nat} {A : Around} (r : Room (k + 1) A) (C : Addr) (us : List Value) (kw : List (Str × Value)) : Room k (A.under (.builtin "type.__call__" ⟨.ref C :: us, kw⟩)) :=
  ⟨r.hd, by have := r.dp; rw [make_depth]; omega, by have := r.un; rw [make_units]; omega⟩
theorem Room.depth {k : Nat} {A : Around} (r : Room k A) : A.depth < recursionLimit := by have := r.dp; omega
theorem Room.units {k : Nat} {A : Around} (r : Room k A) : A.units + 64 < cLine := by have := r.un; omega
theorem Room.units0 {k : Nat} {A : Around} (r : Room k A) : A.units < cLine := by have := r.un; omega
def tNil : TA := λ _ H Q => Q [] H
def tCons (ta : TE) (tr : TA) : TA := λ σ H Q => ta σ H λ x H1 => tr σ H1 λ xs H2 => Q (x :: xs) H2
section
variable {X : Cx} {e : Expr} {es : List Expr} {te : TE} {t : TA} {pos : Pos}
theorem pa_nil : PA X [] tNil := λ _ _ _ _ H Q I h => Calls.spliced_nil ⟨[], H, I, .nil, h⟩
theorem pa_cons (ha : PE X e te) (hr : PA X es t) (hs : starEach (e :: es) X.env = (false, eval e X.env) :: starEach es X.env := by rfl) : PA X (e :: es) (tCons te t) := by
  intro pos pins s σ H Q I h
  rw [hs]
  show wpAny _ _ (spliced ((false, eval e X.env) :: backTo pos (starEach es X.env))) _ _ s
  refine Calls.spliced_cons (thn (ha pins s σ H _ I h) λ u s1 ⟨x, H1, I1, r1, q1⟩ => ?_)
  exact thn (hr pos pins s1 σ H1 _ I1 q1) λ us s2 ⟨xs, H2, I2, r2, q2⟩ => ⟨x :: xs, H2, I2, .cons r1 r2, q2⟩
def tTup (t : TA) : TE := λ σ H Q => t σ H λ xs H1 => xs.length <= sizeLine /\ ∀ p, H1 p = none -> Q (.ref p) (upd H1 p (.tup xs))
def tLst (t : TA) : TE := λ σ H Q => t σ H λ xs H1 => xs.length <= sizeLine /\ ∀ p, H1 p = none -> Q (.ref p) (upd H1 p (.lst xs))
theorem pe_tup {x1} (h : PA X es t) : PE X (.Tuple es x1 pos) (tTup t) := by
  intro pins s σ H Q I hq
  refine wpAny_Tuple_spliced (thn (h pos pins s σ H _ I hq) λ us s1 ⟨xs, H1, I1, r, z, q⟩ => ⟨by rw [<- r.length]; exact z, ?_⟩)
  have hf : H1 s1.heap.objs.size = none := I1.hok.fresh (Nat.le_refl _)
  refine ⟨.ref s1.heap.objs.size, upd H1 s1.heap.objs.size (.tup xs), I1.laid (t' := s1.toks) (λ b u e => Heap.get?_push_of_some _ e) (Nat.le_refl _) ?_, rfl, q _ hf⟩
  exact ⟨z, us, r, ⟨_, Heap.get?_push_size _ rfl, rfl, _, rfl⟩⟩
theorem pe_lst (h : PA X es t) : PE X (.List es pos) (tLst t) := by
  intro pins s σ H Q I hq
  refine wpAny_List_spliced (thn (h pos pins s σ H _ I hq) λ us s1 ⟨xs, H1, I1, r, z, q⟩ => ⟨by rw [<- r.length]; exact z, ?_⟩)
  have hf : H1 s1.heap.objs.size = none := I1.hok.fresh (Nat.le_refl _)
  refine ⟨.ref s1.heap.objs.size, upd H1 s1.heap.objs.size (.lst xs), I1.laid (t' := s1.toks) (λ b u e => Heap.get?_push_of_some _ e) (Nat.le_refl _) ?_, rfl, q _ hf⟩
  exact ⟨z, us, 0, r, Heap.get?_push_size _ rfl⟩
end
abbrev Sp := List V -> Hp -> VK -> XK -> Prop
abbrev CXT := List Env -> Hp -> Shared -> XK -> Value -> Shared -> Prop
structure Env0 (P : Program) (w : World) (K : PySem.W.Frag) (mg : Str -> Option Value) (base : Heap) (A : Around) (outer : List Env) (s : Shared) (H : Hp) : Prop where
  frames : A.frames = some outer
  mod : Mod K mg base
  bs : ∀ b o, base.get? b = some o -> s.heap.get? b = some o /\ H b = none
  bsz : base.objs.size <= s.heap.objs.size
  funs : s.heap.FunFrames base outer
  frf : ∀ b ∈ frs outer, H b = none
  hok : HOk P w H s.heap
  bare : AllBare s.gens
def CE (outer : List Env) (P : Program) (w : World) (H : Hp) (s : Shared) (Q : VK) (u : Value) (s' : Shared) : Prop :=
  ∃ v H', s'.os = s.os /\ AllBare s'.gens /\ Un (frs outer) [] H H' s.heap s'.heap /\ HOk P w H' s'.heap /\ RelV v u /\ Q v H'
def CR (CX : CXT) (outer : List Env) (P : Program) (w : World) (H : Hp) (s : Shared) (Q : VK) (E : XK) (r : Result) (s' : Shared) : Prop :=
  match r with
  | .ok (.ret u) => CE outer P w H s Q u s'
  | .ok _ => False
  | .error e => CX outer H s E e s'
structure FnOk (P : Program) (w : World) (K : PySem.W.Frag) (mg : Str -> Option Value) (base : Heap) (CX : CXT) (k : Nat) (f : Addr) (fd : FuncData) (ps : List Str) (sp : Sp) : Prop where
  len : ∀ vs H Q E, sp vs H Q E -> vs.length = ps.length
  run : ∀ (A : Around) (outer : List Env) (s : Shared) (H : Hp) (args : Args) (us : List Value) (vs : List V) (Q : VK) (E : XK), Room k A -> Env0 P w K mg base A outer s H -> BindsTo s fd args (ps.zip us) -> Vals vs us -> sp vs H Q E ->
    codeAny (model P w) A (.call (.ref f) args) (CR CX outer P w H s Q E) s
theorem FnOk.imp {P : Program} {w : World} {K : PySem.W.Frag} {mg : Str -> Option Value} {base : Heap} {CX : CXT} {k : Nat} {f : Addr} {fd : FuncData} {ps : List Str} {sp sp' : Sp} (F : FnOk P w K mg base CX k f fd ps sp)
    (h : ∀ vs H Q E, sp' vs H Q E -> sp vs H Q E) : FnOk P w K mg base CX k f fd ps sp' :=
  ⟨λ vs H Q E q => F.len vs H Q E (h _ _ _ _ q), λ A outer s H args us vs Q E hr he hb hv hs => F.run A outer s H args us vs Q E hr he hb hv (h _ _ _ _ hs)⟩
theorem Env0.make {P : Program} {w : World} {K : PySem.W.Frag} {mg : Str -> Option Value} {base : Heap} {A : Around} {outer : List Env} {s : Shared} {H : Hp} (e : Env0 P w K mg base A outer s H) (C : Addr) (us : List Value) (kw : List (Str × Value)) :
    Env0 P w K mg base (A.under (.builtin "type.__call__" ⟨.ref C :: us, kw⟩)) outer s H := ⟨by first | exact e.frames | (simpa [Around.under, Code.envs, Code.isFrame, pushEnvs] using e.frames), e.mod, e.bs, e.bsz, e.funs, e.frf, e.hok, e.bare⟩
section
variable {X : Cx} {pins : List (Addr × Obj)} {σ : St} {H : Hp} {s s' : Shared}
theorem Inv.env0 (I : Inv X pins σ H s) : Env0 X.prog X.w X.K X.mg X.base X.A X.stack s H :=
  ⟨I.ok.frames, I.ok.mod, I.bs, Nat.le_trans I.ok.bsz I.sz, I.stack, I.stkFree, I.hok, I.bare⟩
theorem Inv.after {Q : VK} {u : Value} (I : Inv X pins σ H s) (h : CE X.stack X.prog X.w H s Q u s') : EP X pins σ Q u s' := by
  obtain ⟨v, H', os, bare, un, hok, r, q⟩ := h
  obtain ⟨hh, g, d, t, os'⟩ := s'
  obtain rfl : os' = s.os := os
  exact ⟨v, H', I.call (h' := hh) (g' := g) (d' := d) (t' := t) (ch := []) un hok bare (λ b z => absurd z (by simp)), r, q⟩
end
def tCall (sp : Sp) (dvs : List V) (E : XK) (t : TA) : TE := λ σ H Q => t σ H λ vs H1 => sp (vs ++ dvs) H1 Q E
def tMake (C : Addr) (sp : Sp) (dvs : List V) (E : XK) (t : TA) : TE := λ σ H Q => t σ H λ vs H1 => ∀ x dx, H1 x = none -> H1 dx = none -> dx ≠ x ->
  sp (.ref x :: (vs ++ dvs)) (upd (upd H1 dx (.own x)) x (.ins C dx [])) (λ v H2 => v = .non /\ Q (.ref x) H2) E
def Binds (K : PySem.W.Frag) (fd : FuncData) (ps : List Str) (ds : List Value) : Prop :=
  ∀ (s : Shared) (us : List Value), K.In s.heap -> (us ++ ds).length = ps.length -> BindsTo s fd ⟨us, []⟩ (ps.zip (us ++ ds))
theorem Binds.all {K : PySem.W.Frag} {fd : FuncData} {ps : List Str} (h : ∀ us : List Value, us.length = ps.length -> bindArgs fd ⟨us, []⟩ = pure (ps.zip us)) : Binds K fd ps [] := λ s us _ hl => by
  rw [List.append_nil] at hl ⊢
  exact .of_eq (h us hl)
def Passes (CX : CXT) (X : Cx) (E : XK) : Prop := ∀ (pins : List (Addr × Obj)) (σ : St) (H : Hp) (s : Shared) (e : Value) (s' : Shared), Inv X pins σ H s -> CX X.stack H s E e s' -> X.xe e s'
section
variable {X : Cx} {CX : CXT} {k : Nat} {f C : Addr} {fd : FuncData} {ps : List Str} {sp : Sp} {dvs : List V} {ds : List Value} {E : XK} {x m : Str} {p pos apos : Pos} {e o : Expr} {es : List Expr} {ta : TE} {t : TA}
theorem run_fn {pins : List (Addr × Obj)} {σ : St} {H : Hp} {s : Shared} {Q : VK} {us : List Value} {vs : List V} (F : FnOk X.prog X.w X.K X.mg X.base CX k f fd ps sp) (hr : Room k X.A) (hb : Binds X.K fd ps ds) (hd : Vals dvs ds) (hx : Passes CX X E)
    (I : Inv X pins σ H s) (r : Vals vs us) (h : sp (vs ++ dvs) H Q E) : wpAny (model X.prog X.w) X.A (call (.ref f) us) (EP X pins σ Q) X.xe s := by
  have r2 : Vals (vs ++ dvs) (us ++ ds) := r.append hd
  have hl : (us ++ ds).length = ps.length := by rw [<- r2.length]; exact F.len _ _ _ _ h
  refine wpAny_call (codeAny_mono (F.run X.A X.stack s H ⟨us, []⟩ (us ++ ds) (vs ++ dvs) Q E hr I.env0 (hb s us I.kIn hl) r2 h) λ r s' hq => ?_)
  cases r with
  | error e => exact hx pins σ H s e s' I hq
  | ok fl =>
    cases fl with
    | ret u => exact I.after hq
    | next => exact False.elim hq
    | brk => exact False.elim hq
    | cont => exact False.elim hq
theorem pe_call (F : FnOk X.prog X.w X.K X.mg X.base CX k f fd ps sp) (hr : Room k X.A) (hg : Gl X x) (hm : X.mg x = some (.ref f)) (hk : PySem.W.keepIn X.K (.ref f) = true) (hb : Binds X.K fd ps ds) (hd : Vals dvs ds) (hx : Passes CX X E)
    (ha : PA X (e :: es) t) (hdb : (x == ("__debug__" : Str)) = false := by decide) (he : starEach (e :: es) X.env = (false, eval e X.env) :: starEach es X.env := by rfl) (hpl : (backTo pos (starEach es X.env)).any (·.1) = false := by rfl) :
    PE X (.Call (.Name x p) (e :: es) [] pos) (tCall sp dvs E t) := by
  intro pins s σ H Q I h
  refine wpAny_Call_Name_kw (ld_glob I hg hm ?_ hdb)
  refine PySem.W.callWith_K (h₀ := X.base) I.ok.mod.kin hk (thn (ha pos pins s σ H _ I h) λ us s1 ⟨vs, H1, I1, r, q⟩ => ⟨I1.kIn, ?_⟩) he hpl
  exact run_fn F hr hb hd hx I1 r q
structure Mk (K : PySem.W.Frag) (C f : Addr) : Prop where
  makes : PySem.W.makesIn K C = true
  init : PySem.W.findIn K (.ref C) "__init__" = some (some (.ref f))
  fn : PySem.W.isFn K (.ref f) = true
  kp : PySem.W.keepIn K (.ref C) = true
theorem run_make {pins : List (Addr × Obj)} {σ : St} {H : Hp} {s : Shared} {Q : VK} {us : List Value} {vs : List V} (M : Mk X.K C f) (F : FnOk X.prog X.w X.K X.mg X.base CX k f fd ps sp) (hr : Room (k + 1) X.A) (hb : Binds X.K fd ps ds) (hd : Vals dvs ds)
    (hx : Passes CX X E) (I : Inv X pins σ H s) (r : Vals vs us)
    (h : ∀ x dx, H x = none -> H dx = none -> dx ≠ x -> sp (.ref x :: (vs ++ dvs)) (upd (upd H dx (.own x)) x (.ins C dx [])) (λ v H2 => v = .non /\ Q (.ref x) H2) E) :
    wpAny (model X.prog X.w) X.A (call (.ref C) us) (EP X pins σ Q) X.xe s := by
  have hq := h (s.heap.objs.size + 1) s.heap.objs.size (I.hok.fresh (Nat.le_succ _)) (I.hok.fresh (Nat.le_refl _)) (Nat.ne_of_lt (Nat.lt_succ_self _))
  have I2 := Inv.made (C := C) I
  have r2 : Vals (V.ref (s.heap.objs.size + 1) :: (vs ++ dvs)) (Value.ref (s.heap.objs.size + 1) :: (us ++ ds)) := .cons rfl (r.append hd)
  have hl : (Value.ref (s.heap.objs.size + 1) :: us ++ ds).length = ps.length := by
    have e := r2.length
    rw [F.len _ _ _ _ hq] at e
    exact e.symm
  refine wpAny_call (make_map (f := f) I.kIn M.makes M.init (beq_iff_eq.mp M.fn) (codeAny_mono (F.run _ X.stack _ _ ⟨Value.ref (s.heap.objs.size + 1) :: us, []⟩ (Value.ref (s.heap.objs.size + 1) :: (us ++ ds)) _ _ E (hr.make C us [])
    (I2.env0.make C us []) (hb _ (Value.ref (s.heap.objs.size + 1) :: us) I2.kIn hl) r2 hq) λ r s' hq' => ?_))
  cases r with
  | error e => exact hx pins σ _ _ e s' I2 hq'
  | ok fl =>
    cases fl with
    | ret u =>
      obtain ⟨v, H', I3, rv, ev, q3⟩ := I2.after hq'
      subst ev
      exact ⟨rv, ⟨V.ref (s.heap.objs.size + 1), H', I3, rfl, q3⟩⟩
    | next => exact False.elim hq'
    | brk => exact False.elim hq'
    | cont => exact False.elim hq'
theorem pe_make (M : Mk X.K C f) (F : FnOk X.prog X.w X.K X.mg X.base CX k f fd ps sp) (hr : Room (k + 1) X.A) (hg : Gl X x) (hm : X.mg x = some (.ref C)) (hb : Binds X.K fd ps ds) (hd : Vals dvs ds) (hx : Passes CX X E)
    (ha : PA X (e :: es) t) (hdb : (x == ("__debug__" : Str)) = false := by decide) (he : starEach (e :: es) X.env = (false, eval e X.env) :: starEach es X.env := by rfl) (hpl : (backTo pos (starEach es X.env)).any (·.1) = false := by rfl) :
    PE X (.Call (.Name x p) (e :: es) [] pos) (tMake C sp dvs E t) := by
  intro pins s σ H Q I h
  refine wpAny_Call_Name_kw (ld_glob I hg hm ?_ hdb)
  refine PySem.W.callWith_K (h₀ := X.base) I.ok.mod.kin M.kp (thn (ha pos pins s σ H _ I h) λ us s1 ⟨vs, H1, I1, r, q⟩ => ⟨I1.kIn, ?_⟩) he hpl
  exact run_make M F hr hb hd hx I1 r q
theorem pe_make0 (M : Mk X.K C f) (F : FnOk X.prog X.w X.K X.mg X.base CX k f fd ps sp) (hr : Room (k + 1) X.A) (hg : Gl X x) (hm : X.mg x = some (.ref C)) (hb : Binds X.K fd ps ds) (hd : Vals dvs ds) (hx : Passes CX X E)
    (hdb : (x == ("__debug__" : Str)) = false := by decide) : PE X (.Call (.Name x p) [] [] pos) (tMake C sp dvs E tNil) := by
  intro pins s σ H Q I h
  refine wpAny_Call_Name_kw (ld_glob I hg hm ?_ hdb)
  exact PySem.W.callWith_K0 I.kIn M.kp (run_make (us := []) M F hr hb hd hx I .nil h)
end
section
variable {X : Cx} {CX : CXT} {k : Nat} {f C : Addr} {fd : FuncData} {ps ks : List Str} {sp : Sp} {E : XK} {x m : Str} {p pos apos kpos : Pos} {e o : Expr} {es : List Expr} {kws : List Keyword} {te ta : TE} {t tk : TA} {nm : Option Str}
structure KBinds (K : PySem.W.Frag) (fd : FuncData) (ps ks : List Str) (g : List Value -> List Value -> List Value) (gV : List V -> List V -> List V) : Prop where
  to : ∀ (s : Shared) (us ws : List Value), K.In s.heap -> (g us ws).length = ps.length -> BindsTo s fd ⟨us, ks.zip ws⟩ (ps.zip (g us ws))
  rel : ∀ {vs : List V} {us : List Value} {zs : List V} {ws : List Value}, Vals vs us -> Vals zs ws -> Vals (gV vs zs) (g us ws)
variable {g : List Value -> List Value -> List Value} {gV : List V -> List V -> List V}
end
structure FnScope (N P : List Str) (sc : Scope) : Prop where
  kind : sc.kind = .function
  co : sc.isCoroutine = false
  gen : sc.isGenerator = false
  nd : N.Nodup
  pre : N.take P.length = P
  par : ∀ x ∈ P, sc.names.lookup x = some .local \/ sc.names.lookup x = some .cell
  nofree : ∀ y ∈ sc.names, y.2 ≠ .free
theorem bindL_out {kindOf : Str -> Option NameKind} {x : Str} : ∀ {binds : List (Str × Value)} {m : Str -> Option Value}, (∀ v, (x, v) ∉ binds) -> bindL kindOf binds m x = m x
  | [], _, _ => rfl
  | (n, v) :: r, m, h => by
    unfold bindL
    rw [bindL_out λ w hw => h w (List.mem_cons_of_mem _ hw)]
    split
    . have : x ≠ n := by rintro rfl; exact h v List.mem_cons_self
      simp [this]
    . rfl
theorem bindC_out {kindOf : Str -> Option NameKind} {x : Str} : ∀ {binds : List (Str × Value)} {m : Str -> Option Value}, (∀ v, (x, v) ∉ binds) -> bindC kindOf binds m x = m x
  | [], _, _ => rfl
  | (n, v) :: r, m, h => by
    unfold bindC
    rw [bindC_out λ w hw => h w (List.mem_cons_of_mem _ hw)]
    split
    . rfl
    . have : x ≠ n := by rintro rfl; exact h v List.mem_cons_self
      simp [this]
theorem bindL_get {kindOf : Str -> Option NameKind} {x : Str} {v : Value} : ∀ {P : List Str} {vs : List Value} {i : Nat} {m : Str -> Option Value}, P.Nodup -> P[i]? = some x -> vs[i]? = some v -> kindOf x = some .local ->
    bindL kindOf (P.zip vs) m x = some v
  | [], _, _, _, _, h, _, _ => by simp at h
  | _ :: _, [], _, _, _, _, h, _ => by simp at h
  | p :: P, w :: vs, 0, m, nd, h1, h2, hk => by
    simp at h1 h2; subst h1; subst h2
    show bindL kindOf ((p, w) :: P.zip vs) m p = _
    unfold bindL
    rw [bindL_out λ v hv => (List.nodup_cons.mp nd).1 (List.of_mem_zip hv).1, if_pos hk]
    simp
  | p :: P, w :: vs, i + 1, m, nd, h1, h2, hk => by
    show bindL kindOf ((p, w) :: P.zip vs) m x = _
    unfold bindL
    exact bindL_get (i := i) (List.nodup_cons.mp nd).2 (by simpa using h1) (by simpa using h2) hk
theorem bindC_get {kindOf : Str -> Option NameKind} {x : Str} {v : Value} : ∀ {P : List Str} {vs : List Value} {i : Nat} {m : Str -> Option Value}, P.Nodup -> P[i]? = some x -> vs[i]? = some v -> kindOf x ≠ some .local ->
    bindC kindOf (P.zip vs) m x = some v
  | [], _, _, _, _, h, _, _ => by simp at h
  | _ :: _, [], _, _, _, _, h, _ => by simp at h
  | p :: P, w :: vs, 0, m, nd, h1, h2, hk => by
    simp at h1 h2; subst h1; subst h2
    show bindC kindOf ((p, w) :: P.zip vs) m p = _
    unfold bindC
    rw [bindC_out λ v hv => (List.nodup_cons.mp nd).1 (List.of_mem_zip hv).1, if_neg hk]
    simp
  | p :: P, w :: vs, i + 1, m, nd, h1, h2, hk => by
    show bindC kindOf ((p, w) :: P.zip vs) m x = _
    unfold bindC
    exact bindC_get (i := i) (List.nodup_cons.mp nd).2 (by simpa using h1) (by simpa using h2) hk
def start (N : List Str) (vs : List V) : St := vs.map some ++ List.replicate (N.length - vs.length) none
def cxOf (CX : CXT) (P : Program) (w : World) (K : PySem.W.Frag) (mg : Str -> Option Value) (base : Heap) (N : List Str) (qual : Str) (scope : Scope) (f : Addr) (cd : Value) (A : Around) (outer : List Env) (s : Shared) (H : Hp) (E : XK) : Cx where
  prog := P
  w := w
  K := K
  mg := mg
  base := base
  A := A.deeper (envOfC qual scope s.heap.objs.size f cd)
  N := N
  s₀ := s
  H₀ := H
  env := envOfC qual scope s.heap.objs.size f cd
  outer := outer
  stack := envOfC qual scope s.heap.objs.size f cd :: outer
  ex := []
  calm := true
  fn := λ _ => true
  pn := []
  xe := λ e s' => wpAny (model P w) (A.deeper (envOfC qual scope s.heap.objs.size f cd)) (leaving (envOfC qual scope s.heap.objs.size f cd) e) (λ _ s'' => CX outer H s E e s'') (λ e' s'' => CX outer H s E e' s'') s'
theorem cell_has {sc : Scope} {n : Nat} {x : Str} (h : sc.names.lookup x = some .cell) : ∃ c, (cellsFrom n sc.names []).lookup x = some c := by
  have q := PySem.W.cellsFrom_some sc.names n [] (.inl h)
  exact Option.isSome_iff_exists.mp q
theorem inv_start {CX : CXT} {P : Program} {w : World} {K : PySem.W.Frag} {mg : Str -> Option Value} {base : Heap} {N ps : List Str} {qual : Str} {scope : Scope} {f : Addr} {cd : Value} {A : Around} {outer : List Env} {s s1 : Shared} {H : Hp} {E : XK} {us : List Value} {vs : List V}
    (S : FnScope N ps scope) (hd : A.handled = none) (e0 : Env0 P w K mg base A outer s H) (hl : vs.length = ps.length) (r : Vals vs us)
    (x : InCallC s s.heap.objs.size (bindL (envOfC qual scope s.heap.objs.size f cd).kindOf (ps.zip us) λ _ => none) (cellsFrom (s.heap.objs.size + 1) scope.names []) (bindC (envOfC qual scope s.heap.objs.size f cd).kindOf (ps.zip us) λ _ => none) s1) :
    Inv (cxOf CX P w K mg base N qual scope f cd A outer s H E) [] (start N vs) H s1 := by
  have hpl : ps.length <= N.length := by have := congrArg List.length S.pre; rw [List.length_take] at this; omega
  obtain ⟨h1, tk, rfl, hk⟩ := x.done
  have noA : ∀ b : Addr, b ∉ (cxOf CX P w K mg base N qual scope f cd A outer s H E).ex := λ b z => absurd (show b ∈ ([] : List Addr) from z) (by simp)
  refine ⟨⟨e0.mod, S.kind, rfl, rfl, Nat.le_refl _, λ y z c h1 h2 => ?_, λ y hy => ?_, λ y c _ h => ?_, λ _ => hd, Around.frames_deeper e0.frames, .inr ⟨rfl, rfl⟩, λ b z => absurd z (noA b), e0.bs, e0.bsz, λ b _ _ => noA b, λ b z => absurd z (noA b), e0.funs, e0.frf⟩,
    rfl, e0.bare, Un.kept hk, ⟨_, x.toInCall.ns, λ i y v h1 h2 h3 => ?_⟩, λ y c h => ⟨_, x.cell y c h⟩, e0.hok.fresh (Nat.le_refl _), λ y c h => ?_, λ p hp => absurd (show p ∈ ([] : List (Addr × Obj)) from hp) (by simp), e0.hok.kept hk, ?_⟩
  . exact name_of_addr x.apart (PySem.mem_of_lookup h1) (PySem.mem_of_lookup h2)
  . have hy : scope.names.lookup y = some .cell \/ scope.names.lookup y = some .free := hy
    rcases hy with hy | hy
    . exact cell_has hy
    . exact absurd rfl (S.nofree _ (PySem.mem_of_lookup hy))
  . exact Nat.le_of_lt (x.above y c (PySem.mem_of_lookup h))
  . have hi : i < vs.length := by
      unfold start at h2
      by_cases hi : i < vs.length
      . exact hi
      . rw [List.getElem?_append_right (by simpa using hi)] at h2
        rw [List.getElem?_replicate] at h2
        split at h2 <;> cases h2
    have ha : vs[i]? = some v := by
      unfold start at h2
      rw [List.getElem?_append_left (by simpa using hi), List.getElem?_map] at h2
      cases e : vs[i]? with
      | none => rw [e] at h2; cases h2
      | some a => rw [e] at h2; cases h2; rfl
    obtain ⟨u, hu, rv⟩ := r.get ha
    have hp : ps[i]? = some y := by
      rw [<- S.pre, List.getElem?_take_of_lt (by omega)]; exact h1
    have ndP : ps.Nodup := by rw [<- S.pre]; exact S.nd.sublist (List.take_sublist _ _)
    refine ⟨u, rv, ?_⟩
    rcases S.par y (List.mem_of_getElem? hp) with k | k
    . exact .inl ⟨k, bindL_get ndP hp hu k⟩
    . obtain ⟨c, e⟩ := cell_has (n := s.heap.objs.size + 1) k
      refine .inr ⟨.inl k, c, e, ?_⟩
      have q := x.cell y c e
      rw [bindC_get ndP hp hu (by show scope.names.lookup y ≠ _; rw [k]; decide)] at q
      exact q
  . exact e0.hok.fresh (Nat.le_of_lt (x.above y c (PySem.mem_of_lookup h)))
  . unfold start
    show _ = N.length
    rw [List.length_append, List.length_map, List.length_replicate]
    omega
theorem fn_of {CX : CXT} {P : Program} {w : World} {K : PySem.W.Frag} {mg : Str -> Option Value} {base : Heap} {k : Nat} {f : Addr} {name qual : Str} {params : Arguments} {body : List Stmt} {scope : Scope} {dV kV doc pm cdv ct oc : Value} {an od : Option Addr}
    {osl : Array (Option Value)} {N ps : List Str} {sp : Sp} (lk : K.lookup f = some ⟨oc, od, .func (PySem.W.fnOf name qual params body scope dV kV doc pm an cdv ct), osl⟩) (hcd : PySem.W.codeIn K cdv qual = true) (S : FnScope N ps scope)
    (len : ∀ vs H Q E, sp vs H Q E -> vs.length = ps.length)
    (hbody : ∀ (A : Around) (outer : List Env) (s : Shared) (H : Hp) (vs : List V) (Q : VK) (E : XK), Room k (A.deeper (envOfC qual scope s.heap.objs.size f cdv)) -> sp vs H Q E ->
      ∃ t, PSs (cxOf CX P w K mg base N qual scope f cdv A outer s H E) body t /\ t { nx := λ _ H' => Q .non H', rt := Q } (start N vs) H) :
    FnOk P w K mg base CX (k + 1) f (PySem.W.fnOf name qual params body scope dV kV doc pm an cdv ct) ps sp := by
  refine ⟨len, λ A outer s H args us vs Q E hr e0 hb r hsp => ?_⟩
  have hl := len _ _ _ _ hsp
  have KX : K.In s.heap := e0.mod.kin.keeps λ b o e => (e0.bs b o e).1
  have lim : s.heap.NoLimit := e0.mod.nolimit.keeps λ b o e => (e0.bs b o e).1
  have hkind : ∀ y ∈ ps.zip us, scope.names.lookup y.1 = some .local \/ (scope.names.lookup y.1 = some .cell /\ ((cellsFrom (s.heap.objs.size + 1) scope.names []).lookup y.1).isSome = true) := λ ⟨n, v⟩ hy => by
    rcases S.par n (List.of_mem_zip hy).1 with q | q
    . exact .inl q
    . exact .inr ⟨q, PySem.W.cellsFrom_some _ _ _ (.inl q)⟩
  refine codeAny_call_function hr.depth (KX _ _ lk) rfl S.co S.gen rfl (PySem.W.codeRec_of KX hcd) (hb _ _ _ _ ?_)
  refine wpAny_newFunctionEnv_cells S.kind hkind λ env he s1 x => ?_
  subst he
  refine ⟨lim.keeps x.toInCall.keep, codeAny_func ?_⟩
  obtain ⟨t, ht, hq⟩ := hbody A outer s H vs Q E (hr.deeper _) hsp
  have I : Inv (cxOf CX P w K mg base N qual scope f cdv A outer s H E) [] (start N vs) H s1 := inv_start S hr.hd e0 hl r x
  refine wpAny_mono (ht [] s1 (start N vs) H _ I hq) (λ fl s' hs => ?_) λ e s' hs => hs
  have fin : ∀ {σ' : St} {H' : Hp} {v : V} {u : Value}, Inv (cxOf CX P w K mg base N qual scope f cdv A outer s H E) [] σ' H' s' -> RelV v u -> Q v H' -> CE outer P w H s Q u s' :=
    λ {σ' H' v u} J rv q => ⟨v, H', J.os, J.bare, J.base, J.hok, rv, q⟩
  cases fl with
  | ret u =>
    obtain ⟨v, σ', H', J, rv, q⟩ := hs
    exact fin J rv q
  | next =>
    obtain ⟨σ', H', J, q⟩ := hs
    exact fin (v := V.non) (u := Value.none) J rfl q
  | brk =>
    obtain ⟨_, _, _, q⟩ := hs
    exact False.elim q
  | cont =>
    obtain ⟨_, _, _, q⟩ := hs
    exact False.elim q
end L2
namespace L2
open PySem PySem.Spec PyProof.Rows
section
variable {X : Cx} {x : Str} {p pos : Pos} {e : Expr} {es : List Expr} {t : TA} {id T : String} {r : List V -> Hp -> VK -> Prop}
def tCB (r : List V -> Hp -> VK -> Prop) (t : TA) : TE := λ σ H Q => t σ H λ vs H1 => r vs H1 Q
theorem pe_callB (hc : CallR X (.builtin id) r) (hg : Gl X x) (hm : X.mg x = none) (hv : bootBuiltins x = some (.builtin id)) (ha : PA X (e :: es) t) (hn : x ≠ "__name__" := by decide) (hdb : (x == ("__debug__" : Str)) = false := by decide)
    (he : starEach (e :: es) X.env = (false, eval e X.env) :: starEach es X.env := by rfl) (hpl : (backTo pos (starEach es X.env)).any (·.1) = false := by rfl) : PE X (.Call (.Name x p) (e :: es) [] pos) (tCB r t) := by
  intro pins s σ H Q I h
  refine wpAny_Call_Name_kw (ld_blt I hg hm hv ?_ hn hdb)
  exact PyProof.Rows.callWith_builtin1 (thn (ha pos pins s σ H _ I h) λ us s1 ⟨vs, H1, I1, r1, q1⟩ => hc pins s1 σ H1 vs us Q I1 r1 q1) he hpl
theorem pe_callTy (hc : CallR X (.type T) r) (hg : Gl X x) (hm : X.mg x = none) (hv : bootBuiltins x = some (.type T)) (ha : PA X (e :: es) t) (hn : x ≠ "__name__" := by decide) (hdb : (x == ("__debug__" : Str)) = false := by decide)
    (he : starEach (e :: es) X.env = (false, eval e X.env) :: starEach es X.env := by rfl) (hpl : (backTo pos (starEach es X.env)).any (·.1) = false := by rfl) : PE X (.Call (.Name x p) (e :: es) [] pos) (tCB r t) := by
  intro pins s σ H Q I h
  refine wpAny_Call_Name_kw (ld_blt I hg hm hv ?_ hn hdb)
  exact PyProof.Rows.callWith_type1 (thn (ha pos pins s σ H _ I h) λ us s1 ⟨vs, H1, I1, r1, q1⟩ => hc pins s1 σ H1 vs us Q I1 r1 q1) he hpl
end
end L2
namespace HT
open PySem PyProof.Rows
def lexLt : List Int -> List Int -> Bool
  | [], [] => false
  | [], _ :: _ => true
  | _ :: _, [] => false
  | x :: xs, y :: ys => if x = y then lexLt xs ys else decide (x < y)
theorem lexLt_cons (x y : Int) (xs ys : List Int) : lexLt (x :: xs) (y :: ys) = if x = y then lexLt xs ys else decide (x < y) := rfl
theorem lexLt_nil_nil : lexLt [] [] = false := rfl
theorem lexLt_nil_cons (y : Int) (ys : List Int) : lexLt [] (y :: ys) = true := rfl
theorem lexLt_cons_nil (x : Int) (xs : List Int) : lexLt (x :: xs) [] = false := rfl
theorem eqAt_int (A : Around) (s : Shared) (a : Int) (t : Tok) (c : Int) (u : Tok) : ∃ e, SeqAt.EqAt A s (.int a t) (.int c u) e /\ (e = true ↔ a = c) :=
  ⟨(a == c), SeqAt.EqAt.int_int a t c u, by simp⟩
theorem rcLt_int (A : Around) (s : Shared) (a : Int) (t : Tok) (c : Int) (u : Tok) (prog : Program) (w : World) (E : Value -> Shared -> Prop) (Q : Value -> Shared -> Prop) (h : Q (.bool (decide (a < c))) s) :
    wpAny (model prog w) A (richCompare .Lt (.int a t) (.int c u)) Q E s :=
  (PyProof.Rows.lt_int h : wpAny (model prog w) A (compareOp .Lt (.int a t) (.int c u)) Q E s)
section
open PySem.SeqAt
open PySem.AutoSeq1 (wpAny_loadPart')
open PySem.MeetsSeq PySem.MeetsSeq2 PySem.MeetsSeq3
theorem tuple_lt_ints (l b : Addr) (items items2 : Array Value) (n n2 : Nat) (dd dd2 : Option Addr) (sl sl2 : Array (Option Value)) (ns ms : List Int) (hi : IntsAre items.toList ns) (hj : IntsAre items2.toList ms) :
    Meets (Builtin.«tuple.__lt__» ⟨[.ref l, .ref b], []⟩)
      (λ _ R s => s.heap.get? l = some { cls := .type "tuple", dict := dd, data := .seq items n, slots := sl } /\ s.heap.get? b = some { cls := .type "tuple", dict := dd2, data := .seq items2 n2, slots := sl2 } /\
        R (.ok (.ret (.bool (lexLt ns ms)))) s) :=
  .of_wp λ prog w A R s h => by
    obtain ⟨hp, g, d, tk, os⟩ := s; obtain ⟨hl, hb, h⟩ := h
    have f2 := AutoSeq1.sub_tuple_tuple
    have z1 : items.size = ns.length := by rw [<- hi.length]; simp
    have z2 : items2.size = ms.length := by rw [<- hj.length]; simp
    wp_walk using wpAny_loadPart' hl, wpAny_loadPart' hb, wpAny_forIn_list _ (λ rest b s' => b.1 = none /\ s' = ⟨hp, g, d, tk, os⟩ /\ ∃ (vs ws : List Value) (ns' ms' : List Int), rest = vs.zip ws /\
      IntsAre vs ns' /\ IntsAre ws ms' /\ ns'.length + items2.size = ms'.length + items.size /\ R (.ok (.ret (.bool (lexLt ns' ms')))) ⟨hp, g, d, tk, os⟩) _
    case turn =>
      rintro ⟨y, x⟩ rest b s' ⟨hb', rfl, vs, ws, ns', ms', hz, hvi, hwi, hlen, hR⟩
      cases hvi with
      | nil => rw [List.zip_nil_left] at hz; cases hz
      | cons a t hvi' =>
        cases hwi with
        | nil => rw [List.zip_nil_right] at hz; cases hz
        | cons c u hwi' =>
          rw [List.zip_cons_cons] at hz
          injection hz with hyx hrest
          injection hyx with hy hx
          subst hy hx
          rw [lexLt_cons] at hR
          simp only [List.length_cons] at hlen
          obtain ⟨e, he, hiff⟩ := eqAt_int A.in1 ⟨hp, g, d, tk, os⟩ a t c u
          refine wpAny_bind (he prog w _ _ ?_)
          cases e with
          | true =>
            rw [if_pos (hiff.mp rfl)] at hR
            wp_walk
            exact ⟨rfl, rfl, _, _, _, _, hrest, hvi', hwi', by omega, hR⟩
          | false =>
            rw [if_neg (λ q => absurd (hiff.mpr q) Bool.false_ne_true)] at hR
            have hri := rcLt_int A.in1 ⟨hp, g, d, tk, os⟩ a t c u prog w
            wp_walk using hri
            exact ⟨_, rfl, by simpa using hR⟩
    case fin =>
      rintro ⟨b1, b2⟩ s' ⟨hb', rfl, vs, ws, ns', ms', hz, hvi, hwi, hlen, hR⟩
      simp only at hb'
      subst hb'
      have hv : lexLt ns' ms' = decide (items.size < items2.size) := by
        cases hvi with
        | nil =>
          cases hwi with
          | nil =>
            simp only [List.length_nil] at hlen
            rw [lexLt_nil_nil]
            exact (decide_eq_false (by omega)).symm
          | cons c u hw =>
            simp only [List.length_nil, List.length_cons] at hlen
            rw [lexLt_nil_cons]
            exact (decide_eq_true (by omega)).symm
        | cons a t hv =>
          cases hwi with
          | nil =>
            simp only [List.length_nil, List.length_cons] at hlen
            rw [lexLt_cons_nil]
            exact (decide_eq_false (by omega)).symm
          | cons c u hw =>
            rw [List.zip_cons_cons] at hz
            cases hz
      rw [hv] at hR
      wp_walk
      exact ⟨_, rfl, by simpa [Builtin.Tuple.tupleCompareSizes] using hR⟩
    case h =>
      exact ⟨rfl, rfl, items.toList, items2.toList, ns, ms, rfl, hi, hj, by omega, h⟩
end
section
variable {prog : Program} {w : World} {A : Around} {E : Value -> Shared -> Prop} {s : Shared}
theorem lt_tupInts {l b : Addr} {items items2 : Array Value} {ns ms : List Int} {Q : Value -> Shared -> Prop} (hl : IsTup s.heap l items) (hb : IsTup s.heap b items2) (hi : IntsAre items.toList ns) (hj : IntsAre items2.toList ms)
    (hu : A.units < cLine) (h : Q (.bool (lexLt ns ms)) s) : wpAny (model prog w) A (compareOp .Lt (.ref l) (.ref b)) Q E s := by
  obtain ⟨⟨cls, dd, data, sl⟩, ho, hc, n, hd⟩ := id hl
  obtain ⟨⟨cls2, dd2, data2, sl2⟩, ho2, hc2, n2, hd2⟩ := id hb
  simp only at hc hd hc2 hd2
  subst hc hd hc2 hd2
  exact richCompare_meets_room (op := .Lt) ⟨_, ho, rfl⟩ ⟨_, ho2, rfl⟩ PySem.F.slot_tuple_lt PySem.F.entry_tuple_lt (PySem.F.args_tuple_lt_2 _ _) (tuple_lt_ints l b items items2 n n2 dd dd2 sl sl2 ns ms hi hj)
    ⟨ho, ho2, show Value.bool (lexLt ns ms) ≠ Value.notImplemented /\ Q (.bool (lexLt ns ms)) s from ⟨(λ x => nomatch x), h⟩⟩ hu
def sIx (n d : Nat) : Option Int -> Nat
  | none => d
  | some v => if v < 0 then (v + (n : Int)).toNat else min v.toNat n
end
end HT
namespace L2
open PySem PySem.Spec PyProof.Rows
abbrev TO := St -> Hp -> (Option Int -> Hp -> Prop) -> Prop
def PO (X : Cx) (e : Option Expr) (t : TO) : Prop :=
  ∀ (pins : List (Addr × Obj)) (s : Shared) (σ : St) (H : Hp) (Q : Option Int -> Hp -> Prop), Inv X pins σ H s -> t σ H Q ->
    wpAny (model X.prog X.w) X.A (evalPart e X.env) (λ u s' => ∃ o H', Inv X pins σ H' s' /\ IsPart u o /\ Q o H') X.xe s
def tPart (t : TE) : TO := λ σ H Q => t σ H λ x H1 => ∃ i, x = .int i /\ Q (some i) H1
theorem intsAre_of {ns : List Int} : ∀ {us : List Value}, Vals (ns.map V.int) us -> IntsAre us ns := by
  induction ns with
  | nil => intro us r; rw [List.map_nil] at r; cases r; exact .nil
  | cons n ns ih =>
    intro us r
    rw [List.map_cons] at r
    cases r with
    | cons r1 r2 =>
      obtain ⟨t, e⟩ := r1
      subst e
      exact .cons n t (ih r2)
section
variable {X : Cx} {e : Expr} {te : TE} {lo hi : Option Expr} {tl th : TO} {pos p2 : Pos}
theorem po_some (h : PE X e te) : PO X (some e) (tPart te) := by
  intro pins s σ H Q I hw
  rw [evalPart_some]
  refine thn (h pins s σ H _ I hw) λ u s1 ⟨x, H1, I1, r1, q1⟩ => ?_
  obtain ⟨i, rfl, q⟩ := q1
  obtain ⟨t, rfl⟩ := r1
  exact ⟨some i, H1, I1, .int i t, q⟩
def SlR (X : Cx) (r : V -> Option Int -> Option Int -> Hp -> VK -> Prop) : Prop :=
  ∀ (pins : List (Addr × Obj)) (s : Shared) (σ : St) (H : Hp) (x : V) (v vl vu : Value) (lo hi : Option Int) (sl : Addr) (Q : VK), Inv X pins σ H s -> RelV x v -> s.heap.IsSliceOf sl vl vu .none -> IsPart vl lo -> IsPart vu hi -> r x lo hi H Q ->
    ∃ T id, typeLookup (.type T) "__getitem__" = pure (some (.builtin id)) /\ s.TypeIs v T /\ wpAny (model X.prog X.w) X.A (getItem v (.ref sl)) (EP X pins σ Q) X.xe s
def tSl (r : V -> Option Int -> Option Int -> Hp -> VK -> Prop) (te : TE) (tl th : TO) : TE := λ σ H Q => te σ H λ x H1 => tl σ H1 λ l H2 => th σ H2 λ u H3 => r x l u H3 Q
theorem pe_slice {r : V -> Option Int -> Option Int -> Hp -> VK -> Prop} (hr : SlR X r) (he : PE X e te) (hl : PO X lo tl) (hu : PO X hi th) : PE X (.Subscript e (.Slice lo hi none p2) pos) (tSl r te tl th) := by
  intro pins s σ H Q I h
  refine Subscript_ (thn (he pins s σ H _ I h) λ v s1 ⟨x, H1, I1, r1, q1⟩ => ?_)
  refine wpAny_Slice (thn (hl pins s1 σ H1 _ I1 q1) λ vl s2 ⟨l, H2, I2, pl, q2⟩ => thn (hu pins s2 σ H2 _ I2 q2) λ vu s3 ⟨u, H3, I3, pu, q3⟩ => ?_)
  rw [evalPart_none]
  refine wpAny_pure ?_
  have I4 : Inv X pins σ H3 { s3 with heap := s3.heap.push { cls := .type "slice", data := .fields #[vl, vu, .none] } } := I3.kept (t' := s3.toks) λ b ob q => Heap.get?_push_of_some _ q
  obtain ⟨T, id, hT, ht, hg⟩ := hr pins { s3 with heap := s3.heap.push { cls := .type "slice", data := .fields #[vl, vu, .none] } } σ H3 x v vl vu l u s3.heap.objs.size Q I4 r1 (Heap.IsSliceOf.new ..) pl pu q3
  show wpAny (model X.prog X.w) X.A (subscriptTail e (.Slice lo hi none p2) v (.ref s3.heap.objs.size)) (EP X pins σ Q) X.xe { s3 with heap := s3.heap.push { cls := .type "slice", data := .fields #[vl, vu, .none] } }
  exact tail_any (ops := [.ref s3.heap.objs.size, v]) ht hT hg (by with_unfolding_all rfl)
def cutV (xs : List V) (lo hi : Option Int) : List V := (xs.drop (HT.sIx xs.length 0 lo)).take (HT.sIx xs.length xs.length hi - HT.sIx xs.length 0 lo)
theorem cutV_length (xs : List V) (lo hi : Option Int) : (cutV xs lo hi).length <= xs.length := by
  unfold cutV
  rw [List.length_take, List.length_drop]
  omega
def rLtT (K : PySem.W.Frag) : R2 := λ x y H Q => ∃ a b ns ms, x = .ref a /\ y = .ref b /\ SqT K H a (ns.map V.int) /\ SqT K H b (ms.map V.int) /\ Q (.bl (HT.lexLt ns ms)) H
theorem op_ltT (hu : X.A.units < cLine) : OpR X (compareOp .Lt) (rLtT X.K) := by
  intro pins s σ H x y v u Q I rx ry h
  obtain ⟨a, b, ns, ms, rfl, rfl, ha, hb, q⟩ := h
  cases rx
  cases ry
  obtain ⟨its, r1, p1, _⟩ := I.tuple ha
  obtain ⟨its2, r2, p2, _⟩ := I.tuple hb
  have i1 : IntsAre its.toArray.toList ns := intsAre_of r1
  have i2 : IntsAre its2.toArray.toList ms := intsAre_of r2
  exact HT.lt_tupInts p1 p2 i1 i2 hu ⟨.bl (HT.lexLt ns ms), H, I, rfl, q⟩
end
end L2
namespace L2
open PySem PySem.Spec PyProof.Rows
def ixN (n : Nat) (i : Int) : Option Nat := if 0 <= i then (if i < n then some i.toNat else none) else if -(n : Int) <= i then some (i + n).toNat else none
def atI {α : Type} (xs : List α) (i : Int) : Option α := (ixN xs.length i).bind λ j => xs[j]?
theorem ixN_seq {n : Nat} {i : Int} {j : Nat} (h : ixN n i = some j) : seqIndex? i n = some j /\ j < n /\ -(n : Int) <= i /\ i < n := by
  unfold ixN at h
  by_cases h0 : 0 <= i
  . rw [if_pos h0] at h
    by_cases h1 : i < n
    . rw [if_pos h1] at h
      have e : i.toNat = j := Option.some.inj h
      exact ⟨by rw [seqIndex_of h0 h1, e], by omega, by omega, h1⟩
    . rw [if_neg h1] at h; cases h
  . rw [if_neg h0] at h
    by_cases h1 : -(n : Int) <= i
    . rw [if_pos h1] at h
      have e : (i + n).toNat = j := Option.some.inj h
      exact ⟨by rw [seqIndex_neg (by omega) h1, e], by omega, h1, by omega⟩
    . rw [if_neg h1] at h; cases h
theorem atI_get {α : Type} {xs : List α} {i : Int} {v : α} (h : atI xs i = some v) : ∃ j, seqIndex? i xs.length = some j /\ xs[j]? = some v /\ j < xs.length /\ -(xs.length : Int) <= i /\ i < xs.length := by
  unfold atI at h
  cases e : ixN xs.length i with
  | none => rw [e] at h; cases h
  | some j =>
    rw [e] at h
    obtain ⟨h1, h2, h3, h4⟩ := ixN_seq e
    exact ⟨j, h1, h, h2, h3, h4⟩
theorem atI_nat {α : Type} {xs : List α} {j : Nat} {v : α} (h : xs[j]? = some v) : atI xs (j : Int) = some v := by
  have hj : j < xs.length := (List.getElem?_eq_some_iff.mp h).1
  have e : ixN xs.length (j : Int) = some j := by
    unfold ixN
    rw [if_pos (by omega), if_pos (by omega)]; simp
  unfold atI; rw [e]; exact h
def PlainIx (b : Expr) : Prop := ∀ o i, subscripted b false o i = operate [o, i] (getItem o i)
def IxR (X : Cx) (r : R2) : Prop :=
  ∀ (value slice : Expr) (pins : List (Addr × Obj)) (s : Shared) (σ : St) (H : Hp) (x y : V) (v u : Value) (Q : VK), Inv X pins σ H s -> RelV x v -> RelV y u -> r x y H Q ->
    subscripted slice false v u = operate [v, u] (getItem v u) -> wpAny (model X.prog X.w) X.A (subscriptTail value slice v u) (EP X pins σ Q) X.xe s
def MtR (X : Cx) (id : String) (r : V -> List V -> Hp -> VK -> Prop) : Prop :=
  ∀ (pins : List (Addr × Obj)) (s : Shared) (σ : St) (H : Hp) (x : V) (xs : List V) (v : Value) (us : List Value) (Q : VK), Inv X pins σ H s -> RelV x v -> Vals xs us -> r x xs H Q ->
    wpAny (model X.prog X.w) X.A (call (.builtin id) (v :: us)) (EP X pins σ Q) X.xe s
section
variable {X : Cx} {a b : Expr} {ta tb : TE} {pos : Pos}
theorem pe_ix {r : R2} (hr : IxR X r) (ha : PE X a ta) (hb : PE X b tb) (hs : PlainIx b) : PE X (.Subscript a b pos) (tOp r ta tb) := by
  intro pins s σ H Q I h
  exact Subscript_ (binT ha hb I h λ v u s2 x y H2 I2 rx ry q => hr a b pins s2 σ H2 x y v u Q I2 rx ry q (hs _ _))
def rIxL (K : PySem.W.Frag) : R2 := λ x y H Q => ∃ p xs i v, x = .ref p /\ y = .int i /\ SqL K H p xs /\ atI xs i = some v /\ Q v H
def rIxT (K : PySem.W.Frag) : R2 := λ x y H Q => ∃ p xs i v, x = .ref p /\ y = .int i /\ SqT K H p xs /\ atI xs i = some v /\ Q v H
theorem ix_list : IxR X (rIxL X.K) := by
  intro value slice pins s σ H x y v u Q I rx ry h hs
  obtain ⟨p, xs, i, z, rfl, rfl, hq, he, q⟩ := h
  cases rx
  obtain ⟨t, rfl⟩ := ry
  obtain ⟨its, r, pl, hz⟩ := I.list hq
  obtain ⟨j, h1, h2, h3, h4, h5⟩ := atI_get he
  obtain ⟨w, ew, rw'⟩ := r.get h2
  have hl := r.length
  have hn := line63
  have fin : EP X pins σ Q w s := ⟨z, H, I, rw', q⟩
  by_cases h0 : 0 <= i
  . have hj : i.toNat = j := by
      rw [seqIndex_of h0 h5] at h1
      exact Option.some.inj h1
    exact item_listR pl.isList h0 (by omega) (by rw [hj]; simpa using ew) fin hs
  . have hj : (i + (its.toArray.size : Int)).toNat = j := by
      rw [seqIndex_neg (by omega) h4] at h1
      rw [List.size_toArray, <- hl]
      exact Option.some.inj h1
    exact subscriptTail_builtinR (x := w) pl.isList.typeIs slot_list_getitem.lookup
      (wpAny_getItem_list_neg (Q := λ r s' => r = w /\ EP X pins σ Q r s') pl.isList (by omega) (by rw [List.size_toArray] <;> omega) (by omega) (by rw [hj]; simpa using ew) ⟨rfl, fin⟩) hs
theorem ix_tup : IxR X (rIxT X.K) := by
  intro value slice pins s σ H x y v u Q I rx ry h hs
  obtain ⟨p, xs, i, z, rfl, rfl, hq, he, q⟩ := h
  cases rx
  obtain ⟨t, rfl⟩ := ry
  obtain ⟨its, r, pl, hz⟩ := I.tuple hq
  obtain ⟨j, h1, h2, h3, h4, h5⟩ := atI_get he
  obtain ⟨w, ew, rw'⟩ := r.get h2
  have hl := r.length
  have hn := line63
  have fin : EP X pins σ Q w s := ⟨z, H, I, rw', q⟩
  exact subscriptTail_builtinR (x := w) pl.typeIs slot_tuple_getitem.lookup
    (getItem_tuple (j := j) (Q := λ r s' => r = w /\ EP X pins σ Q r s') pl (by omega) (by omega) (by rw [List.size_toArray, <- hl]; exact h1) (by simpa using ew) ⟨rfl, fin⟩) hs
theorem mapSeq_set (its : List Value) (n j : Nat) (u : Value) : Obj.mapSeq (·.setIfInBounds j u) { cls := .type "list", data := .seq its.toArray n } = { cls := .type "list", data := .seq (its.set j u).toArray n } := by
  simp [Obj.mapSeq]
theorem Inv.lst {pins : List (Addr × Obj)} {σ : St} {H : Hp} {s : Shared} {p : Addr} {xs : List V} (I : Inv X pins σ H s) (h : H p = some (.lst xs)) :
    ∃ (its : List Value) (n : Nat), Vals xs its /\ s.heap.get? p = some { cls := .type "list", data := .seq its.toArray n } /\ xs.length <= sizeLine := by
  obtain ⟨z, its, n, r, e⟩ := I.hok p _ h
  exact ⟨its, n, r, e, z⟩
theorem Inv.lstUpd {pins : List (Addr × Obj)} {σ : St} {H : Hp} {s : Shared} {p : Addr} {xs ys : List V} {its its' : List Value} {n n' : Nat} {f : Obj -> Obj} (I : Inv X pins σ H s) (h : H p = some (.lst xs))
    (ho : s.heap.get? p = some { cls := .type "list", data := .seq its.toArray n }) (hf : f { cls := .type "list", data := .seq its.toArray n } = { cls := .type "list", data := .seq its'.toArray n' }) (r : Vals ys its') (hz : ys.length <= sizeLine) (t : Nat) :
    Inv X pins σ (upd H p (.lst ys)) { s with heap := s.heap.update p f, toks := t } := by
  have e : (s.heap.update p f).get? p = some { cls := .type "list", data := .seq its'.toArray n' } := by
    rw [Heap.get?_update_self f ho (by rw [hf] <;> rfl), hf]
  refine I.write (x := p) (e := p) (by rw [h]; trivial) (.inl rfl) (λ b u hb q => (Heap.get?_update_other _ _ (Ne.symm hb)).trans q) ⟨_, e⟩ ?_
  exact ⟨hz, its', n', r, e⟩
def rSetL : V -> V -> V -> Hp -> (Hp -> Prop) -> Prop := λ o i v H Q => ∃ p xs k j, o = .ref p /\ i = .int k /\ H p = some (.lst xs) /\ ixN xs.length k = some j /\ Q (upd H p (.lst (xs.set j v)))
theorem set_list : PSet X rSetL := by
  intro pins s σ H o i v ov iv u Q I ro ri rv h
  obtain ⟨p, xs, k, j, rfl, rfl, hp, hj, q⟩ := h
  cases ro
  obtain ⟨t, rfl⟩ := ri
  obtain ⟨its, n, r, ho, hz⟩ := I.lst hp
  obtain ⟨h1, h2, h3, h4⟩ := ixN_seq hj
  have hl := r.length
  have hn := line63
  have I' : Inv X pins σ (upd H p (.lst (xs.set j v))) { s with heap := s.heap.update p (Obj.mapSeq (·.setIfInBounds j u)) } :=
    I.lstUpd hp ho (mapSeq_set its n j u) (r.set rv j) (by rw [List.length_set]; exact hz) s.toks
  by_cases h0 : 0 <= k
  . have hk : k.toNat = j := by
      rw [seqIndex_of h0 h4] at h1
      exact Option.some.inj h1
    exact PySem.W.ki_setAt ho h0 (by omega) (by rw [List.size_toArray, <- hl]; exact h4) (by rw [hk]; exact ⟨_, I', q⟩)
  . have hk : (k + (its.toArray.size : Int)).toNat = j := by
      rw [seqIndex_neg (by omega) h3] at h1
      rw [List.size_toArray, <- hl]
      exact Option.some.inj h1
    exact PySem.W.ki_setBack ho (by omega) (by rw [List.size_toArray, <- hl]; exact h3) (by omega) (by rw [hk]; exact ⟨_, I', q⟩)
theorem slice_bounds (lo hi : Option Int) (n : Nat) : (sliceBounds lo hi none n).1 = ((HT.sIx n 0 lo : Nat) : Int) /\ (sliceBounds lo hi none n).2.1 = ((HT.sIx n n hi : Nat) : Int) /\ (sliceBounds lo hi none n).2.2 = 1 := by
  refine ⟨?_, ?_, rfl⟩
  . cases lo with
    | none => simp [sliceBounds, HT.sIx]
    | some i =>
      simp only [sliceBounds, HT.sIx, Option.getD_none, show (1 : Int) > 0 by decide, if_true]
      by_cases h : i < 0
      . simp only [h, if_true] <;> omega
      . simp only [h, if_false] <;> omega
  . cases hi with
    | none => simp [sliceBounds, HT.sIx]
    | some i =>
      simp only [sliceBounds, HT.sIx, Option.getD_none, show (1 : Int) > 0 by decide, if_true]
      by_cases h : i < 0
      . simp only [h, if_true] <;> omega
      . simp only [h, if_false] <;> omega
theorem slicePick_cut (its : List Value) (lo hi : Option Int) : slicePick its.toArray lo hi none = ((its.drop (HT.sIx its.length 0 lo)).take (HT.sIx its.length its.length hi - HT.sIx its.length 0 lo)).toArray := by
  obtain ⟨h1, h2, h3⟩ := slice_bounds lo hi its.toArray.size
  unfold slicePick
  rw [h1, h2, h3]
  simp only [sliceRange_one, pick_run, List.size_toArray] <;> rfl
def rSlL (K : PySem.W.Frag) : V -> Option Int -> Option Int -> Hp -> VK -> Prop := λ x lo hi H Q => ∃ a xs, x = .ref a /\ SqL K H a xs /\ ∀ p, H p = none -> Q (.ref p) (upd H p (.lst (cutV xs lo hi)))
theorem sl_list : SlR X (rSlL X.K) := by
  intro pins s σ H x v vl vu lo hi sl Q I rx hs pl pu h
  obtain ⟨a, xs, rfl, hx, q⟩ := h
  cases rx
  obtain ⟨its, r, ht, hz⟩ := I.list hx
  have hlen := r.length
  refine ⟨"list", _, slot_list_getitem.lookup, ht.isList.typeIs, ?_⟩
  refine wpAny_getItem_list_slice ht.isList hs pl pu .none (by simp) ?_ (by rw [List.size_toArray] <;> omega)
  rw [slicePick_cut, <- hlen]
  refine ⟨.ref s.heap.objs.size, _, I.laid (t' := s.toks) (o := .lst (cutV xs lo hi)) (λ b ob q => Heap.get?_push_of_some _ q) (Nat.le_refl _) ?_, rfl, q _ (I.hok.fresh (Nat.le_refl _))⟩
  exact ⟨Nat.le_trans (cutV_length xs lo hi) hz, _, 0, (r.drop (HT.sIx xs.length 0 lo)).take (HT.sIx xs.length xs.length hi - HT.sIx xs.length 0 lo), Heap.get?_push_size _ rfl⟩
theorem call_len_seq : CallR X (.builtin "len") (λ xs H Q => ∃ p ys, xs = [.ref p] /\ (SqL X.K H p ys \/ SqT X.K H p ys) /\ Q (.int ys.length) H) := by
  intro pins s σ H xs us Q I r h
  obtain ⟨p, ys, rfl, hq, q⟩ := h
  obtain ⟨u, rfl, rx⟩ := vals1 r
  cases rx
  have hn := line63
  rcases hq with hq | hq
  . obtain ⟨its, r', pl, hz⟩ := I.list hq
    have hlen := r'.length
    exact Calls.call_len_list pl.isList (by simp only [List.size_toArray] <;> omega) ⟨.int ys.length, H, I.tok _, ⟨s.toks + 1, by rw [List.size_toArray, hlen]⟩, q⟩
  . obtain ⟨its, r', pl, hz⟩ := I.tuple hq
    have hlen := r'.length
    exact len_tuple pl (by simp only [List.size_toArray] <;> omega) ⟨.int ys.length, H, I.tok _, ⟨s.toks + 1, by rw [List.size_toArray, hlen]⟩, q⟩
theorem call_list_of : CallR X (.type "list") (λ xs H Q => ∃ p ys, xs = [.ref p] /\ (SqL X.K H p ys \/ SqT X.K H p ys) /\ ∀ l, H l = none -> Q (.ref l) (upd H l (.lst ys))) := by
  intro pins s σ H xs us Q I r h
  obtain ⟨p, ys, rfl, hq, q⟩ := h
  obtain ⟨u, rfl, rx⟩ := vals1 r
  cases rx
  have fin : ∀ (its : List Value), Vals ys its -> ys.length <= sizeLine -> ∀ (h' : Heap) (c' : Nat), (∀ b o', s.heap.get? b = some o' -> h'.get? b = some o') ->
      h'.get? s.heap.objs.size = some { cls := .type "list", dict := none, data := .seq its.toArray c', slots := #[] } -> EP X pins σ Q (.ref s.heap.objs.size) { s with heap := h' } := λ its r' hz h' c' kp e =>
    ⟨.ref s.heap.objs.size, _, I.laid (t' := s.toks) kp (Nat.le_refl _) (show ObjOk X.prog X.w _ h' _ (.lst ys) from ⟨hz, its, c', r', e⟩), rfl, q _ (I.hok.fresh (Nat.le_refl _))⟩
  rcases hq with hq | hq
  . obtain ⟨its, r', pl, hz⟩ := I.list hq
    have hlen := r'.length
    obtain ⟨o, ho, hc, n, hd⟩ := pl.isList
    exact call_list_seq p (.inl rfl) ho hc hd (λ h' c' kp e => fin its r' hz h' c' kp e) (by simp only [List.size_toArray] <;> omega)
  . obtain ⟨its, r', pl, hz⟩ := I.tuple hq
    have hlen := r'.length
    obtain ⟨o, ho, hc, n, hd⟩ := pl
    exact call_list_seq p (.inr rfl) ho hc hd (λ h' c' kp e => fin its r' hz h' c' kp e) (by simp only [List.size_toArray] <;> omega)
def tyV (K : PySem.W.Frag) (T : String) (x : V) (H : Hp) : Prop := match x with
  | .str _ => T = "str"
  | .int _ => T = "int"
  | .ref p => (T = "list" /\ ∃ xs, SqL K H p xs) \/ (T = "tuple" /\ ∃ o, K.lookup p = some o /\ o.cls = .type "tuple" /\ o.dict = none) \/
      (T = "dict" /\ ((∃ kvs, H p = some (.dK kvs)) \/ ∃ kvs, H p = some (.dT kvs))) \/ (T = "set" /\ ∃ S n, H p = some (.set S n))
  | _ => False
theorem tyV_is {pins : List (Addr × Obj)} {σ : St} {H : Hp} {s : Shared} {T : String} {x : V} {v : Value} (I : Inv X pins σ H s) (r : RelV x v) (ty : tyV X.K T x H) :
    s.TypeIs v T /\ ∀ a, v = .ref a -> ∃ ob, s.heap.get? a = some ob /\ ob.dict = none := by
  cases x with
  | str z =>
    obtain ⟨t, rfl⟩ := r
    cases (show T = "str" from ty)
    exact ⟨typeIs_str s z t, λ _ e => nomatch e⟩
  | int i =>
    obtain ⟨t, rfl⟩ := r
    cases (show T = "int" from ty)
    exact ⟨typeIs_int s i t, λ _ e => nomatch e⟩
  | ref p =>
    cases r
    rcases ty with ⟨rfl, xs, hq⟩ | ⟨rfl, o, hk, hc, hd⟩ | ⟨rfl, hk⟩ | ⟨rfl, S, n, hk⟩
    . obtain ⟨its, _, pl, _⟩ := I.list hq
      refine ⟨pl.isList.typeIs, λ a e => ?_⟩
      cases e
      obtain ⟨o, n, e, c, hd, _⟩ := pl
      exact ⟨o, e, hd⟩
    . refine ⟨⟨o, I.kIn p o hk, hc⟩, λ a e => ?_⟩
      cases e
      exact ⟨o, I.kIn _ o hk, hd⟩
    . have z : ∃ o, s.heap.get? p = some o /\ o.ExactDict := by
        rcases hk with ⟨kvs, hk⟩ | ⟨kvs, hk⟩
        . obtain ⟨_, _, _, _, o, _, _, e, ex, _⟩ := I.hok p _ hk
          exact ⟨o, e, ex⟩
        . obtain ⟨_, _, _, _, o, _, _, e, ex, _⟩ := I.hok p _ hk
          exact ⟨o, e, ex⟩
      obtain ⟨o, e, ex⟩ := z
      refine ⟨⟨o, e, ex.1⟩, λ a e2 => ?_⟩
      cases e2
      exact ⟨o, e, ex.2.1⟩
    . obtain ⟨o, _, _, _, e, ex, _⟩ := I.hok p _ hk
      refine ⟨⟨o, e, ex.1⟩, λ a e2 => ?_⟩
      cases e2
      exact ⟨o, e, ex.2.1⟩
  | _ => exact False.elim ty
def tBM0 (K : PySem.W.Frag) (T : String) (r : V -> List V -> Hp -> VK -> Prop) (to : TE) : TE := λ σ H Q => to σ H λ x H1 => tyV K T x H1 /\ r x [] H1 Q
def tBM (K : PySem.W.Frag) (T : String) (r : V -> List V -> Hp -> VK -> Prop) (to : TE) (t : TA) : TE := λ σ H Q => to σ H λ x H1 => tyV K T x H1 /\ t σ H1 λ xs H2 => r x xs H2 Q
variable {o e : Expr} {es : List Expr} {to : TE} {t : TA} {name : Str} {apos cpos : Pos} {T id : String} {r : V -> List V -> Hp -> VK -> Prop}
theorem pe_bm0 (pa : PlainAttrs T) (slot : Slot T name id) (hty : typeOf (.builtin id) = pure (.type "method_descriptor")) (hm : MtR X id r) (ho : PE X o to)
    (hbase : attributeBase o name X.env (eval o X.env) = eval o X.env := by rfl) (hline : (apos.endLine == cpos.line) = true := by rfl) : PE X (.Call (.Attribute o name apos) [] [] cpos) (tBM0 X.K T r to) := by
  intro pins s σ H Q I h
  refine wpAny_Call_method0_late hbase hline (thn (ho pins s σ H _ I h) λ v s1 ⟨x, H1, I1, r1, ty, q1⟩ => ?_)
  obtain ⟨h1, h2⟩ := tyV_is I1 r1 ty
  exact ⟨T, id, pa, slot, hty, h1, h2, Calls.callWith_builtin rfl (PySem.evalArgs_none (hm pins s1 σ H1 x [] v [] Q I1 r1 .nil q1))⟩
theorem pe_bm (pa : PlainAttrs T) (slot : Slot T name id) (hty : typeOf (.builtin id) = pure (.type "method_descriptor")) (hm : MtR X id r) (ho : PE X o to) (ha : PA X (e :: es) t)
    (hbase : attributeBase o name X.env (eval o X.env) = eval o X.env := by rfl)
    (hfew : ((backTo cpos (starEach (e :: es) X.env)).all (λ x => !x.1) && (backToKw cpos (keywordEach [] X.env)).all (λ x => x.1.isSome)
      && decide ((e :: es).length + ([] : List Keyword).length + (if ([] : List Keyword).isEmpty then 0 else 1) < 30)) = true := by rfl)
    (hline : (apos.endLine == cpos.line) = true := by rfl) (hs : starEach (e :: es) X.env = (false, eval e X.env) :: starEach es X.env := by rfl) (hplain : (backTo cpos (starEach es X.env)).any (·.1) = false := by rfl) :
    PE X (.Call (.Attribute o name apos) (e :: es) [] cpos) (tBM X.K T r to t) := by
  intro pins s σ H Q I h
  refine wpAny_Call_method_late hbase hfew hline rfl (thn (ho pins s σ H _ I h) λ v s1 ⟨x, H1, I1, r1, ty, q1⟩ => ?_)
  obtain ⟨h1, h2⟩ := tyV_is I1 r1 ty
  refine ⟨T, id, pa, slot, hty, h1, h2, ?_⟩
  have hA := ha cpos pins s1 σ H1 _ I1 q1
  rw [hs] at hA ⊢
  refine Calls.callWith_builtin (by show (false || (backTo cpos (starEach es X.env)).any (·.1)) = false; rw [hplain] <;> rfl) (Calls.evalArgs_plain ?_)
  exact thn hA λ us s2 ⟨vs, H2, I2, r2, q2⟩ => hm pins s2 σ H2 x vs v us Q I2 r1 r2 q2
end
end L2
namespace L2
open PySem PySem.Spec PyProof.Rows
def MtM (X : Cx) (id : String) (r : V -> List V -> Hp -> VK -> Prop) : Prop :=
  ∀ (pins : List (Addr × Obj)) (s : Shared) (σ : St) (H : Hp) (x : V) (xs : List V) (v : Value) (us : List Value) (Q : VK), Inv X pins σ H s -> RelV x v -> Vals xs us -> r x xs H Q ->
    wpAny (model X.prog X.w) X.A (call (.builtin id) (v :: us)) (EP X pins σ Q) X.xe s
theorem Vals.one : ∀ {x : V} {us : List Value}, Vals [x] us -> ∃ u, us = [u] /\ RelV x u
  | _, _, .cons r .nil => ⟨_, rfl, r⟩
theorem Vals.zero : ∀ {us : List Value}, Vals [] us -> us = []
  | _, .nil => rfl
theorem Vals.dropLast {xs : List V} {us : List Value} (h : Vals xs us) : Vals xs.dropLast us.dropLast := by
  induction h with
  | nil => exact .nil
  | cons r t ih =>
    cases t with
    | nil => exact .nil
    | cons q t' => exact .cons r ih
theorem Vals.eraseIdx : ∀ {xs : List V} {us : List Value} (i : Nat), Vals xs us -> Vals (xs.eraseIdx i) (us.eraseIdx i)
  | _, _, _, .nil => .nil
  | _, _, 0, .cons _ t => t
  | _, _, i + 1, .cons r t => .cons r (Vals.eraseIdx i t)
theorem erase_last {α : Type} (l : List α) : l.eraseIdx (l.length - 1) = l.dropLast := by
  induction l with
  | nil => rfl
  | cons a r ih =>
    cases r with
    | nil => rfl
    | cons b r =>
      have e : (a :: b :: r).length - 1 = ((b :: r).length - 1) + 1 := by
        have h1 : (a :: b :: r).length = r.length + 2 := rfl
        have h2 : (b :: r).length = r.length + 1 := rfl
        omega
      rw [e, List.eraseIdx_cons_succ, ih]
      all_goals rfl
theorem len_erase {α : Type} : ∀ (l : List α) (i : Nat), (l.eraseIdx i).length <= l.length
  | [], _ => Nat.le_refl _
  | _ :: _, 0 => Nat.le_succ _
  | _ :: r, i + 1 => Nat.succ_le_succ (len_erase r i)
section
variable {X : Cx} {pins : List (Addr × Obj)} {σ : St} {H : Hp} {s : Shared} {l b : Addr} {xs ys zs : List V}
theorem Inv.lset {its its' : List Value} {n : Nat} {f : Array Value -> Array Value} {t' : Nat} (I : Inv X pins σ H s) (hH : H l = some (.lst xs))
    (e : s.heap.get? l = some { cls := .type "list", data := .seq its.toArray n }) (hf : f its.toArray = its'.toArray) (hv : Vals ys its') (hz : ys.length <= sizeLine) :
    Inv X pins σ (upd H l (.lst ys)) { s with heap := s.heap.update l (Obj.mapSeq f), toks := t' } := by
  have q := PySem.IsL.update e f
  rw [hf] at q
  refine I.write (x := l) (e := l) (by rw [hH]; exact trivial) (.inl rfl) (λ b' u hb hu => (Heap.get?_update_other s.heap (Obj.mapSeq f) (Ne.symm hb)).trans hu) ⟨_, q⟩ ?_
  exact ⟨hz, its', _, hv, q⟩
theorem Inv.lnew {its : List Value} {t' : Nat} (I : Inv X pins σ H s) (hv : Vals ys its) (hz : ys.length <= sizeLine) :
    Inv X pins σ (upd H s.heap.objs.size (.lst ys)) { s with heap := s.heap.push { cls := .type "list", data := .seq its.toArray }, toks := t' } :=
  I.laid (λ _ _ q => Heap.get?_push_of_some _ q) (Nat.le_refl _) ⟨hz, its, 0, hv, Heap.get?_push_size _ rfl⟩
theorem Inv.fresh (I : Inv X pins σ H s) : H s.heap.objs.size = none := I.hok.fresh (Nat.le_refl _)
theorem Inv.lstM (I : Inv X pins σ H s) (hH : H l = some (.lst xs)) : xs.length <= sizeLine /\ ∃ (its : List Value) (n : Nat), Vals xs its /\ xs.length = its.length /\ s.heap.get? l = some { cls := .type "list", data := .seq its.toArray n } := by
  obtain ⟨z, its, n, r, e⟩ := I.hok l _ hH
  exact ⟨z, its, n, r, r.length, e⟩
theorem notLongL {n : Nat} (h : n <= sizeLine) : Builtin.List.listTooLong n = false := by
  unfold Builtin.List.listTooLong
  exact decide_eq_false (by omega)
end
section
variable {X : Cx}
def rAppend : V -> List V -> Hp -> VK -> Prop := λ x vs H Q => ∃ l xs y, x = .ref l /\ vs = [y] /\ H l = some (.lst xs) /\ xs.length < sizeLine /\ Q .non (upd H l (.lst (xs ++ [y])))
theorem mt_append : MtM X "list.append" rAppend := by
  intro pins s σ H x vs v us Q I rx rv h
  obtain ⟨l, xs, y, rfl, rfl, hH, hz, q⟩ := h
  cases rx
  obtain ⟨u, rfl, ru⟩ := rv.one
  obtain ⟨z, its, n, r, hl, e⟩ := I.lstM hH
  refine call_meets F.slot_list_append ⟨_, e, rfl⟩ F.entry_list_append (F.args_list_append_2 _ _) (PySem.list_append l its.toArray n u (by rw [List.size_toArray]; omega)) ⟨e, ?_⟩
  refine ⟨.non, _, I.lset (its' := its ++ [u]) hH e (by simp) (r.append (.cons ru .nil)) ?_, rfl, q⟩
  rw [List.length_append, List.length_singleton]
  omega
def rExtend : V -> List V -> Hp -> VK -> Prop := λ x vs H Q => ∃ l b xs zs, x = .ref l /\ vs = [.ref b] /\ H l = some (.lst xs) /\ H b = some (.lst zs) /\ xs.length + zs.length <= sizeLine /\ Q .non (upd H l (.lst (xs ++ zs)))
theorem mt_extend : MtM X "list.extend" rExtend := by
  intro pins s σ H x vs v us Q I rx rv h
  obtain ⟨l, b, xs, zs, rfl, rfl, hH, hB, hz, q⟩ := h
  cases rx
  obtain ⟨u, rfl, ru⟩ := rv.one
  cases ru
  obtain ⟨z, its, n, r, hl, e⟩ := I.lstM hH
  obtain ⟨z2, its2, n2, r2, hl2, e2⟩ := I.lstM hB
  have hsz : its.toArray.size + its2.toArray.size <= sizeLine := by rw [List.size_toArray, List.size_toArray]; omega
  have hlong : ¬ (!its.toArray.isEmpty && Builtin.List.listTooLong (its.toArray.size + its2.toArray.size)) = true := by
    rw [notLongL hsz, Bool.and_false]
    exact Bool.false_ne_true
  refine call_meets F.slot_list_extend ⟨_, e, rfl⟩ F.entry_list_extend (F.args_list_extend_2 _ _)
    (AutoSeq1.list_extend_list_list_0 l its.toArray n b its2.toArray n2 hlong (by rw [List.size_toArray]; omega) (by omega)) ⟨e, e2, ?_⟩
  refine ⟨.non, _, I.lset (its' := its ++ its2) hH e (by simp) (r.append r2) ?_, rfl, q⟩
  rw [List.length_append]
  omega
def rPop : V -> List V -> Hp -> VK -> Prop := λ x vs H Q => ∃ l xs y, x = .ref l /\ vs = [] /\ H l = some (.lst xs) /\ xs[xs.length - 1]? = some y /\ Q y (upd H l (.lst xs.dropLast))
theorem mt_pop : MtM X "list.pop" rPop := by
  intro pins s σ H x vs v us Q I rx rv h
  obtain ⟨l, xs, y, rfl, rfl, hH, hy, q⟩ := h
  cases rx
  have hus := rv.zero
  subst hus
  obtain ⟨z, its, n, r, hl, e⟩ := I.lstM hH
  obtain ⟨u, hu, ru⟩ := r.get hy
  have hy' : its.toArray[its.toArray.size - 1]? = some u := by
    show its.toArray[its.length - 1]? = some u
    rw [<- Array.getElem?_toList, <- hl]
    exact hu
  refine call_meets F.slot_list_pop ⟨_, e, rfl⟩ F.entry_list_pop (F.args_list_pop_1 _) (MeetsSeq.list_pop_last l its.toArray n u hy' (by rw [List.size_toArray]; omega)) ⟨e, ?_⟩
  refine ⟨y, _, I.lset (its' := its.dropLast) hH e ?_ r.dropLast ?_, ru, q⟩
  . show its.toArray.eraseIdxIfInBounds (its.toArray.size - 1) = its.dropLast.toArray
    rw [List.size_toArray, List.eraseIdxIfInBounds_toArray, erase_last]
  . rw [List.length_dropLast]
    omega
def rPopAt : V -> List V -> Hp -> VK -> Prop := λ x vs H Q => ∃ l xs i k y, x = .ref l /\ vs = [.int i] /\ H l = some (.lst xs) /\ -(2 ^ 63) <= i /\ i < 2 ^ 63 /\ seqIndex? i xs.length = some k /\ xs[k]? = some y /\ Q y (upd H l (.lst (xs.eraseIdx k)))
theorem mt_popAt : MtM X "list.pop" rPopAt := by
  intro pins s σ H x vs v us Q I rx rv h
  obtain ⟨l, xs, i, k, y, rfl, rfl, hH, h1, h2, hk, hy, q⟩ := h
  cases rx
  obtain ⟨u, rfl, ru⟩ := rv.one
  obtain ⟨t, rfl⟩ := ru
  obtain ⟨z, its, n, r, hl, e⟩ := I.lstM hH
  obtain ⟨w, hw, rw'⟩ := r.get hy
  refine call_meets F.slot_list_pop ⟨_, e, rfl⟩ F.entry_list_pop (F.args_list_pop_2 _ _)
    (MeetsSeq.list_pop_at l its.toArray n i t k w (fitsIndex_both h1 h2) (by rw [List.size_toArray, <- hl]; exact hk) (by rw [<- Array.getElem?_toList]; exact hw) (by rw [List.size_toArray]; omega)) ⟨e, ?_⟩
  refine ⟨y, _, I.lset (its' := its.eraseIdx k) hH e ?_ (r.eraseIdx k) ?_, rw', q⟩
  . show its.toArray.eraseIdxIfInBounds k = (its.eraseIdx k).toArray
    rw [List.eraseIdxIfInBounds_toArray]
  . have := len_erase xs k
    omega
def rCat : R2 := λ x y H Q => ∃ l b xs zs, x = .ref l /\ y = .ref b /\ H l = some (.lst xs) /\ H b = some (.lst zs) /\ xs.length + zs.length <= sizeLine /\ ∀ p, H p = none -> Q (.ref p) (upd H p (.lst (xs ++ zs)))
theorem op_cat : OpR X (binaryOp .Add) rCat := by
  intro pins s σ H x y v u Q I rx ry h
  obtain ⟨l, b, xs, zs, rfl, rfl, hH, hB, hz, q⟩ := h
  cases rx
  cases ry
  obtain ⟨z, its, n, r, hl, e⟩ := I.lstM hH
  obtain ⟨z2, its2, n2, r2, hl2, e2⟩ := I.lstM hB
  refine PySem.P.add_list e e2 ?_ (by rw [List.size_toArray, List.size_toArray]; omega)
  have ea : its.toArray ++ its2.toArray = (its ++ its2).toArray := by simp
  rw [ea]
  exact ⟨.ref _, _, I.lnew (t' := s.toks) (r.append r2) (by rw [List.length_append]; omega), rfl, q _ I.fresh⟩
end
section
variable {prog : Program} {w : World} {A : Around} {E : Value -> Shared -> Prop} {s : Shared}
end
section
variable {X : Cx}
end
end L2
namespace L2
open PySem PySem.Spec PyProof.Rows
section
variable {κ : Type} [DecidableEq κ]
def valV (kvs : List (κ × V)) (k : κ) : Option V := (kvs.find? λ kv => decide (kv.1 = k)).map (·.2)
def putK (kvs : List (κ × V)) (k : κ) (v : V) : List (κ × V) :=
  if (kvs.any λ kv => decide (kv.1 = k)) = true then kvs.map (λ kv => if kv.1 = k then (kv.1, v) else kv) else kvs ++ [(k, v)]
def dropK (kvs : List (κ × V)) (k : κ) : List (κ × V) := kvs.filter λ kv => decide (kv.1 ≠ k)
theorem valV_pos {p : κ × V} {r : List (κ × V)} {k : κ} (e : p.1 = k) : valV (p :: r) k = some p.2 := by simp [valV, List.find?_cons, e]
theorem valV_neg {p : κ × V} {r : List (κ × V)} {k : κ} (e : ¬ p.1 = k) : valV (p :: r) k = valV r k := by simp [valV, List.find?_cons, e]
theorem valV_any (k : κ) : ∀ kvs : List (κ × V), (kvs.any λ kv => decide (kv.1 = k)) = (valV kvs k).isSome
  | [] => rfl
  | p :: r => by
    rw [List.any_cons]
    by_cases e : p.1 = k
    . simp only [valV_pos e, decide_eq_true e, Bool.true_or, Option.isSome_some]
    . rw [valV_neg e, decide_eq_false e, Bool.false_or]; exact valV_any k r
theorem valV_map (k j : κ) (y : V) : ∀ kvs : List (κ × V), valV (kvs.map λ kv => if kv.1 = k then (kv.1, y) else kv) j = (valV kvs j).map λ x => if j = k then y else x
  | [] => rfl
  | p :: r => by
    have ih := valV_map k j y r
    rw [List.map_cons]
    by_cases h : p.1 = k
    . rw [if_pos h]
      by_cases e : p.1 = j
      . rw [valV_pos (p := (p.1, y)) e, valV_pos e, Option.map_some, if_pos (e.symm.trans h)]
      . rw [valV_neg (p := (p.1, y)) e, valV_neg e, ih]
    . rw [if_neg h]
      by_cases e : p.1 = j
      . rw [valV_pos (p := p) e, valV_pos e, Option.map_some, if_neg (λ z => h (e.trans z))]
      . rw [valV_neg (p := p) e, valV_neg e, ih]
theorem valV_snoc (k j : κ) (y : V) : ∀ kvs : List (κ × V), valV kvs k = none -> valV (kvs ++ [(k, y)]) j = if j = k then some y else valV kvs j
  | [], _ => by
    by_cases e : k = j
    . rw [if_pos e.symm]; exact valV_pos (p := (k, y)) e
    . rw [if_neg (λ z => e z.symm)]; exact valV_neg (p := (k, y)) e
  | p :: r, hn => by
    rw [List.cons_append]
    have hk : ¬ p.1 = k := λ z => by rw [valV_pos z] at hn; cases hn
    rw [valV_neg hk] at hn
    have ih := valV_snoc k j y r hn
    by_cases e : p.1 = j
    . rw [valV_pos e, valV_pos e, if_neg (λ z => hk (e.trans z))]
    . rw [valV_neg e, valV_neg e, ih]
theorem valV_put (kvs : List (κ × V)) (k j : κ) (y : V) : valV (putK kvs k y) j = if j = k then some y else valV kvs j := by
  unfold putK
  by_cases a : (kvs.any λ kv => decide (kv.1 = k)) = true
  . rw [if_pos a, valV_map]
    rw [valV_any] at a
    by_cases e : j = k
    . obtain ⟨x, hx⟩ := Option.isSome_iff_exists.mp a
      rw [if_pos e, e, hx, Option.map_some, if_pos rfl]
    . rw [if_neg e]
      cases valV kvs j with
      | none => rfl
      | some x => rw [Option.map_some, if_neg e]
  . rw [if_neg a]
    refine valV_snoc k j y kvs ?_
    rw [valV_any] at a
    cases q : valV kvs k with
    | none => rfl
    | some x => rw [q] at a; exact (a rfl).elim
theorem length_putK (kvs : List (κ × V)) (k : κ) (v : V) : (putK kvs k v).length <= kvs.length + 1 := by
  unfold putK
  split
  . rw [List.length_map]; omega
  . rw [List.length_append, List.length_cons, List.length_nil]; omega
theorem putK_new {kvs : List (κ × V)} {k : κ} (v : V) (h : valV kvs k = none) : putK kvs k v = kvs ++ [(k, v)] := by
  unfold putK
  rw [valV_any, h]
  exact if_neg (by decide)
theorem RelO.isSome_eq {o : Option V} {u : Option Value} (r : RelO o u) : o.isSome = u.isSome := by
  cases o with
  | none => cases u with
    | none => rfl
    | some _ => exact (show False from r).elim
  | some _ => cases u with
    | none => exact (show False from r).elim
    | some _ => rfl
theorem KV.val {kvs : List (κ × V)} {vs : List (κ × Value)} (r : KV kvs vs) (k : κ) : RelO (valV kvs k) (valueAt vs k) := by
  unfold KV at r
  induction r with
  | nil => exact True.intro
  | @cons p q ps qs h t ih =>
    obtain ⟨h1, h2⟩ := h
    by_cases e : p.1 = k
    . have e' : q.1 = k := h1.symm.trans e
      have b : valueAt (q :: qs) k = some q.2 := by simp [valueAt, List.find?_cons, e']
      rw [valV_pos e, b]; exact h2
    . have e' : ¬ q.1 = k := λ z => e (h1.trans z)
      have b : valueAt (q :: qs) k = valueAt qs k := by simp [valueAt, List.find?_cons, e']
      rw [valV_neg e, b]; exact ih
theorem KV.any {kvs : List (κ × V)} {vs : List (κ × Value)} (r : KV kvs vs) (k : κ) : (kvs.any λ kv => decide (kv.1 = k)) = vs.any λ kv => decide (kv.1 = k) := by
  unfold KV at r
  induction r with
  | nil => rfl
  | cons h t ih => rw [List.any_cons, List.any_cons, ih, h.1]
theorem KV.repl {kvs : List (κ × V)} {vs : List (κ × Value)} (r : KV kvs vs) (k : κ) {y : V} {u : Value} (ry : RelV y u) :
    KV (kvs.map λ kv => if kv.1 = k then (kv.1, y) else kv) (vs.map λ kv => if kv.1 = k then (kv.1, u) else kv) := by
  unfold KV at r ⊢
  induction r with
  | nil => exact .nil
  | @cons p q ps qs h t ih =>
    rw [List.map_cons, List.map_cons]
    refine .cons ?_ ih
    obtain ⟨h1, h2⟩ := h
    by_cases e : p.1 = k
    . rw [if_pos e, if_pos (h1.symm.trans e)]; exact ⟨h1, ry⟩
    . rw [if_neg e, if_neg (λ z => e (h1.trans z))]; exact ⟨h1, h2⟩
theorem KV.put {kvs : List (κ × V)} {vs : List (κ × Value)} (r : KV kvs vs) (k : κ) {y : V} {u : Value} (ry : RelV y u) : KV (putK kvs k y) (stored vs k u) := by
  unfold putK stored
  rw [r.any k]
  by_cases e : (vs.any λ kv => decide (kv.1 = k)) = true
  . rw [if_pos e, if_pos e]; exact r.repl k ry
  . rw [if_neg e, if_neg e]; exact Paired.snoc r ⟨rfl, ry⟩
theorem KV.drop {kvs : List (κ × V)} {vs : List (κ × Value)} (r : KV kvs vs) (k : κ) : KV (dropK kvs k) (without vs k) := by
  unfold KV at r ⊢
  unfold dropK without
  induction r with
  | nil => exact .nil
  | @cons p q ps qs h t ih =>
    obtain ⟨h1, h2⟩ := h
    rw [List.filter_cons, List.filter_cons]
    by_cases e : p.1 = k
    . have a : ¬ decide (p.1 ≠ k) = true := by simp [e]
      have b : ¬ decide (q.1 ≠ k) = true := by simp [h1.symm.trans e]
      rw [if_neg a, if_neg b]; exact ih
    . have e' : ¬ q.1 = k := λ z => e (h1.trans z)
      have a : decide (p.1 ≠ k) = true := by simp [e]
      have b : decide (q.1 ≠ k) = true := by simp [e']
      rw [if_pos a, if_pos b]; exact .cons ⟨h1, h2⟩ ih
theorem KV.length {kvs : List (κ × V)} {vs : List (κ × Value)} (r : KV kvs vs) : kvs.length = vs.length := Paired.length r
theorem dropK_le (kvs : List (κ × V)) (k : κ) : (dropK kvs k).length <= kvs.length := List.length_filter_le _ _
end
theorem kV_is {P : Program} {w : World} {k : Key} {u : Value} (r : RelV (kV k) u) : (mixKind P w).is k u = true := by
  cases k with
  | inl i => obtain ⟨t, e⟩ := (show ∃ t, u = Value.int i t from r); subst e; exact mixKind_int P w i t
  | inr x => obtain ⟨t, e⟩ := (show ∃ t, u = Value.str x t from r); subst e; exact mixKind_str P w x t
theorem items_are {P : Program} {w : World} : ∀ {ks : List Key} {us : List Value}, Vals (ks.map kV) us -> ItemsAre (mixKind P w) ks us
  | [], _, r => by rw [List.map_nil] at r; cases r; exact .nil
  | k :: ks, _, r => by
    rw [List.map_cons] at r
    cases r with
    | cons h t => exact .cons (kV_is h) (items_are t)
abbrev KT (H : Hp) : List (List Key × V) -> List (List Key × Addr × Value) -> Prop := Paired λ p q => p.1 = q.1 /\ H q.2.1 = some (.tup (p.1.map kV)) /\ RelV p.2 q.2.2
theorem KT.val {H : Hp} {kvs : List (List Key × V)} {xs : List (List Key × Addr × Value)} (r : KT H kvs xs) (k : List Key) : RelO (valV kvs k) ((atKey xs k).map (·.2)) := by
  induction r with
  | nil => exact True.intro
  | @cons p q ps qs h t ih =>
    obtain ⟨h1, _, h2⟩ := h
    by_cases e : p.1 = k
    . have e' : q.1 = k := h1.symm.trans e
      have b : atKey (q :: qs) k = some q.2 := by simp [atKey, List.find?_cons, e']
      rw [valV_pos e, b]; exact h2
    . have e' : ¬ q.1 = k := λ z => e (h1.trans z)
      have b : atKey (q :: qs) k = atKey qs k := by simp [atKey, List.find?_cons, e']
      rw [valV_neg e, b]; exact ih
theorem KT.repl {H : Hp} {kvs : List (List Key × V)} {xs : List (List Key × Addr × Value)} (r : KT H kvs xs) (k : List Key) {y : V} {u : Value} (ry : RelV y u) :
    KT H (kvs.map λ kv => if kv.1 = k then (kv.1, y) else kv) (xs.map (putAt k u)) := by
  induction r with
  | nil => exact .nil
  | @cons p q ps qs h t ih =>
    rw [List.map_cons, List.map_cons]
    refine .cons ?_ ih
    obtain ⟨h1, h2, h3⟩ := h
    unfold putAt
    by_cases e : p.1 = k
    . rw [if_pos e, if_pos (h1.symm.trans e)]; exact ⟨h1, h2, ry⟩
    . rw [if_neg e, if_neg (λ z => e (h1.trans z))]; exact ⟨h1, h2, h3⟩
theorem KT.put {H : Hp} {kvs : List (List Key × V)} {xs : List (List Key × Addr × Value)} (r : KT H kvs xs) (k : List Key) {b : Addr} {y : V} {u : Value} (hb : H b = some (.tup (k.map kV))) (ry : RelV y u) :
    KT H (putK kvs k y) (storedH xs k b u) := by
  have e : (kvs.any λ kv => decide (kv.1 = k)) = (atKey xs k).isSome := by
    rw [valV_any, (r.val k).isSome_eq, Option.isSome_map]
  unfold putK storedH
  rw [e]
  by_cases q : (atKey xs k).isSome = true
  . rw [if_pos q, if_pos q]; exact r.repl k ry
  . rw [if_neg q, if_neg q]; exact Paired.snoc r ⟨rfl, hb, ry⟩
theorem KT.keeps {H H' : Hp} {kvs : List (List Key × V)} {xs : List (List Key × Addr × Value)} (r : KT H kvs xs) (ht : ∀ b ys, H b = some (.tup ys) -> H' b = some (.tup ys)) : KT H' kvs xs :=
  Paired.mapP r λ _ _ z => ⟨z.1, ht _ _ z.2.1, z.2.2⟩
section
variable {P : Program} {w : World} {H : Hp} {h : Heap} {a : Addr}
theorem rd_of {u : HO} (ok : HOk P w H h) (e : Rd H a u) : ObjOk P w H h a u := e.ok ok
theorem dk_rd {kvs : List (Key × V)} (ok : HOk P w H h) (e : Rd H a (.dK kvs)) : kvs.length <= sizeLine /\ (a == sysModules) = false /\ ∃ vs, KV kvs vs /\ h.DictOf (mixKind P w) a vs :=
  show ObjOk P w H h a (.dK kvs) from rd_of ok e
theorem dk_of {kvs : List (Key × V)} (ok : HOk P w H h) (e : H a = some (.dK kvs)) : kvs.length <= sizeLine /\ (a == sysModules) = false /\ ∃ vs, KV kvs vs /\ h.DictOf (mixKind P w) a vs := dk_rd ok (.inl e)
theorem key_of {ks : List Key} (ok : HOk P w H h) (e : H a = some (.tup (ks.map kV))) : (tupleKind (mixKind P w)).is h ks a := by
  obtain ⟨_, its, r, o, h1, h2, n, h3⟩ := (show ObjOk P w H h a (.tup (ks.map kV)) from ok a _ e)
  exact ⟨o, its.toArray, n, h1, h2, h3, by simpa using items_are r⟩
theorem dt_rd {kvs : List (List Key × V)} (ok : HOk P w H h) (e : Rd H a (.dT kvs)) : kvs.length <= sizeLine /\ (a == sysModules) = false /\
    ∃ xs, KT H kvs xs /\ h.DictOfH (tupleKind (mixKind P w)) a xs := by
  obtain ⟨z, y, xs, r, o, es, ep, h1, h2, h3, h4, h5⟩ := (show ObjOk P w H h a (.dT kvs) from rd_of ok e)
  refine ⟨z, y, xs, r, o, es, ep, h1, h2, h3, h4, λ x hx => ?_, h5⟩
  have all : ∀ {l : List (List Key × V)} {m : List (List Key × Addr × Value)}, KT H l m -> ∀ x ∈ m, (tupleKind (mixKind P w)).is h x.1 x.2.1 := by
    intro l m q
    induction q with
    | nil => intro x hx; exact nomatch hx
    | @cons p q ps qs hq t ih =>
      intro x hx
      rcases List.mem_cons.mp hx with e | hx
      . subst e
        exact key_of ok (by rw [<- hq.1]; exact hq.2.1)
      . exact ih x hx
  exact all r x hx
theorem dt_of {kvs : List (List Key × V)} (ok : HOk P w H h) (e : H a = some (.dT kvs)) : kvs.length <= sizeLine /\ (a == sysModules) = false /\
    ∃ xs, KT H kvs xs /\ h.DictOfH (tupleKind (mixKind P w)) a xs := dt_rd ok (.inl e)
end
def DGet (H : Hp) (a : Addr) (y : V) (r : Option V) : Prop :=
  (∃ kvs k, Rd H a (.dK kvs) /\ y = kV k /\ r = valV kvs k) \/ ∃ kvs k b, Rd H a (.dT kvs) /\ y = .ref b /\ H b = some (.tup (k.map kV)) /\ r = valV kvs k
def DPut (H : Hp) (a : Addr) (y v : V) (H' : Hp) : Prop :=
  (∃ kvs k, H a = some (.dK kvs) /\ y = kV k /\ kvs.length < sizeLine /\ H' = upd H a (.dK (putK kvs k v))) \/
  ∃ kvs k b, H a = some (.dT kvs) /\ y = .ref b /\ H b = some (.tup (k.map kV)) /\ kvs.length < sizeLine /\ H' = upd H a (.dT (putK kvs k v))
theorem DGet.k {H : Hp} {a : Addr} {kvs : List (Key × V)} {k : Key} (e : H a = some (.dK kvs)) : DGet H a (kV k) (valV kvs k) := .inl ⟨kvs, k, .inl e, rfl, rfl⟩
theorem DPut.k {H : Hp} {a : Addr} {kvs : List (Key × V)} {k : Key} {v : V} (e : H a = some (.dK kvs)) (hl : kvs.length < sizeLine) : DPut H a (kV k) v (upd H a (.dK (putK kvs k v))) := .inl ⟨kvs, k, e, rfl, hl, rfl⟩
section
variable {X : Cx} {pins : List (Addr × Obj)} {σ : St} {H : Hp} {s : Shared} {a : Addr} {y v : V} {u r : Value} {o : Option V} {A : Around} {E : Value -> Shared -> Prop}
theorem Inv.big (I : Inv X pins σ H s) : sysModules < s.heap.objs.size := by
  have h : mainGlobals < s.heap.objs.size := (I.mod.glob.keeps I.bk).lt
  exact Nat.lt_trans (by decide) h
theorem d_getItem {Q : Value -> Shared -> Prop} (hu : A.units + 1 < cLine) (I : Inv X pins σ H s) (g : DGet H a y (some v)) (ry : RelV y u) (h : ∀ w' s', Inv X pins σ H s' -> RelV v w' -> Q w' s') :
    wpAny (model X.prog X.w) A (getItem (.ref a) u) Q E s := by
  rcases g with ⟨kvs, k, e, ey, l⟩ | ⟨kvs, k, b, e, ey, eb, l⟩
  . subst ey
    obtain ⟨z, hd, vs, rel, dd⟩ := dk_rd I.hok e
    obtain ⟨w', hw, rw'⟩ := RelO.some_of (v := v) (o := valueAt vs k) (by rw [l]; exact rel.val k)
    exact wpAny_getItem_of (kV_is ry) dd.mapOf hw (h w' _ (I.tok _) rw')
  . subst ey
    cases (show u = Value.ref b from ry)
    obtain ⟨z, hd, xs, rel, dd⟩ := dt_rd I.hok e
    obtain ⟨w', hw, rw'⟩ := RelO.some_of (v := v) (o := (atKey xs k).map (·.2)) (by rw [l]; exact rel.val k)
    obtain ⟨p, hp, hp2⟩ := Option.map_eq_some_iff.mp hw
    refine wpAny_getItem_heap (tupleKind_room_in1 hu) (key_of I.hok eb) dd hp ?_
    rw [hp2]
    exact h w' _ (I.tok _) rw'
theorem d_in {Q : Value -> Shared -> Prop} (hu : A.units + 1 < cLine) (I : Inv X pins σ H s) (g : DGet H a y o) (ry : RelV y u) (h : ∀ s', Inv X pins σ H s' -> Q (.bool o.isSome) s') :
    wpAny (model X.prog X.w) A (compareOp .In u (.ref a)) Q E s := by
  rcases g with ⟨kvs, k, e, ey, l⟩ | ⟨kvs, k, b, e, ey, eb, l⟩
  . subst ey
    obtain ⟨z, hd, vs, rel, dd⟩ := dk_rd I.hok e
    refine wpAny_in_of (kV_is ry) hd dd.mapOf ?_
    rw [<- (rel.val k).isSome_eq, <- l]
    exact h _ (I.tok _)
  . subst ey
    cases (show u = Value.ref b from ry)
    obtain ⟨z, hd, xs, rel, dd⟩ := dt_rd I.hok e
    refine wpAny_in_heap (tupleKind_room_in1 hu) (key_of I.hok eb) hd dd ?_
    have q := (rel.val k).isSome_eq
    rw [Option.isSome_map] at q
    rw [<- q, <- l]
    exact h _ (I.tok _)
theorem d_notIn {Q : Value -> Shared -> Prop} (hu : A.units + 1 < cLine) (I : Inv X pins σ H s) (g : DGet H a y o) (ry : RelV y u) (h : ∀ s', Inv X pins σ H s' -> Q (.bool (!o.isSome)) s') :
    wpAny (model X.prog X.w) A (compareOp .NotIn u (.ref a)) Q E s := by
  rcases g with ⟨kvs, k, e, ey, l⟩ | ⟨kvs, k, b, e, ey, eb, l⟩
  . subst ey
    obtain ⟨z, hd, vs, rel, dd⟩ := dk_rd I.hok e
    refine wpAny_notIn_of (kV_is ry) hd dd.mapOf ?_
    rw [<- (rel.val k).isSome_eq, <- l]
    exact h _ (I.tok _)
  . subst ey
    cases (show u = Value.ref b from ry)
    obtain ⟨z, hd, xs, rel, dd⟩ := dt_rd I.hok e
    refine wpAny_notIn_heap (tupleKind_room_in1 hu) (key_of I.hok eb) hd dd ?_
    have q := (rel.val k).isSome_eq
    rw [Option.isSome_map] at q
    rw [<- q, <- l]
    exact h _ (I.tok _)
theorem d_write {h' : Heap} {t' : Nat} {ob : HO} (I : Inv X pins σ H s) (mu : Mut (H a)) (hs : Heap.SameBut a s.heap h') (he : ∃ q, h'.get? a = some q) (new : ObjOk X.prog X.w (upd H a ob) h' a ob) :
    Inv X pins σ (upd H a ob) { s with heap := h', toks := t' } :=
  I.write (x := a) (e := a) mu (.inl rfl) (λ b q hb z => (hs.2 b hb).trans z) he new
theorem dk_new {P : Program} {w : World} {H' : Hp} {h' : Heap} {kvs : List (Key × V)} {vs : List (Key × Value)} (z : kvs.length <= sizeLine) (hd : (a == sysModules) = false) (rel : KV kvs vs) (dd : h'.DictOf (mixKind P w) a vs) :
    ObjOk P w H' h' a (.dK kvs) := ⟨z, hd, vs, rel, dd⟩
theorem d_setItem {H' : Hp} {Q : Unit -> Shared -> Prop} (hu : A.units + 1 < cLine) (I : Inv X pins σ H s) (g : DPut H a y v H') (ry : RelV y u) (rv : RelV v r) (h : ∀ s', Inv X pins σ H' s' -> Q () s') :
    wpAny (model X.prog X.w) A (setItem (.ref a) u r) Q E s := by
  rcases g with ⟨kvs, k, e, ey, l, eH⟩ | ⟨kvs, k, b, e, ey, eb, l, eH⟩
  . subst ey eH
    obtain ⟨z, hd, vs, rel, dd⟩ := dk_of I.hok e
    have hz : vs.length <= sizeLine := by rw [<- rel.length]; exact z
    have hl : (putK kvs k v).length <= sizeLine := by have := length_putK kvs k v; omega
    refine wpAny_setItem_pairs (hsz := hz) (kV_is ry) dd λ h' dd' hs => h _ ?_
    have he : ∃ q, h'.get? a = some q := let ⟨q, _, _, hq, _⟩ := dd'; ⟨q, hq⟩
    exact d_write I (by rw [e]; exact True.intro) hs he (dk_new hl hd (rel.put k rv) dd')
  . subst ey eH
    cases (show u = Value.ref b from ry)
    obtain ⟨z, hd, xs, rel, dd⟩ := dt_of I.hok e
    have hz : xs.length <= sizeLine := by rw [<- Paired.length rel]; exact z
    have hl : (putK kvs k v).length <= sizeLine := by have := length_putK kvs k v; omega
    refine wpAny_setItem_heap (hsz := hz) (tupleKind_room_in1 hu) (key_of I.hok eb) dd λ h' dd' hs => h _ ?_
    obtain ⟨q, es, ep, hq, h2, h3, h4, _, h5⟩ := dd'
    refine d_write I (by rw [e]; exact True.intro) hs ⟨q, hq⟩ ⟨hl, hd, _, (rel.put k eb rv).keeps λ c ys ec => ?_, q, es, ep, hq, h2, h3, h4, h5⟩
    rw [upd_ne (ne_of ec e (λ z => nomatch z))]
    exact ec
end
section
variable {X : Cx} {pins : List (Addr × Obj)} {σ : St} {H : Hp} {s : Shared} {a : Addr} {kvs : List (Key × V)} {k : Key} {u : Value} {A : Around} {E : Value -> Shared -> Prop}
theorem d_delItem {Q : Unit -> Shared -> Prop} (I : Inv X pins σ H s) (e : H a = some (.dK kvs)) (ry : RelV (kV k) u) (l : (valV kvs k).isSome = true) (h : ∀ s', Inv X pins σ (upd H a (.dK (dropK kvs k))) s' -> Q () s') :
    wpAny (model X.prog X.w) A (delItem (.ref a) u) Q E s := by
  obtain ⟨z, hd, vs, rel, dd⟩ := dk_of I.hok e
  refine wpAny_delItem_slot dd.typeIs (by decide) PySem.F.slot_dict_delitem
    (call_meetsIn PySem.F.slot_dict_delitem dd.typeIs PySem.F.entry_dict_delitem (PySem.F.args_dict_delitem_2 _ _) (meets_dict_delitem_pairs (mixKind X.prog X.w) a (kV_is ry)) ⟨vs, dd, by rw [<- rel.length]; exact z, by rw [<- (rel.val k).isSome_eq]; exact l, λ h' dd' hs => h _ ?_⟩)
  have he : ∃ q, h'.get? a = some q := let ⟨q, _, _, hq, _⟩ := dd'; ⟨q, hq⟩
  exact d_write I (by rw [e]; exact True.intro) hs he (dk_new (Nat.le_trans (dropK_le kvs k) z) hd (rel.drop k) dd')
theorem d_pop {v : V} {more : List Value} {Q : Value -> Shared -> Prop} (I : Inv X pins σ H s) (e : H a = some (.dK kvs)) (ry : RelV (kV k) u) (l : valV kvs k = some v) (hm : more = [] \/ ∃ x, more = [x])
    (h : ∀ w' s', Inv X pins σ (upd H a (.dK (dropK kvs k))) s' -> RelV v w' -> Q w' s') : wpAny (model X.prog X.w) A (call (.builtin "dict.pop") (.ref a :: u :: more)) Q E s := by
  obtain ⟨z, hd, vs, rel, dd⟩ := dk_of I.hok e
  obtain ⟨w', hw, rw'⟩ := RelO.some_of (v := v) (o := valueAt vs k) (by rw [<- l]; exact rel.val k)
  have hp : (keyPart u).isSome = true := by
    cases k with
    | inl i => obtain ⟨t, q⟩ := (show ∃ t, u = Value.int i t from ry); subst q; rfl
    | inr x => obtain ⟨t, q⟩ := (show ∃ t, u = Value.str x t from ry); subst q; rfl
  have ha : argsOk "dict.pop" ⟨.ref a :: u :: more, []⟩ := by
    rcases hm with q | ⟨x, q⟩
    . subst q; exact PySem.F.args_dict_pop_2 _ _
    . subst q; exact PySem.F.args_dict_pop_3 _ _ _
  refine call_meetsIn PySem.F.slot_dict_pop dd.typeIs PySem.F.entry_dict_pop ha (meets_dict_pop_there (mixKind X.prog X.w) a (kV_is ry) more hm hp)
    ⟨vs, w', dd, by rw [<- rel.length]; exact z, hw, λ h' dd' hs => h w' _ ?_ rw'⟩
  have he : ∃ q, h'.get? a = some q := let ⟨q, _, _, hq, _⟩ := dd'; ⟨q, hq⟩
  exact d_write I (by rw [e]; exact True.intro) hs he (dk_new (Nat.le_trans (dropK_le kvs k) z) hd (rel.drop k) dd')
theorem d_len {Q : Value -> Shared -> Prop} (I : Inv X pins σ H s) (e : Rd H a (.dK kvs)) (h : ∀ t s', Inv X pins σ H s' -> Q (.int kvs.length t) s') : wpAny (model X.prog X.w) A (call (.builtin "len") [.ref a]) Q E s := by
  obtain ⟨z, hd, vs, rel, dd⟩ := dk_rd I.hok e
  refine call_len_dict hd dd (by rw [<- rel.length]; rw [sizeLine_eq] at z; omega) ?_
  rw [<- rel.length]
  exact h _ _ (I.tok _)
end
def NoSl (i : Expr) : Prop := ∀ ov iv, subscripted i false ov iv = operate [ov, iv] (getItem ov iv)
theorem subD_of {prog : Program} {w : World} {A : Around} {E : Value -> Shared -> Prop} {s : Shared} {env : Env} {value slice : Expr} {pos : Pos} {T id : String} {Q : Value -> Shared -> Prop}
    (hl : typeLookup (.type T) "__getitem__" = pure (some (.builtin id))) (hs : NoSl slice)
    (h : wpAny (model prog w) A (eval value env) (λ o s₁ => wpAny (model prog w) A (eval slice env) (λ i s₂ => s₂.TypeIs o T /\ wpAny (model prog w) A (getItem o i) Q E s₂) E s₁) E s) :
    wpAny (model prog w) A (eval (.Subscript value slice pos) env) Q E s := by
  refine Subscript_ (wpAny_mono h (λ o s₁ h₁ => wpAny_mono h₁ (λ i s₂ h₂ => ?_) λ _ _ x => x) λ _ _ x => x)
  obtain ⟨hT, h₂⟩ := h₂
  unfold subscriptTail
  refine wpAny_bind ?_
  rw [getitemInPython_of_ne hT.not_modules]
  refine wpAny_bind (wpAny_specialOf hT hl ?_)
  have fin : wpAny (model prog w) A (subscripted slice false o i) (λ r s₃ => wpAny (model prog w) A (letTemporaryGo value o r >>= λ _ => pure r) Q E s₃) E s₂ := by
    rw [hs o i]
    exact wpAny_operating (wpAny_mono h₂ (λ r s₃ h₃ => wpAny_bind (wpAny_letTemporaryGo (wpAny_pure h₃))) λ _ _ x => x)
  first
    | exact wpAny_pure (wpAny_bind fin)
    | exact wpAny_bind (wpAny_pure (wpAny_bind fin))
    | exact wpAny_bind fin
theorem dict_typeIs {X : Cx} {pins : List (Addr × Obj)} {σ : St} {H : Hp} {s : Shared} {a : Addr} {y : V} {o : Option V} (I : Inv X pins σ H s) (g : DGet H a y o) : s.TypeIs (.ref a) "dict" := by
  rcases g with ⟨kvs, k, e, _, _⟩ | ⟨kvs, k, b, e, _, _, _⟩
  . obtain ⟨_, _, vs, _, dd⟩ := dk_rd I.hok e
    exact dd.typeIs
  . obtain ⟨_, _, xs, _, dd⟩ := dt_rd I.hok e
    exact dd.typeIs
def tDGet (td ty : TE) : TE := λ σ H Q => td σ H λ x H1 => ty σ H1 λ y H2 => ∃ a v, x = .ref a /\ DGet H2 a y (some v) /\ Q v H2
def tDIn (ty td : TE) : TE := λ σ H Q => ty σ H λ y H1 => td σ H1 λ x H2 => ∃ a o, x = .ref a /\ DGet H2 a y o /\ Q (.bl o.isSome) H2
def tDNotIn (ty td : TE) : TE := λ σ H Q => ty σ H λ y H1 => td σ H1 λ x H2 => ∃ a o, x = .ref a /\ DGet H2 a y o /\ Q (.bl (!o.isSome)) H2
def sDPut (td ty tv : TE) : TS := λ D σ H => tv σ H λ v H1 => td σ H1 λ x H2 => ty σ H2 λ y H3 => ∃ a H4, x = .ref a /\ DPut H3 a y v H4 /\ D.nx σ H4
section
variable {X : Cx} {o i e value : Expr} {pos pos' tpos : Pos} {td ty tv : TE}
theorem pe_dget (hu : X.A.units + 1 < cLine) (ho : PE X o td) (hi : PE X i ty) (hs : NoSl i) : PE X (.Subscript o i pos) (tDGet td ty) := by
  intro pins s σ H Q I h
  refine subD_of PySem.F.slot_dict_getitem.lookup hs (thn (ho pins s σ H _ I h) λ u s1 ⟨x, H1, I1, rx, q1⟩ => thn (hi pins s1 σ H1 _ I1 q1) λ iv s2 ⟨y, H2, I2, ry, a, v, ex, g, q2⟩ => ?_)
  subst ex
  obtain rfl : u = Value.ref a := rx
  exact ⟨dict_typeIs I2 g, d_getItem hu I2 g ry λ w' s3 I3 rw' => ⟨v, H2, I3, rw', q2⟩⟩
theorem pc_din (hu : X.A.units + 1 < cLine) (hi : PE X i ty) (ho : PE X o td) : PC X .In i o (tDIn ty td) := by
  intro pins s σ H Q I h
  refine thn (hi pins s σ H _ I h) λ iv s1 ⟨y, H1, I1, ry, q1⟩ => thn (ho pins s1 σ H1 _ I1 q1) λ u s2 ⟨x, H2, I2, rx, a, ov, ex, g, q2⟩ => ?_
  subst ex
  obtain rfl : u = Value.ref a := rx
  exact d_in hu I2 g ry λ s3 I3 => ⟨.bl ov.isSome, H2, I3, rfl, q2⟩
theorem pc_dnotin (hu : X.A.units + 1 < cLine) (hi : PE X i ty) (ho : PE X o td) : PC X .NotIn i o (tDNotIn ty td) := by
  intro pins s σ H Q I h
  refine thn (hi pins s σ H _ I h) λ iv s1 ⟨y, H1, I1, ry, q1⟩ => thn (ho pins s1 σ H1 _ I1 q1) λ u s2 ⟨x, H2, I2, rx, a, ov, ex, g, q2⟩ => ?_
  subst ex
  obtain rfl : u = Value.ref a := rx
  exact d_notIn hu I2 g ry λ s3 I3 => ⟨.bl (!ov.isSome), H2, I3, rfl, q2⟩
theorem ps_dput (hu : X.A.units + 1 < cLine) (ho : PE X o td) (hi : PE X i ty) (hv : PE X value tv) (hs : swapsWith value (some (.Subscript o i pos')) pos.line X.env = pure false) :
    PS X (.Assign [.Subscript o i pos'] value pos) (sDPut td ty tv) := by
  intro pins s σ H D I h
  refine wpAny_Assign_Subscript (thn (hv pins s σ H _ I h) λ r s1 ⟨v, H1, I1, rv, q1⟩ => thn (ho pins s1 σ H1 _ I1 q1) λ u s2 ⟨x, H2, I2, rx, q2⟩ => thn (hi pins s2 σ H2 _ I2 q2) λ iv s3 ⟨y, H3, I3, ry, a, H4, ex, g, q3⟩ => ?_) hs
  subst ex
  obtain rfl : u = Value.ref a := rx
  exact d_setItem hu I3 g ry rv λ s4 I4 => ⟨σ, H4, I4, q3⟩
end
theorem dk_empty {P : Program} {w : World} {H : Hp} (h : Heap) (hb : sysModules < h.objs.size) : ObjOk P w H (h.push { cls := .type "dict", data := .dict #[] }) h.objs.size (.dK []) :=
  ⟨Nat.zero_le _, beq_eq_false_iff_ne.mpr (Ne.symm (Nat.ne_of_lt hb)), [], .nil, Heap.DictOf.new h⟩
def tDNewK : TE := λ _ H Q => ∀ p, H p = none -> Q (.ref p) (upd H p (.dK []))
section
variable {X : Cx} {pos : Pos}
theorem pe_dnewK : PE X (.Dict [] [] pos) tDNewK := λ pins s σ H Q I h =>
  wpAny_Dict_empty ⟨.ref s.heap.objs.size, _, I.laid (a := s.heap.objs.size) (o := .dK []) (t' := s.toks) (λ _ _ q => Heap.get?_push_of_some _ q) (Nat.le_refl _) (dk_empty s.heap I.big), rfl, h _ (I.hok.fresh (Nat.le_refl _))⟩
end
structure M1 (X : Cx) (o : Expr) (m : Str) (apos : Pos) (e : Expr) (cpos : Pos) : Prop where
  base : attributeBase o m X.env (eval o X.env) = eval o X.env
  few : ((backTo cpos (starEach [e] X.env)).all (λ x => !x.1) && (backToKw cpos (keywordEach [] X.env)).all (λ x => x.1.isSome)
    && decide (([e] : List Expr).length + ([] : List Keyword).length + (if ([] : List Keyword).isEmpty then 0 else 1) < 30)) = true
  line : (apos.endLine == cpos.line) = true
  trees : backTo cpos (starEach [e] X.env) = [(false, eval e X.env)]
structure M2 (X : Cx) (o : Expr) (m : Str) (apos : Pos) (e f : Expr) (cpos : Pos) : Prop where
  base : attributeBase o m X.env (eval o X.env) = eval o X.env
  few : ((backTo cpos (starEach [e, f] X.env)).all (λ x => !x.1) && (backToKw cpos (keywordEach [] X.env)).all (λ x => x.1.isSome)
    && decide (([e, f] : List Expr).length + ([] : List Keyword).length + (if ([] : List Keyword).isEmpty then 0 else 1) < 30)) = true
  line : (apos.endLine == cpos.line) = true
  trees : backTo cpos (starEach [e, f] X.env) = [(false, eval e X.env), (false, eval f X.env)]
def IsD (H : Hp) (a : Addr) : Prop := (∃ kvs, Rd H a (.dK kvs)) \/ ∃ kvs, Rd H a (.dT kvs)
theorem isD_at {X : Cx} {pins : List (Addr × Obj)} {σ : St} {H : Hp} {s : Shared} {a : Addr} (I : Inv X pins σ H s) (d : IsD H a) :
    s.TypeIs (.ref a) "dict" /\ (∀ b, Value.ref a = .ref b -> ∃ ob, s.heap.get? b = some ob /\ ob.dict = none) /\ (a == sysModules) = false := by
  rcases d with ⟨kvs, e⟩ | ⟨kvs, e⟩
  . obtain ⟨_, hd, vs, _, dd⟩ := dk_rd I.hok e
    refine ⟨dd.typeIs, λ b q => ?_, hd⟩
    cases q
    obtain ⟨ob, _, _, h1, h2, _⟩ := dd
    exact ⟨ob, h1, h2.2.1⟩
  . obtain ⟨_, hd, xs, _, dd⟩ := dt_rd I.hok e
    refine ⟨dd.typeIs, λ b q => ?_, hd⟩
    cases q
    obtain ⟨ob, _, _, h1, h2, _⟩ := dd
    exact ⟨ob, h1, h2.2.1⟩
section
variable {X : Cx} {pins : List (Addr × Obj)} {σ : St} {H : Hp} {s : Shared} {a : Addr} {y d : V} {u r : Value} {o : Option V} {A : Around} {E : Value -> Shared -> Prop}
end
def tDPop1 (td ty : TE) : TE := λ σ H Q => td σ H λ x H1 => ∃ a, x = .ref a /\ IsD H1 a /\ ty σ H1 λ y H2 => ∃ kvs k v, H2 a = some (.dK kvs) /\ y = kV k /\ valV kvs k = some v /\ Q v (upd H2 a (.dK (dropK kvs k)))
section
variable {X : Cx} {o e f : Expr} {apos cpos : Pos} {td ty tx : TE}
theorem pe_dpop1 (ho : PE X o td) (he : PE X e ty) (m : M1 X o "pop" apos e cpos) : PE X (.Call (.Attribute o "pop" apos) [e] [] cpos) (tDPop1 td ty) := by
  intro pins s σ H Q I h
  refine wpAny_Call_method m.base m.few m.line PySem.F.plainAttrs_dict PySem.F.slot_dict_pop PySem.F.type_dict_pop (thn (ho pins s σ H _ I h) λ u s1 ⟨x, H1, I1, rx, a, ex, d, q1⟩ => ?_)
  subst ex
  obtain rfl : u = Value.ref a := rx
  obtain ⟨t1, t2, _⟩ := isD_at I1 d
  refine ⟨t1, t2, ?_⟩
  rw [m.trees]
  refine Calls.callWith_builtin rfl (Calls.evalArgs_plain (Calls.spliced_cons (thn (he pins s1 σ H1 _ I1 q1) λ iv s2 ⟨y, H2, I2, ry, kvs, k, v, ea, ey, l, q2⟩ => Calls.spliced_nil ?_)))
  subst ey
  exact d_pop I2 ea ry l (.inl rfl) λ w' s3 I3 rw' => ⟨v, _, I3, rw', q2⟩
end
section
variable {X : Cx} {pins : List (Addr × Obj)} {σ : St} {H : Hp} {s : Shared} {a : Addr} {kvs : List (Key × V)} {A : Around} {E : Value -> Shared -> Prop}
end
section
variable {X : Cx} {pins : List (Addr × Obj)} {σ : St} {H : Hp} {s : Shared} {a : Addr} {y : V} {u : Value} {A : Around} {E : Value -> Shared -> Prop}
end
end L2
namespace Att
open PySem PySem.W PySem.Calls PyProof.Rows
theorem ints_of_wellAll {P : Params} {h : Heap} : ∀ (ns : List Int) (vs : List Value), WellAll P h vs (ns.map WData.int) -> IntsAre vs ns := by
  intro ns
  induction ns with
  | nil =>
    intro vs w
    rw [List.map_nil] at w
    cases w
    exact .nil
  | cons n ns ih =>
    intro vs w
    rw [List.map_cons] at w
    cases w with
    | cons a b =>
      cases a
      exact .cons _ _ (ih _ b)
theorem script_of {l : OpenLaw} {n : Nat} (hn : l.most = some n) {P : Params} {h : Heap} {args : List WData} {vals : List Value}
    (hpre : l.row.toRowW.claim.pre args = true) (hwl : WellAll P h vals args) :
    ∃ a vs ns, vals = [Value.ref a] /\ args = [WData.list (ns.map WData.int)] /\ h.get? a = some { cls := .type "list", data := .seq vs.toArray } /\ IntsAre vs ns /\ ns.length <= n := by
  have hsh : WShape.hasAll [] args [.list .int] = true := (pre_splitW hpre).1
  have hc : l.pre.holds [] { args := args } = true := (pre_splitW hpre).2
  obtain ⟨d, r, rfl, h1, h2⟩ := hasAllW_cons hsh
  obtain rfl := hasAllW_nil h2
  obtain ⟨xs, rfl, h3⟩ := hasW_list h1
  obtain ⟨ns, rfl⟩ := items_int h3
  have hlen : ns.length <= n := by
    unfold OpenLaw.pre at hc
    have h4 : (WTm.not (.lt (.lit (.int (n : Int))) (.len (.arg 0)))).holds [] { args := [.list (ns.map .int)] } = true := by
      have h4 := (holds_andW hc).1
      rw [hn] at h4
      exact h4
    have h5 := condW_of h4 (w_not (w_lt w_lit (w_len_list (w_arg rfl))))
    rw [List.length_map] at h5
    refine Nat.le_of_not_lt λ q => ?_
    have q' : (n : Int) < ((ns.length : Nat) : Int) := by omega
    first
      | (rw [decide_eq_true q'] at h5; exact absurd h5 (by decide))
      | (simp at h5; omega)
  cases hwl with
  | cons w1 w2 =>
    cases w2
    cases w1 with
    | list ho hall => exact ⟨_, _, ns, rfl, rfl, ho, ints_of_wellAll ns _ hall, hlen⟩
theorem post_true (l : OpenLaw) (args : List WData) : l.row.toRowW.claim.post args (.bool true) args = true :=
  postW_of (r := l.row.toRowW) (X := (true == true))
    (show WShape.has [] (.bool true) .bool = true by first | rfl | decide | simp [WShape.has, WShape.arms, WShape.armsAll])
    (show (WTm.eq .res (.lit (.bool true))).value [] { args := args, res := some (.bool true), after := args } = some (.bool (true == true)) from w_eq_bool (w_res rfl) w_lit) rfl
theorem attach_call {l : OpenLaw} {n : Nat} {q : Program} {loose : List Str} {XP : (Str -> Option Value) -> Heap -> Prop} {YP : World -> Heap -> Prop} {d : DefRec}
    (hn : l.most = some n) (hdf : d.params.defaults = [])
    (call : ∀ (w : World) (s₀ s₁ : Shared) (mg mb : Str -> Option Value) (fa : Addr) (o : Obj) (pm cd doc : Value) (a : Addr) (vs : List Value) (ns : List Int),
      Ground q loose [] XP w s₀ mg mb s₁.heap -> YP w s₁.heap ->
      s₁.heap.get? fa = some o -> o.data = .func (docDef d.name d.params d.body d.scope pm cd doc) -> s₁.heap.CodeRec cd d.name -> mg d.name = some (.ref fa) ->
      s₁.heap.get? a = some { cls := .type "list", data := .seq vs.toArray } -> IntsAre vs ns -> ns.length <= n -> s₁.gens = #[] ->
      codeAny (model l.prog w) callerA (.call (.ref fa) ⟨[.ref a], []⟩) (λ r s' => r = .ok (.ret (.bool true)) /\ OldK s₁.heap s'.heap /\ s'.os = s₁.os /\ AllBare s'.gens) s₁) :
    WalkO q loose XP YP l.row.toRowW d [] (λ f vs => PySem.call f vs) := by
  intro w s₀ s₁ mg mb G Y fa o pm cd doc dV kV ho hd hcd hD hmg hg args vals as hpre hlay hrd hwl hlo
  obtain rfl : dV = .none := Dflts.none hD hdf
  obtain rfl : kV = .none := Dflts.noKw hD
  obtain ⟨a, vs, ns, rfl, rfl, hobj, hints, hlen⟩ := script_of hn hpre hwl
  refine enter_call (codeAny_mono (call w s₀ s₁ mg mb fa o pm cd doc a vs ns G Y ho (fd_plain hd) hcd hmg hobj hints hlen hg) λ r s' hq => ?_)
  obtain ⟨rfl, h2, h3, h4⟩ := hq
  exact ⟨.inl ⟨.bool true, .bool true, [], rfl, λ _ => rfl, .bool true, post_true l _, λ _ => ⟨List.Pairwise.nil, λ _ hm => (nomatch hm)⟩⟩, h2, h3, h4⟩
section
variable {prog : Program} {w : World} {A : Around} {E : Value -> Shared -> Prop} {s : Shared} {K : Frag}
def ledger (h : Heap) (L d : Addr) : List (Addr × Obj) := (List.range h.objs.size).filterMap λ a => if a = L \/ a = d then none else (h.get? a).map λ o => (a, o)
end
end Att
namespace L2
open PySem PySem.Spec PyProof.Rows
theorem vals_ints : ∀ {vs : List Value} {ns : List Int}, IntsAre vs ns -> Vals (ns.map V.int) vs
  | _, _, .nil => .nil
  | _, _, .cons n t h => .cons ⟨t, rfl⟩ (vals_ints h)
def Only (H : Hp) : Prop := ∀ b, H b = none \/ ∃ o xs, H b = some (.frz o (.lst xs))
theorem law_call {P : Program} {w : World} {K : PySem.W.Frag} {mg mb : Str -> Option Value} {CX : CXT} {k : Nat} {fa a : Addr} {fd : FuncData} {x : Str} {sp : Sp} {s₁ : Shared} {vs : List Value} {ns : List Int}
    (KX : K.In s₁.heap) (hns : s₁.heap.Ns mainGlobals mg) (hb : s₁.heap.Ns builtinsNs mb) (hbb : ∀ x : Str, x ≠ "__name__" -> mb x = bootBuiltins x) (hlim : s₁.heap.NoLimit) (hg : s₁.gens = #[])
    (ha : s₁.heap.get? a = some { cls := .type "list", data := .seq vs.toArray }) (hi : IntsAre vs ns) (hl : ns.length <= sizeLine) (hr : Room k callerA)
    (F : ∀ base : Heap, K.In base -> base.Ns mainGlobals mg -> FnOk P w K mg base CX k fa fd [x] sp) (hbind : ∀ (s : Shared) (u : Value), BindsTo s fd ⟨[u], []⟩ [(x, u)])
    (hsp : ∀ H : Hp, Only H -> SqL K H a (ns.map V.int) -> sp [.ref a] H (λ v _ => v = .bl true) λ _ _ _ => False)
    (hCX : ∀ H e s', CX [] H s₁ (λ _ _ _ => False) e s' -> False) :
    codeAny (model P w) callerA (.call (.ref fa) ⟨[.ref a], []⟩) (λ r s' => r = .ok (.ret (.bool true)) /\ OldK s₁.heap s'.heap /\ s'.os = s₁.os /\ AllBare s'.gens) s₁ := by
  have rv := vals_ints hi
  have lenV := hi.length
  have core : ∀ H : Hp, Only H -> SqL K H a (ns.map V.int) -> HOk P w H s₁.heap -> (∀ b, H b ≠ none -> b = a) -> (H a ≠ none -> K.lookup a = none) ->
      codeAny (model P w) callerA (.call (.ref fa) ⟨[.ref a], []⟩) (λ r s' => r = .ok (.ret (.bool true)) /\ OldK s₁.heap s'.heap /\ s'.os = s₁.os /\ AllBare s'.gens) s₁ := by
    intro H hO hS hok hA hK
    have base_of : ∀ {b : Addr} {o : Obj}, s₁.heap.get? b = some o -> H b = none -> (hidT s₁.heap H).get? b = some o := λ e n => hidT_get e n
    have noA : ∀ {b : Addr} {o : Obj} {es : Array DictEntry} {ep : Nat}, s₁.heap.get? b = some o -> o.data = .dict es ep -> H b = none := λ {b o es ep} e d => by
      cases q : H b with
      | none => rfl
      | some u =>
        have e' : b = a := hA b (by rw [q]; simp)
        subst e'
        rw [ha] at e; cases e
        have d' : Data.seq vs.toArray _ = Data.dict es ep := d
        cases d'
    have nsK : ∀ {b : Addr} {m : Str -> Option Value}, s₁.heap.Ns b m -> (hidT s₁.heap H).Ns b m := λ {b m} ⟨o, es, ep, e, d, r⟩ => ⟨o, es, ep, base_of e (noA e d), d, r⟩
    have hKb : K.In (hidT s₁.heap H) := λ b o e => base_of (KX b o e) (by
      cases q : H b with
      | none => rfl
      | some u =>
        have e' : b = a := hA b (by rw [q]; simp)
        subst e'
        rw [hK (by rw [q]; simp)] at e; cases e)
    have hM : Mod K mg (hidT s₁.heap H) := ⟨hKb, nsK hns, ⟨mb, nsK hb, hbb⟩, let ⟨mc, h1, h2⟩ := hlim; ⟨mc, nsK h1, h2⟩⟩
    have e0 : Env0 P w K mg (hidT s₁.heap H) callerA [] s₁ H := ⟨rfl, hM, λ b o e => of_hidT e, Nat.le_of_eq (hidT_size _ _), trivial, λ b hb => absurd (show b ∈ ([] : List Addr) from hb) (by simp), hok, .of_eq hg⟩
    refine codeAny_mono ((F _ hKb (nsK hns)).run callerA [] s₁ H ⟨[.ref a], []⟩ [.ref a] [.ref a] _ _ hr e0 (hbind s₁ (.ref a)) (.cons rfl .nil) (hsp H hO hS)) λ r s' h => ?_
    cases r with
    | error e => exact (hCX H e s' h).elim
    | ok fl =>
      cases fl with
      | next => exact False.elim h
      | brk => exact False.elim h
      | cont => exact False.elim h
      | ret u =>
        obtain ⟨v, H', os, bare, un, hok', r', q⟩ := h
        have q' : v = .bl true := q
        subst q'
        obtain rfl : u = Value.bool true := r'
        refine ⟨rfl, OldK.of_keep λ b o e => ?_, os, bare⟩
        cases q : H b with
        | none => exact un.keep b o e q (by intro z; exact absurd (show b ∈ ([] : List Addr) from z) (by simp)) (by simp)
        | some u =>
          rcases hO b with z | ⟨ob, xs, z⟩
          . rw [q] at z; cases z
          . have z2 := un.frzs b ob _ z
            obtain ⟨e1, _⟩ := hok b _ z
            obtain ⟨e2, _⟩ := hok' b _ z2
            rw [e] at e1; cases e1
            exact e2
  cases hk : K.lookup a with
  | some o =>
    have e := KX a o hk
    rw [ha] at e
    cases e
    refine core (λ _ => none) (λ _ => .inl rfl) (.inr ⟨_, vs.toArray, _, hk, rfl, rfl, rfl, by rw [List.size_toArray, lenV]; exact hl, by simpa using rv⟩) (λ b u z => by have z' : (none : Option HO) = some u := z; cases z') (λ b z => absurd rfl z) λ z => absurd rfl z
  | none =>
    refine core (λ b => if b = a then some (.frz { cls := .type "list", data := .seq vs.toArray } (.lst (ns.map V.int))) else none) (λ b => ?_) (.inl (.inr ⟨{ cls := .type "list", data := .seq vs.toArray }, if_pos rfl⟩)) (λ b u z => ?_) (λ b z => ?_) λ _ => hk
    . by_cases hb : b = a
      . exact .inr ⟨_, _, if_pos hb⟩
      . exact .inl (if_neg hb)
    . by_cases hb : b = a
      . have z' := (if_pos hb).symm.trans z
        cases z'
        subst hb
        exact ⟨ha, by rw [List.length_map]; exact hl, vs, _, rv, ha⟩
      . have z' := (if_neg hb).symm.trans z
        cases z'
    . by_cases hb : b = a
      . exact hb
      . exact absurd (if_neg hb) z
end L2
namespace L2
open PySem PySem.Spec PyProof.Rows
abbrev KOf {K : PySem.W.Frag} {h : Heap} (_ : K.In h) : PySem.W.Frag := K
theorem walk_of {l : PySem.W.OpenLaw} {n k : Nat} {q : Program} {loose : List Str} {XP : (Str -> Option Value) -> Heap -> Prop} {YP : World -> Heap -> Prop} {d : DefRec} {K : Params -> PySem.W.Frag} {CX : World -> CXT} {sp : World -> Sp} {x : Str}
    (hn : l.most = some n) (hn2 : n <= sizeLine) (hdf : d.params.defaults = []) (hr : Room k callerA)
    (hY : ∀ (w : World) (h : Heap), YP w h -> (K w.params).In h)
    (F : ∀ (w : World) (mg : Str -> Option Value) (fa : Addr) (h : Heap), (K w.params).In h -> h.Ns mainGlobals mg -> mg d.name = some (.ref fa) ->
      ∃ fd : FuncData, (∀ (s : Shared) (u : Value), BindsTo s fd ⟨[u], []⟩ [(x, u)]) /\
        ∀ base : Heap, (K w.params).In base -> base.Ns mainGlobals mg -> FnOk l.prog w (K w.params) mg base (CX w) k fa fd [x] (sp w))
    (hsp : ∀ (w : World) (H : Hp) (a : Addr) (ns : List Int), ns.length <= n -> Only H -> SqL (K w.params) H a (ns.map V.int) -> sp w [.ref a] H (λ v _ => v = .bl true) λ _ _ _ => False)
    (hCX : ∀ (w : World) (H : Hp) (s : Shared) (e : Value) (s' : Shared), CX w [] H s (λ _ _ _ => False) e s' -> False) :
    PySem.W.WalkO q loose XP YP l.row.toRowW d [] (λ f vs => PySem.call f vs) := by
  refine Att.attach_call hn hdf λ w s₀ s₁ mg mb fa o pm cd doc a vs ns G Y ho hd hcd hmg hobj hints hlen hg => ?_
  have KX := hY w _ Y
  obtain ⟨fd, hb, hF⟩ := F w mg fa _ KX G.T.g hmg
  exact law_call KX G.T.g G.T.b G.T.builtins G.T.nolimit hg hobj hints (Nat.le_trans hlen hn2) hr hF hb (λ H hO hS => hsp w H a ns hlen hO hS) λ H e s' => hCX w H s₁ e s'
end L2
namespace L2
open PySem PySem.Spec PyProof.Rows
def inClass (s : Stmt) (j : Nat) : Stmt := match s with
  | .ClassDef _ _ _ body _ _ _ _ _ _ _ => body.getD j (.Pass ⟨0, 0, 0, 0⟩)
  | _ => .Pass ⟨0, 0, 0, 0⟩
def defArgs (s : Stmt) : Arguments := match s with
  | .FunctionDef _ a _ _ _ _ _ _ _ _ => a
  | _ => { posonlyargs := [], args := [], vararg := none, kwonlyargs := [], kw_defaults := [], kwarg := none, defaults := [] }
def defBody (s : Stmt) : List Stmt := match s with
  | .FunctionDef _ _ b _ _ _ _ _ _ _ => b
  | _ => []
def defScope (s : Stmt) : Scope := match s with
  | .FunctionDef _ _ _ _ _ _ sc _ _ _ => sc
  | _ => { kind := .function, names := [], isGenerator := false, isCoroutine := false }
abbrev E0 : XK := λ _ _ _ => False
structure Fun (K : PySem.W.Frag) (x qual : Str) (st : Stmt) (f : Addr) (fd : FuncData) : Prop where
  ex : ∃ (oc : Value) (od : Option Addr) (kV doc pm : Value) (an : Option Addr) (cdv ct : Value) (osl : Array (Option Value)),
    fd = PySem.W.fnOf x qual (defArgs st) (defBody st) (defScope st) .none kV doc pm an cdv ct /\ K.lookup f = some ⟨oc, od, .func fd, osl⟩ /\ PySem.W.codeIn K cdv qual = true
  kp : PySem.W.keepIn K (.ref f) = true
section
variable {P : Program} {w : World} {K : PySem.W.Frag} {mg : Str -> Option Value} {base : Heap}
theorem Fun.binds {x qual : Str} {st : Stmt} {f : Addr} {fd : FuncData} {ps : List Str} (F : Fun K x qual st f fd)
    (h : ∀ (kV doc pm : Value) (an : Option Addr) (cdv ct : Value) (us : List Value), us.length = ps.length -> bindArgs (PySem.W.fnOf x qual (defArgs st) (defBody st) (defScope st) .none kV doc pm an cdv ct) ⟨us, []⟩ = pure (ps.zip us)) : Binds K fd ps [] := by
  obtain ⟨oc, od, kV, doc, pm, an, cdv, ct, osl, rfl, lk, hcd⟩ := F.ex
  exact .all (h kV doc pm an cdv ct)
theorem fun_mk {x qual : Str} {st : Stmt} {f : Addr} {oc : Value} {od an : Option Addr} {osl : Array (Option Value)} {kV doc pm cdv ct : Value} (l : K.lookup f = some ⟨oc, od, .func (PySem.W.fnOf x qual (defArgs st) (defBody st) (defScope st) .none kV doc pm an cdv ct), osl⟩)
    (c : PySem.W.codeIn K cdv qual = true) (k : PySem.W.keepIn K (.ref f) = true) : Fun K x qual st f (PySem.W.fnOf x qual (defArgs st) (defBody st) (defScope st) .none kV doc pm an cdv ct) := ⟨⟨oc, od, kV, doc, pm, an, cdv, ct, osl, rfl, l, c⟩, k⟩
end
theorem hu_of {A : Around} {k : Nat} (hr : Room k A) : A.units + 1 < cLine := Nat.lt_of_le_of_lt (Nat.add_le_add_left (by decide : 1 <= 64) _) hr.units
section
variable {X : Cx}
theorem pv (i : Nat) {x : Str} {pos : Pos} (hN : X.N[i]? = some x := by rfl) (hv : Vis X.env.scope x := by first | exact Or.inl rfl | exact Or.inr (Or.inl rfl) | exact Or.inr (Or.inr rfl)) (hd : (x == ("__debug__" : Str)) = false := by decide)
    (hcd : (x == ("__classdict__" : Str)) = false := by decide) : PE X (.Name x pos) (tVar i) := pe_var hN hv hd hcd
end
theorem iteF {A B : Prop} (h : B) : if false = true then A else B := by
  rw [if_neg Bool.false_ne_true]
  exact h
theorem iteT {A B : Prop} (h : A) : if true = true then A else B := by
  rw [if_pos rfl]
  exact h
def Same (H H' : Hp) : Prop := ∀ b o, H b = some o -> H' b = some o
theorem Same.refl (H : Hp) : Same H H := λ _ _ h => h
theorem Same.trans {H H1 H2 : Hp} (a : Same H H1) (b : Same H1 H2) : Same H H2 := λ c o h => b c o (a c o h)
theorem Same.seq {K : PySem.W.Frag} {H H' : Hp} {a : Addr} {xs : List V} (e : Same H H') (h : SqL K H a xs) : SqL K H' a xs := by
  rcases h with (h | ⟨o, h⟩) | h
  . exact .inl (.inl (e _ _ h))
  . exact .inl (.inr ⟨o, e _ _ h⟩)
  . exact .inr h
section
variable {X : Cx}
theorem call_lenD : CallR X (.builtin "len") (λ xs H Q => ∃ a kvs, xs = [V.ref a] /\ H a = some (.dK kvs) /\ Q (.int kvs.length) H) := by
  intro pins s σ H xs us Q I r h
  obtain ⟨a, kvs, rfl, ha, q⟩ := h
  obtain ⟨u, rfl, ru⟩ := vals1 r
  cases ru
  exact d_len I (.inl ha) λ t s' I' => ⟨.int kvs.length, H, I', ⟨t, rfl⟩, q⟩
end
section
variable {κ : Type} [DecidableEq κ]
theorem valV_not {kvs : List (κ × V)} {k : κ} (h : valV kvs k = none) : ¬ k ∈ kvs.map (·.1) := by
  intro m
  obtain ⟨p, hp, e⟩ := List.mem_map.mp m
  have q : (kvs.any λ kv => decide (kv.1 = k)) = true := List.any_eq_true.mpr ⟨p, hp, decide_eq_true e⟩
  rw [valV_any, h] at q
  exact absurd q (by simp)
theorem valV_in {kvs : List (κ × V)} {k : κ} {v : V} (h : valV kvs k = some v) : k ∈ kvs.map (·.1) := by
  have q : (kvs.any λ kv => decide (kv.1 = k)) = true := by
    rw [valV_any, h]
    all_goals rfl
  obtain ⟨p, hp, e⟩ := List.any_eq_true.mp q
  exact List.mem_map.mpr ⟨p, hp, of_decide_eq_true e⟩
theorem nd_snoc : ∀ {l : List κ} {k : κ}, l.Nodup -> ¬ k ∈ l -> (l ++ [k]).Nodup
  | [], k, _, _ => by simp
  | a :: r, k, h, hk => by
    obtain ⟨h1, h2⟩ := List.nodup_cons.mp h
    show (a :: (r ++ [k])).Nodup
    refine List.nodup_cons.mpr ⟨λ m => ?_, nd_snoc h2 λ m => hk (List.mem_cons.mpr (Or.inr m))⟩
    rcases List.mem_append.mp m with q | q
    . exact h1 q
    . exact hk (List.mem_cons.mpr (Or.inl (List.mem_singleton.mp q).symm))
theorem nd_putK {kvs : List (κ × V)} {k : κ} (v : V) (hn : (kvs.map (·.1)).Nodup) (h : valV kvs k = none) : ((putK kvs k v).map (·.1)).Nodup := by
  rw [putK_new v h, List.map_append]
  exact nd_snoc hn (valV_not h)
theorem dropK_pos {p : κ × V} {r : List (κ × V)} {k : κ} (e : p.1 = k) : dropK (p :: r) k = dropK r k := by
  unfold dropK
  rw [List.filter_cons, if_neg (by simp [e])]
theorem dropK_neg {p : κ × V} {r : List (κ × V)} {k : κ} (e : ¬ p.1 = k) : dropK (p :: r) k = p :: dropK r k := by
  unfold dropK
  rw [List.filter_cons, if_pos (by simp [e])]
theorem dropK_mem {kvs : List (κ × V)} {k : κ} {p : κ × V} (h : p ∈ dropK kvs k) : p ∈ kvs := (List.mem_filter.mp h).1
theorem nd_dropK : ∀ {kvs : List (κ × V)} {k : κ}, (kvs.map (·.1)).Nodup -> ((dropK kvs k).map (·.1)).Nodup
  | [], _, _ => List.nodup_nil
  | p :: r, k, h => by
    have h : (p.1 :: r.map (·.1)).Nodup := h
    obtain ⟨h1, h2⟩ := List.nodup_cons.mp h
    by_cases e : p.1 = k
    . rw [dropK_pos e]
      exact nd_dropK h2
    . rw [dropK_neg e]
      show (p.1 :: (dropK r k).map (·.1)).Nodup
      refine List.nodup_cons.mpr ⟨λ m => h1 ?_, nd_dropK h2⟩
      obtain ⟨q, hq, eq⟩ := List.mem_map.mp m
      exact List.mem_map.mpr ⟨q, dropK_mem hq, eq⟩
end
end L2
set_option maxHeartbeats 8000000
namespace L2
open PySem PySem.Spec PyProof.Rows
section
variable {P : Program} {w : World} {H H' : Hp} {h h' : Heap} {a : Addr} {o : HO}
theorem ObjOk.there (x : ObjOk P w H h a o) : ∃ ob, h.get? a = some ob := by
  cases o with
  | lst xs => obtain ⟨_, _, _, _, e⟩ := x; exact ⟨_, e⟩
  | tup xs => obtain ⟨_, _, _, ob, e, _⟩ := x; exact ⟨ob, e⟩
  | dK kvs => obtain ⟨_, _, _, _, ob, _, _, e, _⟩ := x; exact ⟨ob, e⟩
  | dT kvs => obtain ⟨_, _, _, _, ob, _, _, e, _⟩ := x; exact ⟨ob, e⟩
  | set S n => obtain ⟨ob, _, _, _, e, _⟩ := x; exact ⟨ob, e⟩
  | ins C dx fs => obtain ⟨_, _, _, e, _⟩ := x; exact ⟨_, e⟩
  | own y => exact x
  | xd fs => obtain ⟨_, ⟨ob, _, _, e, _⟩, _⟩ := x; exact ⟨ob, e⟩
  | rng lo hi => obtain ⟨_, _, _, e⟩ := x; exact ⟨_, e⟩
  | frz ob u => obtain ⟨e, _⟩ := x; exact ⟨_, e⟩
  | tbl ps => exact ⟨_, (show h.get? a = some _ from x)⟩
  | met f y => exact ⟨_, (show h.get? a = some _ from x)⟩
  | ext φ => obtain ⟨_, e, _⟩ := x; exact e
theorem HOk.none_of (x : HOk P w H h) (e : h.get? a = none) : H a = none := by
  cases q : H a with
  | none => rfl
  | some u =>
    obtain ⟨ob, z⟩ := (x a u q).there
    rw [e] at z; cases z
theorem HOk.hide (x : HOk P w H h) {fs : List Addr} (hf : ∀ b ∈ fs, H b = none) : HOk P w H (PySem.W.hideAll h fs) := λ a o e =>
  (x a o e).stay (λ b u hb q => PySem.W.hideAll_get _ q λ hm => by
    rcases hb with rfl | hb
    . rw [hf _ hm] at e; cases e
    . rw [hf _ hm] at hb; cases hb) (λ _ q => q) λ _ _ q => q
end
structure Flown (P : Program) (w : World) (outer : List Env) (H : Hp) (s : Shared) (e C : Addr) (H' : Hp) (s' : Shared) : Prop where
  os : s'.os = s.os
  bare : AllBare s'.gens
  fly : ∃ (B : Heap) (t : Value), Heap.FlyingW B outer e (.ref C) t s'.heap /\ (∀ b o, s.heap.get? b = some o -> H b = none -> b ∉ frs outer -> B.get? b = some o) /\
    (∀ b o, s.heap.get? b = some o -> b ∉ frs outer -> ∃ o', B.get? b = some o') /\ HOk P w H' B
  slot : ∀ b o, s.heap.get? b = some o -> H b = none -> b ∈ frs outer -> ∃ sl, s'.heap.get? b = some { o with slots := sl }
  free : ∀ b o, s.heap.get? b = some o -> H b = none -> H' b = none
  tups : ∀ b xs, H b = some (.tup xs) -> H' b = some (.tup xs)
  frzs : ∀ b o u, H b = some (.frz o u) -> H' b = some (.frz o u)
  tbls : ∀ b ps, H b = some (.tbl ps) -> ∃ more, H' b = some (.tbl (ps ++ more))
section
variable {P : Program} {w : World} {outer : List Env} {H H' : Hp} {s s' : Shared} {e C : Addr}
theorem Flown.hok (F : Flown P w outer H s e C H' s') : HOk P w H' s'.heap := by
  obtain ⟨B, t, f, _, _, k⟩ := F.fly
  exact k.kept f.1
theorem Flown.un (F : Flown P w outer H s e C H' s') : Un (frs outer) [] H H' s.heap s'.heap := by
  obtain ⟨B, t, f, k1, k2, k⟩ := F.fly
  refine ⟨λ b o q n hb _ => f.1 b o (k1 b o q n hb), λ b o q n hb _ => F.slot b o q n hb, λ b o q n _ => F.free b o q n, λ b o q _ => ?_, F.tups, F.frzs, F.tbls⟩
  by_cases hb : b ∈ frs outer
  . obtain ⟨_, ob, ho, _⟩ := f.2.2.1.mem hb
    exact ⟨ob, ho⟩
  . obtain ⟨o', z⟩ := k2 b o q hb
    exact ⟨o', f.1 _ _ z⟩
theorem Flown.on (F : Flown P w outer H s e C H' s') : ∃ (B : Heap) (t : Value), Heap.FlyingW B outer e (.ref C) t s'.heap /\ H' e = none /\
    ∀ h'' tk, Heap.FlyingW B outer e (.ref C) t h'' -> s'.heap.UpToSlots h'' -> Flown P w outer H s e C H' { s' with heap := h'', toks := tk } := by
  obtain ⟨B, t, f, k1, k2, k⟩ := F.fly
  refine ⟨B, t, f, k.none_of f.2.1, λ h'' tk f2 u => ⟨F.os, F.bare, ⟨B, t, f2, k1, k2, k⟩, λ b o q n hb => ?_, F.free, F.tups, F.frzs, F.tbls⟩⟩
  obtain ⟨sl, z⟩ := F.slot b o q n hb
  obtain ⟨_, ob, ho, hd⟩ := f.2.2.1.mem hb
  rw [z] at ho
  cases ho
  obtain ⟨sl2, z2⟩ := u b _ z hd
  exact ⟨sl2, z2⟩
end
section
variable {X : Cx} {pins : List (Addr × Obj)} {σ : St} {H H' : Hp} {s s' : Shared} {e C : Addr} {E : Value -> Shared -> Prop}
structure Top1 (X : Cx) : Prop where
  st : X.stack = X.env :: X.outer
  fr : X.env.frame = some X.env.locals
  ex : X.ex = []
theorem Top1.frs (T : Top1 X) : L2.frs X.stack = X.env.locals :: X.fs := by
  rw [T.st]
  unfold L2.frs Cx.fs L2.frs
  rw [List.filterMap_cons, T.fr]
theorem Inv.ne0 (I : Inv X pins σ H s) {b : Addr} {o : Obj} (q : X.s₀.heap.get? b = some o) : b ≠ X.env.locals := Nat.ne_of_lt (Nat.lt_of_lt_of_le (Heap.lt_size q) I.ok.above)
theorem Top1.not (T : Top1 X) (I : Inv X pins σ H s) {b : Addr} {o : Obj} (q : X.s₀.heap.get? b = some o) (hb : b ∉ X.fs) : b ∉ L2.frs X.stack := by
  rw [T.frs]
  intro z
  rcases List.mem_cons.mp z with z | z
  . exact I.ne0 q z
  . exact hb z
theorem Flown.leave (T : Top1 X) (I : Inv X pins σ H s) (F : Flown X.prog X.w X.stack H s e C H' s') :
    wpAny (model X.prog X.w) X.A (leaving X.env (.ref e)) (λ _ s'' => Flown X.prog X.w X.outer X.H₀ X.s₀ e C H' s'') E s' := by
  obtain ⟨B, t, f, k1, k2, k⟩ := F.fly
  have fr : X.A.frames = some (X.env :: X.outer) := I.ok.frames.trans (by rw [T.st])
  rw [T.st] at f
  have nex : ∀ b, b ∉ X.ex := λ b => by rw [T.ex]; simp
  refine wpAny_leaves_onW fr T.fr f λ h'' f2 u => ?_
  refine ⟨F.os.trans I.os, F.bare, ⟨B, t, f2, λ b o q n hb => ?_, λ b o q hb => ?_, k⟩, λ b o q n hb => ?_, λ b o q n => ?_, λ b xs q => F.tups b xs (I.base.tups b xs q), λ b o xs q => F.frzs b o xs (I.base.frzs b o xs q), λ b ps q => ?_⟩
  . exact k1 b o (I.base.keep b o q n hb (nex b)) (I.base.free b o q n (nex b)) (T.not I q hb)
  . obtain ⟨o', z⟩ := I.base.there b o q (nex b)
    exact k2 b o' z (T.not I q hb)
  . obtain ⟨sl, z⟩ := I.base.slot b o q n hb (nex b)
    have hb2 : b ∈ L2.frs X.stack := by rw [T.frs]; exact List.mem_cons_of_mem _ hb
    obtain ⟨sl2, z2⟩ := F.slot b _ z (I.base.free b o q n (nex b)) hb2
    obtain ⟨_, ob, ho, hd⟩ := f.2.2.1.mem (show b ∈ (X.env :: X.outer).filterMap (·.frame) by have := hb2; rw [T.st] at this; exact this)
    rw [z2] at ho
    cases ho
    obtain ⟨sl3, z3⟩ := u b _ z2 hd
    exact ⟨sl3, z3⟩
  . obtain ⟨o', z⟩ := I.base.there b o q (nex b)
    exact F.free b o' z (I.base.free b o q n (nex b))
  . obtain ⟨m1, e1⟩ := I.base.tbls b ps q
    obtain ⟨m2, e2⟩ := F.tbls b _ e1
    exact ⟨m1 ++ m2, by rw [e2, Array.append_assoc]⟩
theorem Flown.made (T : Top1 X) (I : Inv X pins σ H s) {h' : Heap} {args : List Value} {tk : Nat} (hx : Heap.MadeExcOf s.heap h' e (.ref C) args) :
    wpAny (model X.prog X.w) X.A (leaving X.env (.ref e)) (λ _ s'' => Flown X.prog X.w X.outer X.H₀ X.s₀ e C H s'') E { s with heap := h', toks := tk } := by
  have fr : X.A.frames = some (X.env :: X.outer) := I.ok.frames.trans (by rw [T.st])
  have nex : ∀ b, b ∉ X.ex := λ b => by rw [T.ex]; simp
  have hst := I.stack
  have hin : ∀ env ∈ X.stack, ∀ b, env.frame = some b -> b ∈ L2.frs X.stack := λ env he b hb => List.mem_filterMap.mpr ⟨env, he, hb⟩
  have hfr : s.heap.FunFrames (PySem.W.hideAll s.heap (L2.frs X.stack)) X.stack := PySem.W.funFrames_hide hst hin
  have kp : ∀ {b : Addr} {o : Obj}, s.heap.get? b = some o -> b ∉ L2.frs X.stack -> (PySem.W.hideAll s.heap (L2.frs X.stack)).get? b = some o := λ q n => PySem.W.hideAll_get _ q n
  have hok : HOk X.prog X.w H (PySem.W.hideAll s.heap (L2.frs X.stack)) := I.hok.hide I.stkFree
  have hmem : ∀ b ∈ X.fs, ∃ o, s.heap.get? b = some o /\ ∀ vs, o.data ≠ .fields vs := λ b hb => by
    have hb2 : b ∈ L2.frs X.stack := by
      rw [T.frs]
      exact List.mem_cons_of_mem _ hb
    obtain ⟨_, o, ho, hd⟩ := hst.mem (show b ∈ X.stack.filterMap (·.frame) from hb2)
    exact ⟨o, ho, hd⟩
  have hfr' : s.heap.FunFrames (PySem.W.hideAll s.heap (L2.frs X.stack)) (X.env :: X.outer) := by
    have z := PySem.W.funFrames_hide hst hin
    rw [T.st] at z ⊢
    exact z
  refine wpAny_leaves_madeW (s := { s with heap := h', toks := tk }) fr T.fr (base := PySem.W.hideAll s.heap (L2.frs X.stack)) (λ b o q => PySem.W.of_hideAll _ q) hfr' hx λ h'' t f tup nt u => ?_
  refine ⟨I.os, I.bare, ⟨_, _, f, λ b o q n hb => kp (I.base.keep b o q n hb (nex b)) (T.not I q hb), λ b o q hb => ?_, hok⟩, λ b o q n hb => ?_, λ b o q n => I.base.free b o q n (nex b), I.base.tups, I.base.frzs, I.base.tbls⟩
  . obtain ⟨o', z⟩ := I.base.there b o q (nex b)
    exact ⟨o', kp z (T.not I q hb)⟩
  . obtain ⟨sl, z⟩ := I.base.slot b o q n hb (nex b)
    obtain ⟨ob, ho, hd⟩ := hmem b hb
    rw [z] at ho
    cases ho
    obtain ⟨sl2, z2⟩ := u b _ (hx.keeps _ _ z) hd
    exact ⟨sl2, z2⟩
end
def CXE (P : Program) (w : World) : CXT := λ outer H s E ev s' => ∃ (e C : Addr) (H' : Hp), ev = .ref e /\ Flown P w outer H s e C H' s' /\ E (.ref C) none H'
theorem pass0X {P : Program} {w : World} {X : Cx} : Passes (CXE P w) X E0 := λ _ _ _ _ _ _ _ ⟨_, _, _, _, _, h⟩ => h.elim
section
variable {P : Program} {w : World} {K : PySem.W.Frag} {mg : Str -> Option Value} {base : Heap} {N : List Str} {qual : Str} {scope : Scope} {f : Addr} {cd : Value} {A : Around} {outer : List Env} {s : Shared} {H : Hp} {E : XK}
abbrev cxX (P : Program) (w : World) (K : PySem.W.Frag) (mg : Str -> Option Value) (base : Heap) (N : List Str) (qual : Str) (scope : Scope) (f : Addr) (cd : Value) (A : Around) (outer : List Env) (s : Shared) (H : Hp) (E : XK) : Cx :=
  cxOf (CXE P w) P w K mg base N qual scope f cd A outer s H E
theorem top1 : Top1 (cxX P w K mg base N qual scope f cd A outer s H E) := ⟨rfl, rfl, rfl⟩
theorem passX : Passes (CXE P w) (cxX P w K mg base N qual scope f cd A outer s H E) E := by
  rintro pins σ H1 s1 ev s' I ⟨e, C, H', rfl, F, q⟩
  show wpAny _ _ _ _ _ _
  exact wpAny_mono (Flown.leave (E := λ _ _ => False) top1 I F) (λ _ s'' F2 => ⟨e, C, H', rfl, F2, q⟩) λ _ _ z => z.elim
theorem raiseX {pins : List (Addr × Obj)} {σ : St} {H1 : Hp} {s1 : Shared} {h' : Heap} {e C : Addr} {args : List Value} {tk : Nat} (I : Inv (cxX P w K mg base N qual scope f cd A outer s H E) pins σ H1 s1) (hx : Heap.MadeExcOf s1.heap h' e (.ref C) args) (q : E (.ref C) none H1) :
    (cxX P w K mg base N qual scope f cd A outer s H E).xe (.ref e) { s1 with heap := h', toks := tk } := by
  show wpAny _ _ _ _ _ _
  exact wpAny_mono (Flown.made (E := λ _ _ => False) top1 I hx) (λ _ s'' F2 => ⟨e, C, H1, rfl, F2, q⟩) λ _ _ z => z.elim
theorem Fun.okX {x : Str} {st : Stmt} {fd : FuncData} {ps : List Str} {k : Nat} {sp : Sp} (F : Fun K x qual st f fd) (S : FnScope N ps (defScope st)) (len : ∀ vs H Q E, sp vs H Q E -> vs.length = ps.length)
    (hbody : ∀ (cdv : Value) (A : Around) (outer : List Env) (s : Shared) (H : Hp) (vs : List V) (Q : VK) (E : XK), Room k (A.deeper (envOfC qual (defScope st) s.heap.objs.size f cdv)) -> sp vs H Q E ->
      ∃ t, PSs (cxX P w K mg base N qual (defScope st) f cdv A outer s H E) (defBody st) t /\ t { nx := λ _ H' => Q .non H', rt := Q } (start N vs) H) : FnOk P w K mg base (CXE P w) (k + 1) f fd ps sp := by
  obtain ⟨oc, od, kV, doc, pm, an, cdv, ct, osl, rfl, lk, hcd⟩ := F.ex
  exact fn_of lk hcd S len λ A outer s H vs Q E hr hsp => hbody cdv A outer s H vs Q E hr hsp
theorem Fun.ok0 {x : Str} {st : Stmt} {fd : FuncData} {ps : List Str} {k : Nat} {sp : Sp} (F : Fun K x qual st f fd) (S : FnScope N ps (defScope st)) (len : ∀ vs H Q E, sp vs H Q E -> vs.length = ps.length)
    (hbody : ∀ (cdv : Value) (A : Around) (outer : List Env) (s : Shared) (H : Hp) (vs : List V) (Q : VK) (E : XK), Room k (A.deeper (envOfC qual (defScope st) s.heap.objs.size f cdv)) -> sp vs H Q E ->
      ∃ t, PSs (cxX P w K mg base N qual (defScope st) f cdv A outer s H E).nox (defBody st) t /\ t { nx := λ _ H' => Q .non H', rt := Q } (start N vs) H) : FnOk P w K mg base (CXE P w) (k + 1) f fd ps sp :=
  F.okX S len λ cdv A outer s H vs Q E hr h => by
    obtain ⟨t, z, q⟩ := hbody cdv A outer s H vs Q E hr h
    exact ⟨t, z.nox, q⟩
end
end L2
namespace L2
open PySem PySem.Spec PyProof.Rows
abbrev bmVE : List Value := [.type "ValueError", .type "Exception", .type "BaseException", .type "object"]
def strKeysB (es : Array DictEntry) : Bool := es.toList.all λ e => match e.key with | .str _ _ => true | _ => false
theorem strKeys_of {es : Array DictEntry} (h : strKeysB es = true) : StrKeys es := λ e he => by
  have q := List.all_eq_true.mp h e (by simpa using he)
  cases hk : e.key with
  | str n t => exact ⟨n, t, rfl⟩
  | _ => rw [hk] at q; cases q
theorem ns_of_K {K : PySem.W.Frag} {N : Addr} {c : Value} {d : Option Addr} {es : Array DictEntry} {n : Nat} {sl : Array (Option Value)} (l : K.lookup N = some ⟨c, d, .dict es n, sl⟩) (h : strKeysB es = true) (hp : Heap) (X : K.In hp) : hp.Ns N (nsFind es) :=
  ⟨_, es, n, X _ _ l, rfl, strKeys_of h, λ _ => rfl⟩
structure ExcC (K : PySem.W.Frag) (C : Addr) : Prop where
  cls : ∃ (nm q : Str) (N : Addr) (bs bm : List Value) (hdct : Bool) (sn : List Str) (sub : List Value) (ab : Bool) (col : Option Bool) (dd : Option Addr) (k0 k1 k2 k3 k5 : Option Value) (mN : Str -> Option Value),
    K.lookup C = some (excClassObj nm q C N bs bm hdct sn sub ab col dd k0 k1 k2 k3 k5 "ValueError.__new__") /\ (∀ h, K.In h -> h.Ns N mN) /\ mN "__init__" = none /\ ∀ h, K.In h -> OwnTail h bmVE bm
section
variable {P : Program} {w : World} {K : PySem.W.Frag} {mg : Str -> Option Value} {base : Heap} {N : List Str} {qual : Str} {scope : Scope} {f : Addr} {cd : Value} {A : Around} {outer : List Env} {s₀ : Shared} {H₀ : Hp} {E : XK}
  {x : Str} {C : Addr} {np cpos pos : Pos} {e : Expr} {te : TE}
theorem ps_raise1 (hC : ExcC K C) (hm : mg x = some (.ref C)) (hg : Gl (cxX P w K mg base N qual scope f cd A outer s₀ H₀ E) x) (he : PE (cxX P w K mg base N qual scope f cd A outer s₀ H₀ E) e te)
    (hd : (x == ("__debug__" : Str)) = false := by decide) (hst : starEach [e] (cxX P w K mg base N qual scope f cd A outer s₀ H₀ E).env = [(false, eval e (cxX P w K mg base N qual scope f cd A outer s₀ H₀ E).env)] := by rfl) :
    PS (cxX P w K mg base N qual scope f cd A outer s₀ H₀ E) (.Raise (some (.Call (.Name x np) [e] [] cpos)) none pos) (λ D σ H => te σ H λ _ H1 => E (.ref C) none H1) := by
  intro pins s σ H D I h
  obtain ⟨nm, q, Nn, bs, bm, hdct, sn, sub, ab, col, dd, k0, k1, k2, k3, k5, mN, lC, hN, hni, T⟩ := hC.cls
  have hh : (cxX P w K mg base N qual scope f cd A outer s₀ H₀ E).A.handled = none := I.ok.hd rfl
  have hpl : (backTo cpos (starEach [e] (cxX P w K mg base N qual scope f cd A outer s₀ H₀ E).env)).any (·.1) = false := by rw [hst]; rfl
  refine wpAny_Raise_call_subT (C := C) (nm := nm) (q := q) (N := Nn) (bs := bs) (bm := bm) (hdct := hdct) (sn := sn) (sub := sub) (ab := ab) (col := col) (dd := dd) (k0 := k0) (k1 := k1) (k2 := k2) (k3 := k3) (k5 := k5)
    PySem.F.excBase_ValueError (mN := mN) ((T _ I.kIn).hasType PySem.F.excBase_ValueError.hasBase) hh hpl hni (ld_glob I hg hm ⟨rfl, ?_⟩ hd)
  have hpa := pa_cons he (pa_nil (X := cxX P w K mg base N qual scope f cd A outer s₀ H₀ E)) hst cpos pins s σ H (λ vs H1 => match vs with | [_] => E (.ref C) none H1 | _ => False) I h
  rw [hst] at hpa ⊢
  refine Calls.evalArgs_plain (wpAny_mono hpa (λ us s2 z => ?_) λ _ _ y => y)
  obtain ⟨vs, H1, I1, r, q1⟩ := z
  match vs, q1, r with
  | [v], q1, r =>
    obtain ⟨u, rfl, _⟩ := vals1 r
    exact ⟨rfl, by show 1 <= sizeLine; decide, I1.kIn _ _ lC, hN _ I1.kIn, T _ I1.kIn, λ h' ev hx => raiseX (tk := s2.toks) I1 hx q1⟩
end
def PassesAt (CX : CXT) (X : Cx) (pins : List (Addr × Obj)) (σ : St) (E : XK) : Prop := ∀ (H : Hp) (s : Shared) (e : Value) (s' : Shared), Inv X pins σ H s -> CX X.stack H s E e s' -> X.xe e s'
def PEat (X : Cx) (pins : List (Addr × Obj)) (σ : St) (e : Expr) (t : TE) : Prop := ∀ (s : Shared) (H : Hp) (Q : VK), Inv X pins σ H s -> t σ H Q -> wpAny (model X.prog X.w) X.A (eval e X.env) (EP X pins σ Q) X.xe s
section
variable {X : Cx} {CX : CXT} {k : Nat} {f C : Addr} {fd : FuncData} {ps : List Str} {sp : Sp} {dvs : List V} {ds : List Value} {E : XK} {x m : Str} {p pos apos : Pos} {e o : Expr} {es : List Expr} {ta : TE} {t : TA} {pins : List (Addr × Obj)} {σ : St}
theorem run_fnAt {H : Hp} {s : Shared} {Q : VK} {us : List Value} {vs : List V} (F : FnOk X.prog X.w X.K X.mg X.base CX k f fd ps sp) (hr : Room k X.A) (hb : Binds X.K fd ps ds) (hd : Vals dvs ds) (hx : PassesAt CX X pins σ E)
    (I : Inv X pins σ H s) (r : Vals vs us) (h : sp (vs ++ dvs) H Q E) : wpAny (model X.prog X.w) X.A (call (.ref f) us) (EP X pins σ Q) X.xe s := by
  have r2 : Vals (vs ++ dvs) (us ++ ds) := r.append hd
  have hl : (us ++ ds).length = ps.length := by rw [<- r2.length]; exact F.len _ _ _ _ h
  refine wpAny_call (codeAny_mono (F.run X.A X.stack s H ⟨us, []⟩ (us ++ ds) (vs ++ dvs) Q E hr I.env0 (hb s us I.kIn hl) r2 h) λ r s' hq => ?_)
  cases r with
  | error e => exact hx H s e s' I hq
  | ok fl =>
    cases fl with
    | ret u => exact I.after hq
    | next => exact False.elim hq
    | brk => exact False.elim hq
    | cont => exact False.elim hq
theorem run_makeAt {H : Hp} {s : Shared} {Q : VK} {us : List Value} {vs : List V} (M : Mk X.K C f) (F : FnOk X.prog X.w X.K X.mg X.base CX k f fd ps sp) (hr : Room (k + 1) X.A) (hb : Binds X.K fd ps ds) (hd : Vals dvs ds)
    (hx : PassesAt CX X pins σ E) (I : Inv X pins σ H s) (r : Vals vs us)
    (h : ∀ x dx, H x = none -> H dx = none -> dx ≠ x -> sp (.ref x :: (vs ++ dvs)) (upd (upd H dx (.own x)) x (.ins C dx [])) (λ v H2 => v = .non /\ Q (.ref x) H2) E) :
    wpAny (model X.prog X.w) X.A (call (.ref C) us) (EP X pins σ Q) X.xe s := by
  have hq := h (s.heap.objs.size + 1) s.heap.objs.size (I.hok.fresh (Nat.le_succ _)) (I.hok.fresh (Nat.le_refl _)) (Nat.ne_of_lt (Nat.lt_succ_self _))
  have I2 := Inv.made (C := C) I
  have r2 : Vals (V.ref (s.heap.objs.size + 1) :: (vs ++ dvs)) (Value.ref (s.heap.objs.size + 1) :: (us ++ ds)) := .cons rfl (r.append hd)
  have hl : (Value.ref (s.heap.objs.size + 1) :: us ++ ds).length = ps.length := by
    have e := r2.length
    rw [F.len _ _ _ _ hq] at e
    exact e.symm
  refine wpAny_call (make_map (f := f) I.kIn M.makes M.init (beq_iff_eq.mp M.fn) (codeAny_mono (F.run _ X.stack _ _ ⟨Value.ref (s.heap.objs.size + 1) :: us, []⟩ (Value.ref (s.heap.objs.size + 1) :: (us ++ ds)) _ _ E (hr.make C us [])
    (I2.env0.make C us []) (hb _ (Value.ref (s.heap.objs.size + 1) :: us) I2.kIn hl) r2 hq) λ r s' hq' => ?_))
  cases r with
  | error e => exact hx _ _ e s' I2 hq'
  | ok fl =>
    cases fl with
    | ret u =>
      obtain ⟨v, H', I3, rv, ev, q3⟩ := I2.after hq'
      subst ev
      exact ⟨rv, ⟨V.ref (s.heap.objs.size + 1), H', I3, rfl, q3⟩⟩
    | next => exact False.elim hq'
    | brk => exact False.elim hq'
    | cont => exact False.elim hq'
theorem pe_makeAt (M : Mk X.K C f) (F : FnOk X.prog X.w X.K X.mg X.base CX k f fd ps sp) (hr : Room (k + 1) X.A) (hg : Gl X x) (hm : X.mg x = some (.ref C)) (hb : Binds X.K fd ps ds) (hd : Vals dvs ds) (hx : PassesAt CX X pins σ E)
    (ha : PA X (e :: es) t) (hdb : (x == ("__debug__" : Str)) = false := by decide) (he : starEach (e :: es) X.env = (false, eval e X.env) :: starEach es X.env := by rfl) (hpl : (backTo pos (starEach es X.env)).any (·.1) = false := by rfl) :
    PEat X pins σ (.Call (.Name x p) (e :: es) [] pos) (tMake C sp dvs E t) := by
  intro s H Q I h
  refine wpAny_Call_Name_kw (ld_glob I hg hm ?_ hdb)
  refine PySem.W.callWith_K (h₀ := X.base) I.ok.mod.kin M.kp (thn (ha pos pins s σ H _ I h) λ us s1 ⟨vs, H1, I1, r, q⟩ => ⟨I1.kIn, ?_⟩) he hpl
  exact run_makeAt M F hr hb hd hx I1 r q
end
abbrev Cx.marked (X : Cx) (e : Addr) : Cx := { X with A := X.A.mark (some (.ref e)), calm := false, xe := λ _ _ => False }
section
variable {X : Cx} {pins : List (Addr × Obj)} {σ : St} {H : Hp} {s : Shared} {e : Addr}
theorem Cx.Ok.marked (ok : X.Ok) (e : Addr) : (X.marked e).Ok :=
  ⟨ok.mod, ok.kind, ok.glob, ok.blt, ok.above, ok.inj, ok.has, ok.cab, (λ z => nomatch z), ok.frames, ok.stk, ok.exf, ok.bs, ok.bsz, ok.noex, ok.exfs, ok.funs, ok.frf⟩
theorem Inv.marked (I : Inv X pins σ H s) (e : Addr) : Inv (X.marked e) pins σ H s := ⟨I.ok.marked e, I.os, I.bare, I.base, I.loc, I.cell, I.free, I.freeC, I.pin, I.hok, I.len⟩
theorem Inv.unmarked (ok : X.Ok) (I : Inv (X.marked e) pins σ H s) : Inv X pins σ H s := ⟨ok, I.os, I.bare, I.base, I.loc, I.cell, I.free, I.freeC, I.pin, I.hok, I.len⟩
theorem SP.unmarked (ok : X.Ok) {D : Ends} {f : Flow} {s' : Shared} (h : SP (X.marked e) pins D f s') : SP X pins D f s' := by
  cases f with
  | next => obtain ⟨σ', H', I, q⟩ := h; exact ⟨σ', H', I.unmarked ok, q⟩
  | brk => obtain ⟨σ', H', I, q⟩ := h; exact ⟨σ', H', I.unmarked ok, q⟩
  | cont => obtain ⟨σ', H', I, q⟩ := h; exact ⟨σ', H', I.unmarked ok, q⟩
  | ret u => obtain ⟨v, σ', H', I, r, q⟩ := h; exact ⟨v, σ', H', I.unmarked ok, r, q⟩
theorem Flown.inv {H' : Hp} {s' : Shared} {C : Addr} (I : Inv X pins σ H s) (F : Flown X.prog X.w X.stack H s e C H' s') : Inv X pins σ H' s' :=
  I.call' F.os F.un F.hok F.bare λ _ z => nomatch z
end
def excO (e C : Addr) : HO := .ext λ h => ∃ (o : Obj) (vs : Array Value), h.get? e = some o /\ o.cls = .ref C /\ o.data = .fields vs
abbrev TH := Addr -> Ends -> St -> Hp -> Prop
def PH (X : Cx) (h₀ : ExceptHandler) (th : TH) : Prop :=
  ∀ (pins : List (Addr × Obj)) (D : Ends) (σ : St) (H0 : Hp) (s0 : Shared) (e C : Addr) (H : Hp) (s : Shared), Inv X pins σ H0 s0 -> Flown X.prog X.w X.stack H0 s0 e C H s -> th C D σ H ->
    wpAny (model X.prog X.w) X.A (handleBy (.ref e) X.env [h₀]) (SP X pins D) X.xe s
theorem ps_try {X : Cx} {e : Expr} {p1 pos : Pos} {mk : XK -> TE} {h₀ : ExceptHandler} {th : TH} (T : Top1 X)
    (he : ∀ (pins : List (Addr × Obj)) (σ : St) (E1 : Value -> Shared -> Prop) (E' : XK), PassesAt (CXE X.prog X.w) (X.wish E1) pins σ E' -> PEat (X.wish E1) pins σ e (mk E')) (hh : PH X h₀ th)
    (hs : swapsWith e none p1.line X.env = pure false := by rfl) :
    PS X (.Try [.Expr e p1] [h₀] [] [] pos) (λ D σ H => mk (λ c _ H' => ∃ C, c = .ref C /\ th C D σ H') σ H λ _ H1 => D.nx σ H1) := by
  intro pins s σ H D I h
  refine wpAny_Try_except ?_
  have fr : X.A.frames = some (X.env :: X.outer) := I.ok.frames.trans (by rw [T.st])
  have pa : PassesAt (CXE X.prog X.w) (X.wish λ ev s₁ => wpAny (model X.prog X.w) X.A (noteFrame ev X.env) (λ _ s₂ => wpAny (model X.prog X.w) X.A (setFlight ev none) (λ _ s₃ => wpAny (model X.prog X.w) X.A (handleBy ev X.env [h₀]) (SP X pins D) X.xe s₃) X.xe s₂) X.xe s₁) pins σ
      (λ c _ H' => ∃ C, c = .ref C /\ th C D σ H') := by
    rintro H1 s1 ev s' I1 ⟨e1, C, H', rfl, F, C', hc, q⟩
    cases hc
    have I1' : Inv X pins σ H1 s1 := I1.unwish
    obtain ⟨B, t, f, he1, on⟩ := F.on
    have f' := f
    have st : (X.wish λ ev s₁ => wpAny (model X.prog X.w) X.A (noteFrame ev X.env) (λ _ s₂ => wpAny (model X.prog X.w) X.A (setFlight ev none) (λ _ s₃ => wpAny (model X.prog X.w) X.A (handleBy ev X.env [h₀]) (SP X pins D) X.xe s₃) X.xe s₂) X.xe s₁).stack = X.env :: X.outer := T.st
    rw [st] at f'
    show wpAny _ _ _ _ _ _
    refine wpAny_looks_onW fr T.fr f' λ h₄ held u4 => ?_
    refine wpAny_landsW held λ h₅ f5 u5 => ?_
    have f5' : Heap.FlyingW B X.stack e1 (.ref C) t h₅ := by rw [T.st]; exact f5
    exact hh pins D σ H1 s1 e1 C H' _ I1' (on h₅ _ f5' (u4.trans u5)) q
  have hb := he pins σ _ _ pa s H (λ _ H1 => D.nx σ H1) (I.wish _) h
  refine wpAny_execs_cons (wpAny_Expr_any (thn hb λ v s1 ⟨x, H1, I1, r1, q1⟩ => ?_) I.quiet hs)
  exact wpAny_execs_nil (wpAny_execs_nil ⟨σ, H1, I1.unwish, q1⟩)
section
variable {X : Cx} {pins : List (Addr × Obj)} {σ : St} {H H0 : Hp} {s s0 : Shared} {e C : Addr}
theorem Flown.new (I0 : Inv X pins σ H0 s0) (F : Flown X.prog X.w X.stack H0 s0 e C H s) : s0.heap.get? e = none := by
  cases q : s0.heap.get? e with
  | none => rfl
  | some o =>
    obtain ⟨B, t, f, k1, k2, k⟩ := F.fly
    by_cases hb : e ∈ frs X.stack
    . obtain ⟨_, ob, ho, hd⟩ := f.2.2.1.mem hb
      obtain ⟨oe, vs, h1, _, h3, _⟩ := f.first
      rw [h1] at ho
      cases ho
      exact absurd h3 (hd vs)
    . obtain ⟨o', z⟩ := k2 e o q hb
      rw [f.2.1] at z
      cases z
theorem Inv.track {o : HO} (I : Inv X pins σ H s) (hn : H e = none) (h0 : X.s₀.heap.get? e = none) (hL : e ≠ X.env.locals) (hc : ∀ x c, X.env.cells.lookup x = some c -> c ≠ e) (hp : ∀ p ∈ X.pn ++ pins, p.1 ≠ e)
    (new : ObjOk X.prog X.w (upd H e o) s.heap e o) : Inv X pins σ (upd H e o) s := by
  have ne : ∀ b ob, X.s₀.heap.get? b = some ob -> b ≠ e := λ b ob q z => by rw [z, h0] at q; cases q
  refine ⟨I.ok, I.os, I.bare, ⟨I.base.keep, I.base.slot, λ b ob q n hx => by rw [upd_ne (ne b ob q)]; exact I.base.free b ob q n hx, I.base.there, λ b xs q => ?_, λ b ob u q => ?_, λ b ps q => ?_⟩, I.loc, I.cell, by rw [upd_ne hL.symm]; exact I.free,
    λ x c q => by rw [upd_ne (hc x c q)]; exact I.freeC x c q, λ p hpp => ?_, λ b u q => ?_, I.len⟩
  . have z := I.base.tups b xs q
    rw [upd_ne (ne_of_none z hn)]; exact z
  . have z := I.base.frzs b ob u q
    rw [upd_ne (ne_of_none z hn)]; exact z
  . obtain ⟨m, z⟩ := I.base.tbls b ps q
    exact ⟨m, by rw [upd_ne (ne_of_none z hn)]; exact z⟩
  . obtain ⟨h1, h2, h3⟩ := I.pin p hpp
    exact ⟨h1, by rw [upd_ne (hp p hpp)]; exact h2, h3⟩
  . by_cases hb : b = e
    . subst hb
      rw [upd_same] at q
      cases q
      exact new
    . rw [upd_ne hb] at q
      exact (I.hok b u q).stay (λ _ _ _ z => z) (λ c z => by rw [upd_ne (ne_of_none z hn)]; exact z) λ c xs z => by rw [upd_ne (ne_of_none z hn)]; exact z
theorem Inv.forget {h' : Heap} {m' : Str -> Option Value} {t : Nat} (I : Inv X pins σ H s) (hn : h'.Ns X.env.locals m') (hs : Heap.SameBut X.env.locals s.heap h') : Inv X pins (List.replicate X.N.length none) H { s with heap := h', toks := t } := by
  obtain ⟨m, ⟨oL, _, _, hoL, _⟩, _⟩ := id I.loc
  refine ⟨I.ok, I.os, I.bare, ⟨λ b o e n hb hx => ?_, λ b o e n hb hx => ?_, I.base.free, λ b o e hx => ?_, I.base.tups, I.base.frzs, I.base.tbls⟩, ⟨_, hn, λ j y v' e1 e2 e3 => ?_⟩, λ y c e => ?_, I.free, I.freeC, λ p hp => ?_, λ b ob e => ?_, by simp⟩
  . exact (hs.2 b (Nat.ne_of_lt (Nat.lt_of_lt_of_le (Heap.lt_size e) I.ok.above))).trans (I.base.keep b o e n hb hx)
  . obtain ⟨sl, e1⟩ := I.base.slot b o e n hb hx
    exact ⟨sl, (hs.2 b (Nat.ne_of_lt (Nat.lt_of_lt_of_le (Heap.lt_size e) I.ok.above))).trans e1⟩
  . obtain ⟨o', e1⟩ := I.base.there b o e hx
    exact ⟨o', (hs.2 b (Nat.ne_of_lt (Nat.lt_of_lt_of_le (Heap.lt_size e) I.ok.above))).trans e1⟩
  . rw [List.getElem?_replicate] at e2
    split at e2 <;> simp at e2
  . obtain ⟨w', z⟩ := I.cell y c e
    exact ⟨w', z.sameBut hs (I.cne y c e)⟩
  . obtain ⟨e, n, ne, nf, d⟩ := I.pin p hp
    exact ⟨(hs.2 p.1 ne).trans e, n, ne, nf, d⟩
  . refine (I.hok b ob e).stay (λ c w' hc q => (hs.2 c ?_).trans q) (λ _ q => q) λ _ _ q => q
    rintro rfl
    rcases hc with z | z
    . rw [<- z, I.free] at e; cases e
    . rw [I.free] at z; cases z
end
structure Takes (K : PySem.W.Frag) (C D : Addr) : Prop where
  m : PySem.W.exmOne K (.ref C) (.ref D) = some true
theorem ph_as {X : Cx} {x n : Str} {np hpos : Pos} {b₀ : Stmt} {suite : List Stmt} {i : Nat} {D0 : Addr} {ts : TS} (T : Top1 X) (hg : Gl X x) (hm : X.mg x = some (.ref D0)) (hN : X.N.Nodup) (hi : X.N[i]? = some n) (hl : X.env.scope.names.lookup n = some .local)
    (hs : ∀ e, PSs (X.marked e) (b₀ :: suite) ts) (hd : (x == ("__debug__" : Str)) = false := by decide) :
    PH X (.ExceptHandler (some (.Name x np)) (some n) (b₀ :: suite) hpos) (λ C D σ H => Takes X.K C D0 /\ ∀ e, H e = none -> ts { nx := λ _ _ => False, rt := D.rt } (σ.set i (some (.ref e))) (upd H e (excO e C))) := by
  rintro pins D σ H0 s0 e C H s I0 F ⟨tk, q⟩
  have fr : X.A.frames = some (X.env :: X.outer) := I0.ok.frames.trans (by rw [T.st])
  have I : Inv X pins σ H s := F.inv I0
  have Im := I.marked e
  obtain ⟨B, t, f, he1, on⟩ := F.on
  obtain ⟨oe, hoe, hce⟩ := f.there
  have LT : PySem.W.Looks (model X.prog X.w) s.heap (typeOf (.ref e)) (.ref C) := by
    rw [<- hce]
    exact (PySem.W.Looks.ld hoe).andThen .now
  have nev : ∀ {α : Type} {t : Sem α} {Q : α -> Shared -> Prop} {A : Around} {E : Value -> Shared -> Prop} {s : Shared}, wpAny (model X.prog X.w) A t Q (λ _ _ => False) s -> wpAny (model X.prog X.w) A t Q E s := λ h => wpAny_mono h (λ _ _ x => x) λ _ _ z => z.elim
  refine wpAny_handleBy_cons (codeAny_handlers_test (nev (ld_glob Im hg hm ?_ hd))) (by intro z; cases z)
  refine nev ((PySem.W.exm_one I.kIn LT tk.m).here ?_)
  show codeAny _ _ _ _ _
  refine codeAny_handlers_suite_as (nev (lands_againW f λ h₆ f6 u6 => ?_))
  have F6 := on h₆ s.toks f6 u6
  have I6 : Inv X pins σ H { s with heap := h₆ } := F6.inv I0
  obtain ⟨o6, vs6, g1, g2, g3, g4⟩ := f6.first
  have new := F.new I0
  have n0 : X.s₀.heap.get? e = none := by
    cases z : X.s₀.heap.get? e with
    | none => rfl
    | some ob =>
      obtain ⟨o', z2⟩ := I0.base.there e ob z (by rw [T.ex]; simp)
      rw [new] at z2; cases z2
  have nL : e ≠ X.env.locals := λ z => by
    obtain ⟨m, ⟨oL, _, _, hoL, _⟩, _⟩ := id I0.loc
    rw [<- z, new] at hoL; cases hoL
  have nC : ∀ y c, X.env.cells.lookup y = some c -> c ≠ e := λ y c hc z => by
    obtain ⟨v, o, ho, _⟩ := I0.cell y c hc
    rw [z, new] at ho; cases ho
  have nP : ∀ p ∈ X.pn ++ pins, p.1 ≠ e := λ p hp z => by
    have := (I0.pin p hp).1
    rw [z, new] at this; cases this
  have I7 : Inv X pins σ (upd H e (excO e C)) { s with heap := h₆ } := I6.track he1 n0 nL nC nP
    ⟨⟨o6, vs6, g1, g2, g3⟩, ⟨o6, g1⟩, λ h1 h2 ⟨o, vs, z1, z2, z3⟩ k => ⟨o, vs, k _ z1, z2, z3⟩⟩
  refine nev (store_ok (v := V.ref e) I7 hN hi (.inl hl) rfl (λ s8 I8 => ?_) (.inr hl))
  have hsu := hs e pins s8 _ _ _ (I8.marked e) (q e he1)
  refine wpAny_mono hsu (λ fl s9 z => ?_) λ _ _ z => z.elim
  cases fl with
  | next => obtain ⟨_, _, _, z⟩ := z; exact z.elim
  | brk => obtain ⟨_, _, _, z⟩ := z; exact z.elim
  | cont => obtain ⟨_, _, _, z⟩ := z; exact z.elim
  | ret u =>
    obtain ⟨v, σ9, H9, I9, r9, q9⟩ := z
    have I9 := I9.unmarked I0.ok
    obtain ⟨m9, hm9, _⟩ := id I9.loc
    refine nev (wpAny_nameGoes hl hm9 (by rw [I0.ok.kind]; rfl) λ h' m' hn' hs' => ?_)
    exact ⟨v, _, H9, I9.forget hn' hs', r9, q9⟩
end L2
namespace L2
open PySem PySem.Spec PyProof.Rows
theorem ph_bare {X : Cx} {x : Str} {np hpos : Pos} {b₀ : Stmt} {suite : List Stmt} {D0 : Addr} {ts : TS} (T : Top1 X) (hg : Gl X x) (hm : X.mg x = some (.ref D0))
    (hs : ∀ e, PSs (X.marked e) (b₀ :: suite) ts) (hd : (x == ("__debug__" : Str)) = false := by decide) :
    PH X (.ExceptHandler (some (.Name x np)) none (b₀ :: suite) hpos) (λ C D σ H => Takes X.K C D0 /\ ts D σ H) := by
  rintro pins D σ H0 s0 e C H s I0 F ⟨tk, q⟩
  have I : Inv X pins σ H s := F.inv I0
  have Im := I.marked e
  obtain ⟨B, t, f, he1, on⟩ := F.on
  obtain ⟨oe, hoe, hce⟩ := f.there
  have LT : PySem.W.Looks (model X.prog X.w) s.heap (typeOf (.ref e)) (.ref C) := by
    rw [<- hce]
    exact (PySem.W.Looks.ld hoe).andThen .now
  have nev : ∀ {α : Type} {t : Sem α} {Q : α -> Shared -> Prop} {A : Around} {E : Value -> Shared -> Prop} {s : Shared}, wpAny (model X.prog X.w) A t Q (λ _ _ => False) s -> wpAny (model X.prog X.w) A t Q E s := λ h => wpAny_mono h (λ _ _ x => x) λ _ _ z => z.elim
  refine wpAny_handleBy_cons (codeAny_handlers_test (nev (ld_glob Im hg hm ?_ hd))) (by intro z; cases z)
  refine nev ((PySem.W.exm_one I.kIn LT tk.m).here ?_)
  show codeAny _ _ _ _ _
  refine codeAny_handlers_suite (nev (lands_againW f λ h₆ f6 u6 => ?_))
  have I6 : Inv X pins σ H { s with heap := h₆ } := (on h₆ s.toks f6 u6).inv I0
  exact wpAny_mono (hs e pins _ σ H D (I6.marked e) q) (λ fl s9 z => z.unmarked I0.ok) λ _ _ z => z.elim
structure ExcK (K : PySem.W.Frag) (C : Addr) : Prop where
  ga : PySem.W.findIn K (.ref C) "__getattribute__" = some (some (.builtin "BaseException.__getattribute__"))
  gt : PySem.W.findIn K (.ref C) "__getattr__" = some none
  cl : PySem.W.findIn K (.ref C) "__class__" = some (some (.builtin "object.__class__"))
  be : PySem.W.subIn K (.ref C) (.type "BaseException") = some true
  ob : PySem.W.mroIn K C (.type "object") = some true
  isc : (PySem.W.clsIn K C).isSome = true
section
variable {prog : Program} {w : World} {A : Around} {E : Value -> Shared -> Prop} {s : Shared} {K : PySem.W.Frag} {e C : Addr} {o : Obj}
theorem exc_ty (hx : s.heap.get? e = some o) (hc : o.cls = .ref C) {M : Model} : PySem.W.Looks M s.heap (typeOf (.ref e)) (.ref C) := by
  rw [<- hc]
  exact (PySem.W.Looks.ld hx).andThen .now
end
end L2
namespace PySem.W
open PySem PySem.Calls PySem.Spec PyProof.Rows L2 Builtin Builtin.ObjectAttr Builtin.Getset_descriptor
section
variable {prog : Program} {w : World} {A : Around} {E : Value -> Shared -> Prop} {s : Shared} {K : Frag} {e C : Addr} {o : Obj}
theorem exc_get {R : Result -> Shared -> Prop} {tp : Value} (XK : ExcK K C) (X : K.In s.heap) (hx : s.heap.get? e = some o) (hc : o.cls = .ref C) (hq : R (.ok (.ret (.ref C))) s) :
    codeAny (model prog w) A (.call (.builtin "getset_descriptor.__get__") ⟨[.builtin "object.__class__", .ref e, tp], []⟩) R s := by
  have L0 := exc_ty (M := model prog w) hx hc
  have L1 := looks_mroIn (M := model prog w) X XK.ob
  obtain ⟨hh, g, dr, t, os⟩ := s
  refine codeAny_call_builtin KF.slot_gs.plain KF.entry_gs (KF.slot_gs.check _ _ _ _ _ _ _ _ KF.type_class (KF.args_gs _ _ _) ?_)
  unfold Builtin.«getset_descriptor.__get__» descrGet
  rw [dga_obj]
  refine wpAny_bind (wpAny_pure ?_)
  unfold descrGetter descrCheckInstance descrNameAndClass isInstance
  simp only [KF.owner_class]
  repeat lk
  refine ⟨Code.quiet_builtin _ (by decide +kernel), codeAny_builtin KF.entry_class ?_⟩
  unfold Builtin.«object.__class__» shownTypeOf
  repeat lk
  exact hq
theorem exc_entry {tk : Tok} {Q : Fin -> Shared -> Prop} (XK : ExcK K C) (X : K.In s.heap) (hx : s.heap.get? e = some o) (hc : o.cls = .ref C) (hq : Q (.done (.ret (.ref C))) s) :
    wpAny (model prog w) A (Builtin.«object.__getattribute__» ⟨[.ref e, .str "__class__" tk], []⟩) Q E s := by
  have L0 := exc_ty (M := model prog w) hx hc
  have L3 := looks_findIn (M := model prog w) X XK.cl
  obtain ⟨hh, g, d, t, os⟩ := s
  have hT5 : (⟨hh, g, d, t, os⟩ : Shared).TypeIs (.builtin "object.__class__") "getset_descriptor" := PySem.F.typeOf_object_class
  have f5 := PySem.F.typeOf_object_class
  have f6 := PySem.F.slot_gs_get.lookup
  have f7 := PySem.F.slot_gs_set.lookup
  repeat (any_goals (first | assumption | with_reducible refine Looks.at L0 ?_ | with_reducible refine Looks.at L3 ?_ | wp_step))
  refine exc_get (s := ⟨hh, g, d, t, os⟩) XK X hx hc ?_
  repeat (any_goals (first | assumption | wp_step))
theorem exc_check {nameV : Value} {Q : Unit -> Shared -> Prop} (XK : ExcK K C) (X : K.In s.heap) (hx : s.heap.get? e = some o) (hc : o.cls = .ref C) (hq : Q () s) : wpAny (model prog w) A (checkBuiltinCall "BaseException.__getattribute__" ⟨[.ref e, nameV], []⟩) Q E s := by
  have hk : builtinKind "BaseException.__getattribute__" = some .slot := by decide +kernel
  have hsplit : splitId "BaseException.__getattribute__" = some ("BaseException", "__getattribute__") := by decide +kernel
  have ha := PySem.F.args_bexc_ga (.ref e) nameV
  have L0 := exc_ty (M := model prog w) hx hc
  have L4 := looks_subIn (M := model prog w) X XK.be
  obtain ⟨hh, g, d, t, os⟩ := s
  simp only [checkBuiltinCall, hk, hsplit]
  refine wpAny_bind ?_
  unfold isInstance
  repeat (first | with_reducible refine Looks.at L0 ?_ | with_reducible refine Looks.at L4 ?_ | wp_step)
  exact hq
theorem exc_class {Q : Option Value -> Shared -> Prop} (XK : ExcK K C) (X : K.In s.heap) (hx : s.heap.get? e = some o) (hc : o.cls = .ref C) (hq : Q (some (.ref C)) { s with toks := s.toks + 1 }) :
    wpAny (model prog w) A (getAttr? (.ref e) "__class__") Q E s := by
  have L1 := looks_findIn (M := model prog w) X XK.ga
  have L2 := looks_findIn (M := model prog w) X XK.gt
  have LT := exc_ty (M := model prog w) hx hc
  obtain ⟨h, g, d, t, os⟩ := s
  have f3 := PySem.F.excAttr_ValueError.ga.bind (.ref e)
  have hx2 : (Value.builtin "BaseException.__getattribute__" == Value.builtin "object.__getattribute__") = false := by decide +kernel
  have hx1 : (onTheHeap (Value.ref C) && Value.builtin "BaseException.__getattribute__" == Value.builtin "object.__getattribute__") = false := by rw [hx2]; rfl
  unfold getAttr? getAttrBy? getAttrBy
  refine wpAny_bind (wpAny_mkText (wpAny_bind (wpAny_attempt (wpAny_holding (wpAny_bind (LT.at (wpAny_bind (L1.at ?_))))))))
  dsimp only
  rw [hx1, if_neg Bool.false_ne_true]
  unfold getAttrByItsOwn
  repeat (any_goals (first | assumption | with_reducible refine Looks.at L2 ?_ | wp_step))
  refine codeAny_call_builtin PySem.F.excAttr_ValueError.ga.plain PySem.F.entry_bexc_ga (exc_check (s := ⟨h, g, d, t + 1, os⟩) XK X hx hc (exc_entry (s := ⟨h, g, d, t + 1, os⟩) XK X hx hc ?_))
  repeat (any_goals (first | assumption | wp_step))
theorem kitx_exc (XK : ExcK K C) : KitX K (.ref e) (.ref C) (λ h => ∃ o, h.get? e = some o /\ o.cls = .ref C) where
  ty := λ M h X ⟨o, h1, h2⟩ => by
    rw [<- h2]
    exact (Looks.ld h1).andThen .now
  it := λ M h X _ => by
    obtain ⟨cd, hcd⟩ := Option.isSome_iff_exists.mp XK.isc
    unfold clsIn at hcd
    split at hcd
    . rename_i c' d' cd' sl' ho
      intro A' Q' E' s' k q
      unfold isType loadHead
      exact wpAny_bind (wpAny_loadPart (k _ _ (X _ _ ho)) (wpAny_pure q))
    . cases hcd
  ne := λ h tp dd its n sl X htp => by
    obtain ⟨cd, hcd⟩ := Option.isSome_iff_exists.mp XK.isc
    refine Bool.eq_false_iff.mpr λ q => ?_
    have e : C = tp := Value.ref.inj (beq_iff_eq.mp q)
    subst e
    unfold clsIn at hcd
    split at hcd
    . rename_i c' d' cd' sl' ho
      have z := (X _ _ ho).symm.trans htp
      cases z
    . cases hcd
  ca := λ X ⟨o, h1, h2⟩ k => exc_class XK X h1 h2 k
end
end PySem.W
namespace L2
open PySem PySem.Spec PyProof.Rows
inductive TyE (K : PySem.W.Frag) (H : Hp) : V -> Value -> Prop where
  | ty {x : V} {t : Value} (h : TyOf K H x t) : TyE K H x t
  | exc {e C : Addr} (h : H e = some (excO e C)) (k : ExcK K C) : TyE K H (.ref e) (.ref C)
section
variable {X : Cx}
theorem exc_at {pins : List (Addr × Obj)} {σ : St} {H : Hp} {s : Shared} {e C : Addr} (I : Inv X pins σ H s) (h : H e = some (excO e C)) : ∃ o, s.heap.get? e = some o /\ o.cls = .ref C := by
  obtain ⟨⟨o, vs, h1, h2, _⟩, _⟩ := (show ObjOk X.prog X.w H s.heap e (excO e C) from I.hok e _ h)
  exact ⟨o, h1, h2⟩
theorem call_isi : CallR X (.builtin "isinstance") (λ xs H Q => ∃ x c t cv b, xs = [x, c] /\ TyE X.K H x t /\ (c = .ref cv /\ PySem.W.kitOne X.K t (.ref cv) = some b) /\ Q (.bl b) H) := by
  intro pins s σ H xs us Q I r h
  obtain ⟨x, c, t, cv, b, rfl, ty, ⟨rfl, e⟩, q⟩ := h
  obtain ⟨u, w', rfl, ru, rw'⟩ := vals2 r
  obtain rfl : w' = Value.ref cv := rw'
  cases ty with
  | ty h => exact isinst_ok I ru h e λ tk => ⟨.bl b, H, I.tok _, rfl, q⟩
  | exc h k =>
    obtain rfl := (show u = Value.ref _ from ru)
    exact PySem.W.kia_one (PySem.W.kitx_exc k) I.kIn (exc_at I h) e (λ z => nomatch z) λ tk => ⟨.bl b, H, I.tok _, rfl, q⟩
theorem call_isiT : CallR X (.builtin "isinstance") (λ xs H Q => ∃ x n t b, xs = [x, .ty n] /\ TyE X.K H x t /\ PySem.W.kitOne X.K t (.type n) = some b /\ Q (.bl b) H) := by
  intro pins s σ H xs us Q I r h
  obtain ⟨x, n, t, b, rfl, ty, e, q⟩ := h
  obtain ⟨u, w', rfl, ru, rw'⟩ := vals2 r
  obtain rfl : w' = Value.type n := rw'
  cases ty with
  | ty h => exact isinst_ok I ru h e λ tk => ⟨.bl b, H, I.tok _, rfl, q⟩
  | exc h k =>
    obtain rfl := (show u = Value.ref _ from ru)
    exact PySem.W.kia_one (PySem.W.kitx_exc k) I.kIn (exc_at I h) e (λ z => nomatch z) λ tk => ⟨.bl b, H, I.tok _, rfl, q⟩
theorem call_isiX : CallR X (.builtin "isinstance") (λ xs H Q => ∃ (e C p : Addr) (cs : List Addr) (b : Bool), xs = [.ref e, .ref p] /\ H e = some (excO e C) /\ ExcK X.K C /\ H p = some (.tup (cs.map V.ref)) /\ PySem.W.kitAny X.K (.ref C) (cs.map Value.ref) = some b /\ Q (.bl b) H) := by
  intro pins s σ H xs us Q I r h
  obtain ⟨e, C, p, cs, b, rfl, he, k, hp, ek, q⟩ := h
  obtain ⟨u, w', rfl, ru, rw'⟩ := vals2 r
  obtain rfl := (show u = Value.ref e from ru)
  obtain rfl := (show w' = Value.ref p from rw')
  obtain ⟨its, hv, ⟨ob, h1, h2, n, h3⟩, hsz⟩ := I.tuple (SqT.of hp)
  have ei : its = cs.map Value.ref := by
    clear h1 h2 h3 hp ek hsz
    induction cs generalizing its with
    | nil => cases hv; rfl
    | cons c cs ih =>
      cases hv with
      | cons r1 r2 =>
        obtain rfl := (show _ = Value.ref c from r1)
        rw [List.map_cons, ih _ r2]
  subst ei
  obtain ⟨oc, od, dat, osl⟩ := ob
  dsimp only at h2 h3
  subst h2 h3
  exact PySem.W.kia_tup (PySem.W.kitx_exc k) I.kIn (exc_at I he) h1 ek (λ z => nomatch z) λ tk => ⟨.bl b, H, I.tok _, rfl, q⟩
end
end L2
namespace PySem.W
open PySem PyProof.Rows
theorem ns_none_ofK {K : Frag} {N : Addr} {c : Value} {d : Option Addr} {es : Array DictEntry} {n : Nat} {sl : Array (Option Value)} {x : Str} (l : K.lookup N = some ⟨c, d, .dict es n, sl⟩) (e : nsIn K N x = some none) : nsFind es x = none := by
  unfold nsIn at e
  rw [l] at e
  dsimp only at e
  split at e
  . cases e
  . rename_i he
    unfold nsFind findBy
    rw [<- Array.find?_toList, he]
    rfl
end PySem.W
namespace L2
open PySem PySem.Spec PyProof.Rows
def CMulB (i j : Int) : Prop := (-(2 ^ 250) < i /\ i < 2 ^ 250) /\ (-(2 ^ 250) < j /\ j < 2 ^ 250)
def CDivB (_ j : Int) : Prop := 0 < j /\ j < 2 ^ 250
theorem CMulB.ok {i j : Int} (h : CMulB i j) : IntMulOk i j := by
  have key : ∀ {i : Int}, -(2 ^ 250) < i -> i < 2 ^ 250 -> Builtin.Int.intBits i <= 2 ^ 20 := λ {i} h1 h2 =>
    Nat.le_trans (PyProof.Rows.intBits_le (k := 250) (by omega)) (by decide)
  exact IntMulOk.of_bits (key h.1.1 h.1.2) (key h.2.1 h.2.2)
section
variable {X : Cx}
theorem op_mulB : OpR X (binaryOp .Mult) (rI CMulB λ i j => .int (i * j)) := opI λ _ _ _ _ _ _ _ hc q => mul_int q hc.ok
theorem op_fdivB : OpR X (binaryOp .FloorDiv) (rI CDivB λ i j => .int (i / j)) := opI λ i j _ _ _ _ _ hc q => by
  have h1 : (0 : Int) < j := hc.1
  have h2 : j < 2 ^ 250 := hc.2
  refine floordiv_int (by omega) (by rw [Int.fdiv_eq_ediv_of_nonneg i (by omega)]; exact q) (.inl (PyProof.noPylong_of_log2 ?_))
  have h3 : j.natAbs.log2 < 250 := (Nat.log2_lt (by omega)).mpr (by omega)
  omega
theorem pe_powc {i j v : Int} {k1 k2 p1 p2 pos} (hv : i ^ j.toNat = v) (hc : 0 <= j /\ j <= 1000000 /\ i.natAbs < 2 ^ 64) : PE X (.BinOp (.Constant (.int i) k1 p1) .Pow (.Constant (.int j) k2 p2) pos) (tC (.int v)) := by
  intro pins s σ H Q I h
  have := pe_op (X := X) (pos := pos) op_pow (pe_int (i := i) (j := k1) (pos := p1)) (pe_int (i := j) (j := k2) (pos := p2)) pins s σ H Q I
  refine this ⟨i, j, rfl, rfl, hc, ?_⟩
  show Q (.int (i ^ j.toNat)) H
  rw [hv]; exact h
end
section
variable {K : PySem.W.Frag} {i j : Nat} {σ σ' : St} {H H' : Hp} {Q : VK} {B : Bool -> Hp -> Prop} {v x y : V} {ta tb tc te : TE} {t u : TT} {ts us : TS} {r : R2} {D : Ends} {C : Int -> Int -> Prop} {g : Int -> Int -> V} {a b : Int} {ar : TA} {L : List V -> Hp -> Prop}
theorem rd_start {N : List Str} {vs : List V} (h : start N vs = σ) (q : ts D σ H) : ts D (start N vs) H := by rw [h]; exact q
theorem rd_var (h : σ[i]? = some (some v)) (q : Q v H) : tVar i σ H Q := ⟨v, h, q⟩
theorem rd_c (q : Q v H) : tC v σ H Q := q
theorem rd_op (h : ta σ H λ x H1 => tb σ H1 λ y H2 => r x y H2 Q) : tOp r ta tb σ H Q := h
theorem rd_un {r : V -> Hp -> VK -> Prop} (h : ta σ H λ x H1 => r x H1 Q) : tUn r ta σ H Q := h
theorem rd_U {g : Int -> V} (q : Q (g a) H) : rU g (.int a) H Q := ⟨a, rfl, q⟩
theorem rd_I0 (q : Q (g a b) H) : rI0 g (.int a) (.int b) H Q := ⟨a, b, rfl, rfl, q⟩
theorem rd_I (c : C a b) (q : Q (g a b) H) : rI C g (.int a) (.int b) H Q := ⟨a, b, rfl, rfl, c, q⟩
theorem dec_intP : decide (V.int a = V.int b) = decide (a = b) := by simp
theorem rd_eqI (q : Q (.bl (decide (a = b))) H) : rEq (.int a) (.int b) H Q := ⟨rfl, by rw [dec_intP]; exact q⟩
theorem rd_neI (q : Q (.bl (!decide (a = b))) H) : rNe (.int a) (.int b) H Q := ⟨rfl, by rw [dec_intP]; exact q⟩
theorem rd_test (h : te σ H λ x H' => ∃ k, x = .bl k /\ B k H') : tTest te σ H B := h
theorem rd_tB (h : te σ H λ x H' => ∃ k, x = .bl k /\ B k H') : tB te σ H B := h
theorem rd_k {b : Bool} {B : Bool -> Prop} (q : B b) : ∃ k, V.bl b = .bl k /\ B k := ⟨b, rfl, q⟩
theorem rd_and (h : t σ H λ c H1 => if c = true then u σ H1 B else B false H1) : tAnd t u σ H B := h
theorem rd_or (h : t σ H λ c H1 => if c = true then B true H1 else u σ H1 B) : tOr t u σ H B := h
theorem rd_not (h : t σ H λ c H1 => B (!c) H1) : tNot t σ H B := h
theorem rd_andV (h : ta σ H λ x H1 => ∃ c, x = .bl c /\ if c = true then tb σ H1 Q else Q (.bl false) H1) : tAndV ta tb σ H Q := h
theorem rd_orV (h : ta σ H λ x H1 => ∃ c, x = .bl c /\ if c = true then Q (.bl true) H1 else tb σ H1 Q) : tOrV ta tb σ H Q := h
theorem rd_notV (h : ta σ H λ x H1 => ∃ c, x = .bl c /\ Q (.bl (!c)) H1) : tNotV ta σ H Q := h
theorem rd_seq (h : ts { D with nx := us D } σ H) : tSeq ts us D σ H := h
theorem rd_next (h : D.nx σ H) : tNext D σ H := h
theorem rd_asg {g : TG} (h : te σ H λ x H1 => g x σ H1 D.nx) : tAsg te g D σ H := h
theorem rd_set {R : St -> Hp -> Prop} (e : σ.set i (some v) = σ') (h : R σ' H) : gName i v σ H R := by
  unfold gName; rw [e]; exact h
theorem rd_drop (h : te σ H λ _ H1 => D.nx σ H1) : tDrop te D σ H := h
theorem rd_ret (h : te σ H D.rt) : tRet te D σ H := h
theorem rd_ifS (h : t σ H λ b H1 => if b = true then ts D σ H1 else us D σ H1) : tIfS t ts us D σ H := h
theorem rd_nil (h : L [] H) : tNil σ H L := h
theorem rd_cons (h : ta σ H λ x H1 => ar σ H1 λ xs H2 => L (x :: xs) H2) : tCons ta ar σ H L := h
theorem rd_call {sp : Sp} {dvs : List V} {E : XK} (h : ar σ H λ vs H1 => sp (vs ++ dvs) H1 Q E) : tCall sp dvs E ar σ H Q := h
theorem rd_cb {r : List V -> Hp -> VK -> Prop} (h : ar σ H λ vs H1 => r vs H1 Q) : tCB r ar σ H Q := h
theorem rd_lst (h : ar σ H λ xs H1 => xs.length <= sizeLine /\ ∀ p, H1 p = none -> Q (.ref p) (upd H1 p (.lst xs))) : tLst ar σ H Q := h
theorem rd_tup (h : ar σ H λ xs H1 => xs.length <= sizeLine /\ ∀ p, H1 p = none -> Q (.ref p) (upd H1 p (.tup xs))) : tTup ar σ H Q := h
end
theorem rd_iteP {p : Prop} [Decidable p] {A B : Prop} (h : p) (q : A) : if decide p = true then A else B := by rw [decide_eq_true h]; exact iteT q
theorem rd_iteN {p : Prop} [Decidable p] {A B : Prop} (h : ¬ p) (q : B) : if decide p = true then A else B := by rw [decide_eq_false h]; exact iteF q
theorem rd_ite {p : Prop} [Decidable p] {A B : Prop} (h1 : p -> A) (h2 : ¬ p -> B) : if decide p = true then A else B := by
  by_cases h : p
  . exact rd_iteP h (h1 h)
  . exact rd_iteN h (h2 h)
theorem rd_nite {p : Prop} [Decidable p] {A B : Prop} (h : if decide p = true then B else A) : if (!decide p) = true then A else B := by
  by_cases q : p
  . rw [decide_eq_true q] at h ⊢; exact iteF (by simpa using h)
  . rw [decide_eq_false q] at h ⊢; exact iteT (by simpa using h)
theorem rd_iteTn {A B : Prop} (h : B) : if (!true) = true then A else B := iteF h
theorem rd_iteFn {A B : Prop} (h : A) : if (!false) = true then A else B := iteT h
theorem bt_len : bootBuiltins "len" = some (.builtin "len") := by decide +kernel
theorem bt_max : bootBuiltins "max" = some (.builtin "max") := by decide +kernel
theorem bt_min : bootBuiltins "min" = some (.builtin "min") := by decide +kernel
theorem bt_sorted : bootBuiltins "sorted" = some (.builtin "sorted") := by decide +kernel
theorem bt_isinstance : bootBuiltins "isinstance" = some (.builtin "isinstance") := by decide +kernel
theorem bt_list : bootBuiltins "list" = some (.type "list") := by decide +kernel
theorem bt_tuple : bootBuiltins "tuple" = some (.type "tuple") := by decide +kernel
theorem bt_int : bootBuiltins "int" = some (.type "int") := by decide +kernel
theorem bt_bool : bootBuiltins "bool" = some (.type "bool") := by decide +kernel
theorem bt_enumerate : bootBuiltins "enumerate" = some (.type "enumerate") := by decide +kernel
theorem bt_ValueError : bootBuiltins "ValueError" = some (.type "ValueError") := by decide +kernel
theorem excC_of {K : PySem.W.Frag} {C : Addr} (q : PySem.W.excIn K C bmVE "ValueError.__new__" = true) : ExcC K C := by
  unfold PySem.W.excIn at q
  split at q
  . rename_i dd cd sl ho
    split at q
    . rename_i C' bm k0 k1 k2 k3 n k5 hm hs
      simp only [Bool.and_eq_true, beq_iff_eq, Bool.not_eq_true'] at q
      obtain ⟨⟨⟨⟨⟨rfl, rfl⟩, hdel⟩, ht⟩, hok⟩, hni⟩ := q
      obtain ⟨nm, bs, mro, ns, qn, hd, sn, sub, ab, col, del⟩ := cd
      dsimp only at hm hdel hok hni
      subst hm hdel
      have hsl : sl = #[k0, k1, k2, k3, some (.builtin "ValueError.__new__"), k5] := by
        obtain ⟨l⟩ := sl
        simp only at hs
        rw [hs]
      subst hsl
      obtain ⟨es, n', c, d, s2, lN, sk⟩ : ∃ es n' c d s2, K.lookup ns = some ⟨c, d, .dict es n', s2⟩ /\ strKeysB es = true := by
        unfold PySem.W.nsOkIn at hok
        split at hok
        . rename_i c d es n' s2 ho2
          refine ⟨es, n', c, d, s2, ho2, ?_⟩
          unfold strKeysB
          rw [List.all_eq_true]
          intro e he
          have := Array.all_eq_true'.mp hok e (by simpa using he)
          exact this
        . cases hok
      exact ⟨nm, qn, ns, bs, bm, hd, sn, sub, ab, col, dd, k0, k1, k2, k3, k5, nsFind es, ho, λ h X => ns_of_K lN sk h X, PySem.W.ns_none_ofK lN hni, λ h X => PySem.W.tail_of_in X ht⟩
    . cases q
  . cases q
def tSeqJ (t u : TS) : TS := λ D σ H => ∃ J : St -> Hp -> Prop, t { D with nx := J } σ H /\ ∀ σ' H', J σ' H' -> u D σ' H'
theorem pss_join {X : Cx} {st : Stmt} {rest : List Stmt} {t u : TS} (h1 : PS X st t) (h2 : PSs X rest u) : PSs X (st :: rest) (tSeqJ t u) := by
  intro pins s σ H D I h
  obtain ⟨J, a, b⟩ := h
  refine wpAny_execs_cons (thn (h1 pins s σ H _ I a) λ f s1 q => ?_)
  cases f with
  | next =>
    obtain ⟨σ', H', I', q'⟩ := q
    exact h2 pins s1 σ' H' D I' (b σ' H' q')
  | brk => exact q
  | cont => exact q
  | ret u => exact q
theorem rd_join {σ : St} {H : Hp} {D : Ends} {ts us : TS} (J : St -> Hp -> Prop) (h1 : ts { D with nx := J } σ H) (h2 : ∀ σ' H', J σ' H' -> us D σ' H') : tSeqJ ts us D σ H := ⟨J, h1, h2⟩
section
variable {X : Cx} (K : PySem.W.Frag)
theorem call_isiK (e : X.K = K := by rfl) : CallR X (.builtin "isinstance") (λ xs H Q => ∃ x c t cv b, xs = [x, c] /\ TyE K H x t /\ (c = .ref cv /\ PySem.W.kitOne K t (.ref cv) = some b) /\ Q (.bl b) H) := by
  subst e; exact call_isi
theorem call_isiTK (e : X.K = K := by rfl) : CallR X (.builtin "isinstance") (λ xs H Q => ∃ x n t b, xs = [x, .ty n] /\ TyE K H x t /\ PySem.W.kitOne K t (.type n) = some b /\ Q (.bl b) H) := by
  subst e; exact call_isiT
theorem call_isiXK (e : X.K = K := by rfl) : CallR X (.builtin "isinstance") (λ xs H Q => ∃ (e C p : Addr) (cs : List Addr) (b : Bool), xs = [.ref e, .ref p] /\ H e = some (excO e C) /\ ExcK K C /\ H p = some (.tup (cs.map V.ref)) /\ PySem.W.kitAny K (.ref C) (cs.map Value.ref) = some b /\ Q (.bl b) H) := by
  subst e; exact call_isiX
end
theorem same_new {H : Hp} {p : Addr} (h : H p = none) (o : HO) : Same H (upd H p o) := λ b u q => by rw [upd_ne (ne_of_none q h)]; exact q
abbrev rIsiX (K : PySem.W.Frag) : List V -> Hp -> VK -> Prop := λ xs H Q => ∃ (e C p : Addr) (cs : List Addr) (b : Bool), xs = [.ref e, .ref p] /\ H e = some (excO e C) /\ ExcK K C /\ H p = some (.tup (cs.map V.ref)) /\ PySem.W.kitAny K (.ref C) (cs.map Value.ref) = some b /\ Q (.bl b) H
abbrev rIsi (K : PySem.W.Frag) : List V -> Hp -> VK -> Prop := λ xs H Q => ∃ x c t cv b, xs = [x, c] /\ TyE K H x t /\ (c = .ref cv /\ PySem.W.kitOne K t (.ref cv) = some b) /\ Q (.bl b) H
abbrev rIsiT (K : PySem.W.Frag) : List V -> Hp -> VK -> Prop := λ xs H Q => ∃ x n t b, xs = [x, .ty n] /\ TyE K H x t /\ PySem.W.kitOne K t (.type n) = some b /\ Q (.bl b) H
theorem rd_caught {K : PySem.W.Frag} {C e c1 c2 c3 c4 : Addr} {i j : Nat} {σ : St} {H : Hp} {D : Ends} (hk : ExcK K C) (ka : PySem.W.kitAny K (.ref C) ([c1, c2, c3, c4].map Value.ref) = some false) (ks : PySem.W.kitOne K (.ref C) (.ref C) = some true)
    (kv : PySem.W.kitOne K (.ref C) (.type "ValueError") = some true) (he : H e = none) (hi : i < σ.length) (hj : j < σ.length) (hij : i ≠ j) (q : ∀ H', Same H H' -> D.rt (.bl true) H') :
    tSeq (tAsg (tCB (rIsiX K) (tCons (tVar i) (tCons (tTup (tCons (tC (V.ref c1)) (tCons (tC (V.ref c2)) (tCons (tC (V.ref c3)) (tCons (tC (V.ref c4)) tNil))))) tNil))) (gName j))
      (tRet (tAndV (tCB (rIsi K) (tCons (tVar i) (tCons (tC (V.ref C)) tNil))) (tAndV (tCB (rIsiT K) (tCons (tVar i) (tCons (tC (V.ty "ValueError")) tNil))) (tNotV (tVar j))))) D (σ.set i (some (V.ref e))) (upd H e (excO e C)) := by
  have g1 : (σ.set i (some (V.ref e)))[i]? = some (some (V.ref e)) := List.getElem?_set_self hi
  have g2 : ((σ.set i (some (V.ref e))).set j (some (V.bl false)))[i]? = some (some (V.ref e)) := by rw [List.getElem?_set_ne (Ne.symm hij)]; exact g1
  have g3 : ((σ.set i (some (V.ref e))).set j (some (V.bl false)))[j]? = some (some (V.bl false)) := List.getElem?_set_self (by rw [List.length_set]; exact hj)
  refine ⟨_, g1, (by show 4 <= sizeLine; decide), λ p hp => ?_⟩
  have ne : e ≠ p := ne_of_none (H := upd H e (excO e C)) upd_same hp
  have s1 : Same H (upd (upd H e (excO e C)) p (.tup [V.ref c1, V.ref c2, V.ref c3, V.ref c4])) := (same_new he _).trans (same_new hp _)
  have he2 : (upd (upd H e (excO e C)) p (.tup [V.ref c1, V.ref c2, V.ref c3, V.ref c4])) e = some (excO e C) := by rw [upd_ne ne]; exact upd_same
  refine ⟨e, C, p, [c1, c2, c3, c4], false, rfl, he2, hk, upd_same, ka, ?_⟩
  refine ⟨_, g2, _, _, _, C, true, rfl, .exc he2 hk, ⟨rfl, ks⟩, true, rfl, iteT ?_⟩
  refine ⟨_, g2, _, _, _, true, rfl, .exc he2 hk, kv, true, rfl, iteT ?_⟩
  exact ⟨_, g3, false, rfl, q _ s1⟩
section
variable {X : Cx} (K : PySem.W.Frag)
theorem ix_listK (e : X.K = K := by rfl) : IxR X (rIxL K) := by subst e; exact ix_list
theorem ix_tupK (e : X.K = K := by rfl) : IxR X (rIxT K) := by subst e; exact ix_tup
theorem sl_listK (e : X.K = K := by rfl) : SlR X (rSlL K) := by subst e; exact sl_list
def rLen (K : PySem.W.Frag) : List V -> Hp -> VK -> Prop := λ xs H Q => ∃ p ys, xs = [.ref p] /\ (SqL K H p ys \/ SqT K H p ys) /\ Q (.int ys.length) H
theorem call_lenK (e : X.K = K := by rfl) : CallR X (.builtin "len") (rLen K) := by subst e; exact call_len_seq
def rListOf (K : PySem.W.Frag) : List V -> Hp -> VK -> Prop := λ xs H Q => ∃ p ys, xs = [.ref p] /\ (SqL K H p ys \/ SqT K H p ys) /\ ∀ l, H l = none -> Q (.ref l) (upd H l (.lst ys))
theorem call_listK (e : X.K = K := by rfl) : CallR X (.type "list") (rListOf K) := by subst e; exact call_list_of
theorem op_ltTK (hu : X.A.units < cLine) (e : X.K = K := by rfl) : OpR X (compareOp .Lt) (rLtT K) := by subst e; exact op_ltT hu
theorem pe_fldK {e : Expr} {f : Str} {pos : Pos} {ta : TE} (he : PE X e ta) (hb : attributeBase e f X.env (eval e X.env) = eval e X.env) (eK : X.K = K := by rfl) : PE X (.Attribute e f pos) (tFld K ta f) := by subst eK; exact pe_fld he hb
theorem ps_fldK {o value : Expr} {f : Str} {pos pos' : Pos} {ta tv : TE} (ha : PE X o ta) (hv : PE X value tv) (hs : swapsWith value (some (.Attribute o f pos')) pos.line X.env = pure false) (eK : X.K = K := by rfl) : PS X (.Assign [.Attribute o f pos'] value pos) (sFld K ta tv f) := by subst eK; exact ps_fld ha hv hs
theorem pi_listK {tg l : Expr} {tl : TE} (hl : PE X l tl) (eK : X.K = K := by rfl) : PI X tg l (iList K tl) := by subst eK; exact pi_list hl
end
section
variable {K : PySem.W.Frag} {H : Hp} {Q : VK} {p : Addr} {ys : List V}
theorem rd_lenL (h : SqL K H p ys) (q : Q (.int ys.length) H) : rLen K [.ref p] H Q := ⟨p, ys, rfl, .inl h, q⟩
theorem rd_lenT (h : SqT K H p ys) (q : Q (.int ys.length) H) : rLen K [.ref p] H Q := ⟨p, ys, rfl, .inr h, q⟩
theorem rd_ixL {i : Int} {v : V} (h : SqL K H p ys) (e : atI ys i = some v) (q : Q v H) : rIxL K (.ref p) (.int i) H Q := ⟨p, ys, i, v, rfl, rfl, h, e, q⟩
theorem rd_ixT {i : Int} {v : V} (h : SqT K H p ys) (e : atI ys i = some v) (q : Q v H) : rIxT K (.ref p) (.int i) H Q := ⟨p, ys, i, v, rfl, rfl, h, e, q⟩
end
end L2
set_option autoImplicit false
namespace Tim
open PySem PyProof.Rows
structure Cmp (M : Model) (A : Around) (E : Value -> Shared -> Prop) (s : Shared) where
  α : Type
  blt : α -> α -> Bool
  key : Keyed -> α
  good : Keyed -> Prop
  kd : SortKind
  irr : ∀ a, blt a a = false
  tr : ∀ a b c, blt a b = true -> blt b c = true -> blt a c = true
  ntr : ∀ a b c, blt a b = false -> blt b c = false -> blt a c = false
  lt : ∀ (st : SortSt) (x y : Keyed) (Q : Option Bool -> SortSt -> Prop), kindOf st = kd -> good x -> good y -> Q (some (blt (key x) (key y))) st -> wpS M A E s (lt' x y) Q st
section
variable {M : Model} {A : Around} {E : Value -> Shared -> Prop} {s : Shared} (C : Cmp M A E s)
def Cmp.le (x y : Keyed) : Prop := C.blt (C.key y) (C.key x) = false
theorem Cmp.le_refl (x : Keyed) : C.le x x := C.irr _
theorem Cmp.le_trans {x y z : Keyed} (h : C.le x y) (g : C.le y z) : C.le x z := C.ntr _ _ _ g h
theorem Cmp.le_of_lt {x y : Keyed} (h : C.blt (C.key x) (C.key y) = true) : C.le x y := by
  unfold Cmp.le
  cases e : C.blt (C.key y) (C.key x) with
  | false => rfl
  | true =>
    have := C.tr _ _ _ h e
    rw [C.irr] at this; cases this
def Cmp.bey (left : Bool) (k x : Keyed) : Bool := if left = true then C.blt (C.key x) (C.key k) else !C.blt (C.key k) (C.key x)
theorem Cmp.bey_mono {left : Bool} {k x y : Keyed} (h : C.le x y) (g : C.bey left k y = true) : C.bey left k x = true := by
  unfold Cmp.bey at *
  cases left with
  | true =>
    simp only [if_true] at *
    cases e : C.blt (C.key x) (C.key k) with
    | true => rfl
    | false => rw [C.ntr _ _ _ h e] at g; cases g
  | false =>
    simp only [Bool.false_eq_true, if_false, Bool.not_eq_true'] at *
    exact C.ntr _ _ _ g h
abbrev gal : Bool -> Keyed -> Array Keyed -> Nat -> Nat -> Nat -> StateT SortSt Sem (Option Nat) := sortPriv% PySem.Builtin.gallop
variable {C}
theorem bey_ok {left : Bool} {k x : Keyed} {arr : Array Keyed} {j : Nat} {st : SortSt} {Q : Option Bool -> SortSt -> Prop} (hk : kindOf st = C.kd) (gk : C.good k) (hx : arr[j]? = some x) (gx : C.good x) (h : Q (some (C.bey left k x)) st) :
    wpS M A E s (do
      let x <- elem' arr j
      if left = true then lt' x k
      else do
        let r <- lt' k x
        pure (Option.map (λ x => !x) r)) Q st := by
  rw [elem'_eq, hx]
  refine wpS_bind (wpS_pure ?_)
  unfold Cmp.bey at h
  cases left with
  | true =>
    simp only [if_true] at h ⊢
    exact C.lt st x k Q hk gx gk h
  | false =>
    simp only [Bool.false_eq_true, if_false] at h ⊢
    exact wpS_bind (C.lt st k x _ hk gk gx (wpS_pure h))
structure Srch (C : Cmp M A E s) (left : Bool) (k : Keyed) (arr : Array Keyed) (base n : Nat) : Prop where
  gk : C.good k
  ga : ∀ (i : Nat) x, arr[i]? = some x -> C.good x
  hb : base + n <= arr.size
  mono : ∀ (i j : Nat) x y, i <= j -> j < n -> arr[base + i]? = some x -> arr[base + j]? = some y -> C.bey left k y = true -> C.bey left k x = true
def Bey (C : Cmp M A E s) (left : Bool) (k : Keyed) (arr : Array Keyed) (base i : Nat) (b : Bool) : Prop := ∃ x, arr[base + i]? = some x /\ C.bey left k x = b
theorem Srch.get {left : Bool} {k : Keyed} {arr : Array Keyed} {base n : Nat} (S : Srch C left k arr base n) {i : Nat} (hi : i < n) : ∃ x, arr[base + i]? = some x /\ C.good x := by
  have h : base + i < arr.size := by have := S.hb; omega
  exact ⟨arr[base + i], Array.getElem?_eq_getElem h, S.ga _ _ (Array.getElem?_eq_getElem h)⟩
theorem Srch.up {left : Bool} {k : Keyed} {arr : Array Keyed} {base n : Nat} (S : Srch C left k arr base n) {i j : Nat} (hij : i <= j) (hj : j < n) (h : Bey C left k arr base j true) : Bey C left k arr base i true := by
  obtain ⟨y, hy, b⟩ := h
  obtain ⟨x, hx, _⟩ := S.get (i := i) (by omega)
  exact ⟨x, hx, S.mono i j x y hij hj hx hy b⟩
theorem Srch.dn {left : Bool} {k : Keyed} {arr : Array Keyed} {base n : Nat} (S : Srch C left k arr base n) {i j : Nat} (hij : i <= j) (hj : j < n) (h : Bey C left k arr base i false) : Bey C left k arr base j false := by
  obtain ⟨x, hx, b⟩ := h
  obtain ⟨y, hy, _⟩ := S.get hj
  refine ⟨y, hy, ?_⟩
  cases e : C.bey left k y with
  | false => rfl
  | true => rw [S.mono i j x y hij hj hx hy e] at b; cases b
structure Cut (C : Cmp M A E s) (left : Bool) (k : Keyed) (arr : Array Keyed) (base n lo hi : Nat) : Prop where
  le : lo <= hi
  hn : hi <= n
  below : ∀ i, i < lo -> Bey C left k arr base i true
  above : ∀ i, hi <= i -> i < n -> Bey C left k arr base i false
theorem bin_ok {left : Bool} {k : Keyed} {arr : Array Keyed} {base n lo hi : Nat} {st : SortSt} (S : Srch C left k arr base n) (c0 : Cut C left k arr base n lo hi)
    {f : Nat -> Option (Option Nat) × Nat × Nat -> StateT SortSt Sem (ForInStep (Option (Option Nat) × Nat × Nat))}
    (h1 : ∀ (x l u : Nat) (Q' : ForInStep (Option (Option Nat) × Nat × Nat) -> SortSt -> Prop), u <= l -> Q' (.done (none, l, u)) st -> wpS M A E s (f x (none, l, u)) Q' st)
    (h2 : ∀ (x l u : Nat) (y : Keyed) (Q' : ForInStep (Option (Option Nat) × Nat × Nat) -> SortSt -> Prop), l < u -> arr[base + (l + (u - l) / 2)]? = some y -> C.good y ->
      Q' (.yield (if C.bey left k y = true then (none, l + (u - l) / 2 + 1, u) else (none, l, l + (u - l) / 2))) st -> wpS M A E s (f x (none, l, u)) Q' st) :
    wpS M A E s (forIn [:n] ((none : Option (Option Nat)), lo, hi) f) (λ c st' => st' = st /\ c.1 = none /\ Cut C left k arr base n c.2.2 c.2.2) st := by
  refine wpS_forRange (I := λ x c st' => st' = st /\ c.1 = none /\ Cut C left k arr base n c.2.1 c.2.2 /\ c.2.2 - c.2.1 <= n - x) ?step ?fin ?start
  case start => exact ⟨rfl, rfl, c0, by have := c0.hn; show hi - lo <= n - 0; omega⟩
  case fin =>
    rintro ⟨a, lo', hi'⟩ st' ⟨h1, h2, h3, h4⟩
    have e : lo' = hi' := by have := h3.le; dsimp only at h4 this; omega
    dsimp only at e h3
    subst e
    exact ⟨h1, h2, h3⟩
  case step =>
    rintro x ⟨a, lo', hi'⟩ st' _ hx ⟨rfl, q2, h3, h4⟩
    dsimp only at q2 h3 h4 ⊢
    subst q2
    by_cases hge : hi' <= lo'
    . refine h1 x lo' hi' _ hge ⟨rfl, rfl, ?_⟩
      have e : lo' = hi' := by have := h3.le; omega
      dsimp only
      subst e
      exact h3
    . have hn := h3.hn
      obtain ⟨y, hy, gy⟩ := S.get (i := lo' + (hi' - lo') / 2) (by omega)
      refine h2 x lo' hi' y _ (by omega) hy gy ?_
      cases e : C.bey left k y with
      | true =>
        simp only [if_true]
        refine ⟨trivial, trivial, ⟨?_, hn, λ i hi => ?_, h3.above⟩, ?_⟩
        . omega
        . exact S.up (j := lo' + (hi' - lo') / 2) (by omega) (by omega) ⟨y, hy, e⟩
        . omega
      | false =>
        simp only [Bool.false_eq_true, if_false]
        refine ⟨trivial, trivial, ⟨?_, ?_, h3.below, λ i hi hin => ?_⟩, ?_⟩
        . omega
        . omega
        . exact S.dn (i := lo' + (hi' - lo') / 2) (by omega) hin ⟨y, hy, e⟩
        . omega
theorem gal_ok {left : Bool} {k : Keyed} {arr : Array Keyed} {base n hint : Nat} {st : SortSt} {Q : Option Nat -> SortSt -> Prop} (S : Srch C left k arr base n) (hk : kindOf st = C.kd) (hh : hint < n)
    (h : ∀ c, Cut C left k arr base n c c -> Q (some c) st) : wpS M A E s (gal left k arr base n hint) Q st := by
  unfold gal
  k_delta "gallop"
  dsimp only
  obtain ⟨x0, hx0, g0⟩ := S.get hh
  refine wpS_bind (bey_ok hk S.gk hx0 g0 ?_)
  dsimp only
  cases e0 : C.bey left k x0 with
  | true =>
    simp only [if_true]
    refine wpS_bind (wpS_mono (wpS_forRange (I := λ x c st' => st' = st /\ c.1 = none /\ c.2.1 < c.2.2 /\ x + 1 <= c.2.2 /\ c.2.1 < n - hint /\ Bey C left k arr base (hint + c.2.1) true)
      (Q := λ c st' => st' = st /\ c.1 = none /\ c.2.1 < c.2.2 /\ c.2.1 < n - hint /\ Bey C left k arr base (hint + c.2.1) true /\ (c.2.2 ≥ n - hint \/ Bey C left k arr base (hint + c.2.2) false)) ?step ?fin ?start) ?post)
    case start => exact ⟨rfl, rfl, by decide, by decide, by show 0 < n - hint; omega, ⟨x0, hx0, e0⟩⟩
    case fin =>
      rintro ⟨a, l, o⟩ st' ⟨h1, h2, h3, h4, h5, h6⟩
      exact ⟨h1, h2, h3, h5, h6, .inl (by dsimp only at h4 ⊢; omega)⟩
    case step =>
      rintro x ⟨a, l, o⟩ st' _ hx ⟨rfl, h2, h3, h4, h5, h6⟩
      dsimp only at h2 h3 h4 h5 h6 ⊢
      subst h2
      by_cases hge : o ≥ n - hint
      . rw [if_pos hge]
        exact wpS_pure ⟨rfl, rfl, h3, h5, h6, .inl hge⟩
      . rw [if_neg hge]
        obtain ⟨y, hy, gy⟩ := S.get (i := hint + o) (by omega)
        refine wpS_bind (bey_ok hk S.gk hy gy ?_)
        dsimp only
        cases e : C.bey left k y with
        | true =>
          simp only [Bool.not_true, Bool.false_eq_true, if_false]
          exact wpS_pure ⟨rfl, rfl, by dsimp only; omega, by dsimp only; omega, by dsimp only; omega, ⟨y, hy, e⟩⟩
        | false =>
          simp only [Bool.not_false, if_true]
          exact wpS_pure ⟨rfl, rfl, h3, h5, h6, .inr ⟨y, hy, e⟩⟩
    case post =>
      rintro ⟨a, l, o⟩ st' ⟨rfl, h2, h3, h5, h6, h7⟩
      dsimp only at h2 h3 h5 h6 h7 ⊢
      subst h2
      dsimp only
      refine wpS_bind (wpS_mono (bin_ok (lo := hint + l + 1) (hi := hint + min o (n - hint)) S ⟨by omega, by omega, λ i hi => S.up (j := hint + l) (by omega) (by omega) h6, λ i hi hin => (by
        rcases h7 with h7 | h7
        . omega
        . exact S.dn (i := hint + o) (by omega) hin h7)⟩ (λ x l u Q' hge q => ?a1) (λ x l u y Q' hlt hy gy q => ?a2)) ?a3)
      case a1 =>
        dsimp only
        rw [if_pos hge]
        exact wpS_pure q
      case a2 =>
        dsimp only
        rw [if_neg (by omega)]
        refine wpS_bind (bey_ok hk S.gk hy gy ?_)
        dsimp only
        cases e : C.bey left k y with
        | true => rw [e] at q; simp only [if_true] at q ⊢; exact wpS_pure q
        | false => rw [e] at q; simp only [Bool.false_eq_true, if_false] at q ⊢; exact wpS_pure q
      case a3 =>
        rintro ⟨a, l2, u2⟩ st2 ⟨rfl, z2, z3⟩
        dsimp only at z2 z3 ⊢
        subst z2
        exact wpS_pure (h _ z3)
  | false =>
    simp only [Bool.false_eq_true, if_false]
    refine wpS_bind (wpS_mono (wpS_forRange (I := λ x c st' => st' = st /\ c.1 = none /\ c.2.1 < c.2.2 /\ x + 1 <= c.2.2 /\ c.2.1 < hint + 1 /\ Bey C left k arr base (hint - c.2.1) false)
      (Q := λ c st' => st' = st /\ c.1 = none /\ c.2.1 < c.2.2 /\ c.2.1 < hint + 1 /\ Bey C left k arr base (hint - c.2.1) false /\ (c.2.2 ≥ hint + 1 \/ Bey C left k arr base (hint - c.2.2) true)) ?step2 ?fin2 ?start2) ?post2)
    case start2 => exact ⟨rfl, rfl, by decide, by decide, by show 0 < hint + 1; omega, ⟨x0, hx0, e0⟩⟩
    case fin2 =>
      rintro ⟨a, l, o⟩ st' ⟨h1, h2, h3, h4, h5, h6⟩
      exact ⟨h1, h2, h3, h5, h6, .inl (by dsimp only at h4 ⊢; omega)⟩
    case step2 =>
      rintro x ⟨a, l, o⟩ st' _ hx ⟨rfl, h2, h3, h4, h5, h6⟩
      dsimp only at h2 h3 h4 h5 h6 ⊢
      subst h2
      by_cases hge : o ≥ hint + 1
      . rw [if_pos hge]
        exact wpS_pure ⟨rfl, rfl, h3, h5, h6, .inl hge⟩
      . rw [if_neg hge]
        obtain ⟨y, hy, gy⟩ := S.get (i := hint - o) (by omega)
        refine wpS_bind (bey_ok hk S.gk hy gy ?_)
        dsimp only
        cases e : C.bey left k y with
        | true =>
          simp only [if_true]
          exact wpS_pure ⟨rfl, rfl, h3, h5, h6, .inr ⟨y, hy, e⟩⟩
        | false =>
          simp only [Bool.false_eq_true, if_false]
          exact wpS_pure ⟨rfl, rfl, by dsimp only; omega, by dsimp only; omega, by dsimp only; omega, ⟨y, hy, e⟩⟩
    case post2 =>
      rintro ⟨a, l, o⟩ st' ⟨rfl, h2, h3, h5, h6, h7⟩
      dsimp only at h2 h3 h5 h6 h7 ⊢
      subst h2
      dsimp only
      refine wpS_bind (wpS_mono (bin_ok (lo := hint + 1 - min o (hint + 1)) (hi := hint - l) S ⟨by omega, by omega, λ i hi => (by
        rcases h7 with h7 | h7
        . omega
        . exact S.up (j := hint - o) (by omega) (by omega) h7), λ i hi hin => S.dn (i := hint - l) (by omega) hin h6⟩ (λ x l u Q' hge q => ?a1) (λ x l u y Q' hlt hy gy q => ?a2)) ?a3)
      case a1 =>
        dsimp only
        rw [if_pos hge]
        exact wpS_pure q
      case a2 =>
        dsimp only
        rw [if_neg (by omega)]
        refine wpS_bind (bey_ok hk S.gk hy gy ?_)
        dsimp only
        cases e : C.bey left k y with
        | true => rw [e] at q; simp only [if_true] at q ⊢; exact wpS_pure q
        | false => rw [e] at q; simp only [Bool.false_eq_true, if_false] at q ⊢; exact wpS_pure q
      case a3 =>
        rintro ⟨a, l2, u2⟩ st2 ⟨rfl, z2, z3⟩
        dsimp only at z2 z3 ⊢
        subst z2
        exact wpS_pure (h _ z3)
end
end Tim
namespace Tim
open PySem PyProof.Rows
abbrev mLo : Array Keyed -> Array Keyed -> StateT SortSt Sem (Array Keyed) := sortPriv% PySem.Builtin.mergeLo
abbrev mHi : Array Keyed -> Array Keyed -> StateT SortSt Sem (Array Keyed) := sortPriv% PySem.Builtin.mergeHi
abbrev setG : Nat -> StateT SortSt Sem Unit := sortPriv% PySem.Builtin.setMinGallop
def SG (st st' : SortSt) : Prop := ∃ g, st' = SortSt.mk' (kindOf st) (arrOf st) (pendingOf st) g (failedOf st)
theorem SG.refl (st : SortSt) : SG st st := ⟨gallopOf st, rfl⟩
theorem SG.set {st st' : SortSt} (h : SG st st') (g : Nat) : SG st (SortSt.mk' (kindOf st') (arrOf st') (pendingOf st') g (failedOf st')) := by
  obtain ⟨g0, rfl⟩ := h
  exact ⟨g, rfl⟩
theorem SG.kind {st st' : SortSt} (h : SG st st') : kindOf st' = kindOf st := by
  obtain ⟨g0, rfl⟩ := h
  rfl
section
variable {M : Model} {A : Around} {E : Value -> Shared -> Prop} {s : Shared} {C : Cmp M A E s}
theorem el_ok {arr : Array Keyed} {i : Nat} {x : Keyed} {st : SortSt} {Q : Keyed -> SortSt -> Prop} (hx : arr[i]? = some x) (h : Q x st) : wpS M A E s (elem' arr i) Q st := by
  rw [elem'_eq, hx]
  exact wpS_pure h
theorem setg_ok {g : Nat} {st : SortSt} {Q : Unit -> SortSt -> Prop} (h : Q () (SortSt.mk' (kindOf st) (arrOf st) (pendingOf st) g (failedOf st))) : wpS M A E s (setG g) Q st := wpS_modify h
theorem rule_ok {n : String} {st : SortSt} {Q : Unit -> SortSt -> Prop} (h : Q () st) : wpS M A E s (liftM (rule n) : StateT SortSt Sem Unit) Q st := wpS_lift (wpAny_rule ⟨rfl, h⟩)
def Srt (C : Cmp M A E s) (a : Array Keyed) : Prop := ∀ (i j : Nat) x y, i <= j -> a[i]? = some x -> a[j]? = some y -> C.le x y
structure MH (C : Cmp M A E s) (a b : Array Keyed) : Prop where
  ga : ∀ (i : Nat) x, a[i]? = some x -> C.good x
  gb : ∀ (i : Nat) x, b[i]? = some x -> C.good x
  sa : Srt C a
  sb : Srt C b
  na : 0 < a.size
  nb : 0 < b.size
  fst : ∀ x y, b[0]? = some x -> a[0]? = some y -> C.le x y
  lst : ∀ (i : Nat) x y, b[i]? = some x -> a[a.size - 1]? = some y -> C.le x y
structure ML (C : Cmp M A E s) (a b out : Array Keyed) (ia ib : Nat) : Prop where
  ba : ia <= a.size
  bb : ib <= b.size
  perm : out.toList.Perm (a.toList.take ia ++ b.toList.take ib)
  srt : out.toList.Pairwise C.le
  lea : ∀ x ∈ out.toList, ∀ (i : Nat) y, ia <= i -> a[i]? = some y -> C.le x y
  leb : ∀ x ∈ out.toList, ∀ (i : Nat) y, ib <= i -> b[i]? = some y -> C.le x y
def Res (C : Cmp M A E s) (a b r : Array Keyed) : Prop := r.toList.Perm (a.toList ++ b.toList) /\ r.toList.Pairwise C.le
theorem ML.size {a b out : Array Keyed} {ia ib : Nat} (h : ML C a b out ia ib) : out.size = ia + ib := by
  have := h.perm.length_eq
  simp only [Array.length_toList, List.length_append, List.length_take] at this
  have h1 := h.ba
  have h2 := h.bb
  omega
theorem take_succ_of {a : Array Keyed} {i : Nat} {x : Keyed} (h : a[i]? = some x) : a.toList.take (i + 1) = a.toList.take i ++ [x] := by
  rw [List.take_add_one]
  have : a.toList[i]? = some x := by simpa using h
  rw [this]
  rfl
theorem take_add_of (a : Array Keyed) (i k : Nat) : a.toList.take (i + k) = a.toList.take i ++ (a.extract i (i + k)).toList := by
  rw [List.take_add]
  congr 1
  simp [Array.toList_extract, List.extract]
theorem mem_extract {a : Array Keyed} {i j : Nat} {x : Keyed} (h : x ∈ (a.extract i j).toList) : ∃ k, i <= k /\ k < j /\ a[k]? = some x := by
  obtain ⟨n, hn⟩ := List.mem_iff_getElem?.mp h
  rw [Array.getElem?_toList] at hn
  rw [Array.getElem?_extract] at hn
  split at hn
  . exact ⟨i + n, by omega, by omega, hn⟩
  . cases hn
theorem Srt.extract {a : Array Keyed} (h : Srt C a) (i j : Nat) : (a.extract i j).toList.Pairwise C.le := by
  rw [List.pairwise_iff_getElem]
  intro p q hp hq hpq
  have e1 : (a.extract i j)[p]? = some (a.extract i j).toList[p] := by rw [<- Array.getElem?_toList]; exact List.getElem?_eq_getElem hp
  have e2 : (a.extract i j)[q]? = some (a.extract i j).toList[q] := by rw [<- Array.getElem?_toList]; exact List.getElem?_eq_getElem hq
  rw [Array.getElem?_extract] at e1 e2
  split at e1
  . split at e2
    . exact h _ _ _ _ (by omega) e1 e2
    . cases e2
  . cases e1
theorem perm_mid {l p q r : List Keyed} {x : Keyed} (h : l.Perm (p ++ q)) : (l ++ [x]).Perm ((p ++ [x]) ++ q) := by
  have h1 : (l ++ [x]).Perm ((p ++ q) ++ [x]) := h.append_right [x]
  refine h1.trans ?_
  rw [List.append_assoc, List.append_assoc]
  exact List.Perm.append_left p List.perm_append_comm
theorem perm_mid2 {l p q r : List Keyed} (h : l.Perm (p ++ q)) : (l ++ r).Perm ((p ++ r) ++ q) := by
  have h1 : (l ++ r).Perm ((p ++ q) ++ r) := h.append_right r
  refine h1.trans ?_
  rw [List.append_assoc, List.append_assoc]
  exact List.Perm.append_left p List.perm_append_comm
theorem ML.pushB {a b out : Array Keyed} {ia ib : Nat} {y : Keyed} (h : ML C a b out ia ib) (S : Srt C b) (hy : b[ib]? = some y) (g : ∀ (i : Nat) x, ia <= i -> a[i]? = some x -> C.le y x) : ML C a b (out.push y) ia (ib + 1) := by
  have hl : ib < b.size := (Array.getElem?_eq_some_iff.mp hy).1
  refine ⟨h.ba, hl, ?_, ?_, λ x hx i z hi hz => ?_, λ x hx i z hi hz => ?_⟩
  . rw [Array.toList_push, take_succ_of hy, <- List.append_assoc]
    exact h.perm.append_right [y]
  . rw [Array.toList_push, List.pairwise_append]
    refine ⟨h.srt, List.pairwise_singleton _ _, λ x hx z hz => ?_⟩
    rw [List.mem_singleton.mp hz]
    exact h.leb x hx ib y (Nat.le_refl _) hy
  . rw [Array.toList_push] at hx
    rcases List.mem_append.mp hx with q | q
    . exact h.lea x q i z hi hz
    . rw [List.mem_singleton.mp q]; exact g i z hi hz
  . rw [Array.toList_push] at hx
    rcases List.mem_append.mp hx with q | q
    . exact h.leb x q i z (by omega) hz
    . rw [List.mem_singleton.mp q]; exact S ib i y z (by omega) hy hz
theorem ML.pushA {a b out : Array Keyed} {ia ib : Nat} {y : Keyed} (h : ML C a b out ia ib) (S : Srt C a) (hy : a[ia]? = some y) (g : ∀ (i : Nat) x, ib <= i -> b[i]? = some x -> C.le y x) : ML C a b (out.push y) (ia + 1) ib := by
  have hl : ia < a.size := (Array.getElem?_eq_some_iff.mp hy).1
  refine ⟨hl, h.bb, ?_, ?_, λ x hx i z hi hz => ?_, λ x hx i z hi hz => ?_⟩
  . rw [Array.toList_push, take_succ_of hy]
    exact perm_mid (r := []) h.perm
  . rw [Array.toList_push, List.pairwise_append]
    refine ⟨h.srt, List.pairwise_singleton _ _, λ x hx z hz => ?_⟩
    rw [List.mem_singleton.mp hz]
    exact h.lea x hx ia y (Nat.le_refl _) hy
  . rw [Array.toList_push] at hx
    rcases List.mem_append.mp hx with q | q
    . exact h.lea x q i z (by omega) hz
    . rw [List.mem_singleton.mp q]; exact S ia i y z (by omega) hy hz
  . rw [Array.toList_push] at hx
    rcases List.mem_append.mp hx with q | q
    . exact h.leb x q i z hi hz
    . rw [List.mem_singleton.mp q]; exact g i z hi hz
theorem ML.takeA {a b out : Array Keyed} {ia ib k : Nat} (h : ML C a b out ia ib) (S : Srt C a) (hk : ia + k <= a.size) (g : ∀ (i j : Nat) x y, ia <= i -> i < ia + k -> ib <= j -> a[i]? = some x -> b[j]? = some y -> C.le x y) :
    ML C a b (out ++ a.extract ia (ia + k)) (ia + k) ib := by
  refine ⟨hk, h.bb, ?_, ?_, λ x hx i z hi hz => ?_, λ x hx i z hi hz => ?_⟩
  . rw [Array.toList_append, take_add_of]
    exact perm_mid2 h.perm
  . rw [Array.toList_append, List.pairwise_append]
    refine ⟨h.srt, S.extract _ _, λ x hx z hz => ?_⟩
    obtain ⟨j, h1, h2, h3⟩ := mem_extract hz
    exact h.lea x hx j z h1 h3
  . rw [Array.toList_append] at hx
    rcases List.mem_append.mp hx with q | q
    . exact h.lea x q i z (by omega) hz
    . obtain ⟨j, h1, h2, h3⟩ := mem_extract q
      exact S j i x z (by omega) h3 hz
  . rw [Array.toList_append] at hx
    rcases List.mem_append.mp hx with q | q
    . exact h.leb x q i z hi hz
    . obtain ⟨j, h1, h2, h3⟩ := mem_extract q
      exact g j i x z h1 h2 hi h3 hz
theorem ML.takeB {a b out : Array Keyed} {ia ib k : Nat} (h : ML C a b out ia ib) (S : Srt C b) (hk : ib + k <= b.size) (g : ∀ (i j : Nat) x y, ib <= i -> i < ib + k -> ia <= j -> b[i]? = some x -> a[j]? = some y -> C.le x y) :
    ML C a b (out ++ b.extract ib (ib + k)) ia (ib + k) := by
  refine ⟨h.ba, hk, ?_, ?_, λ x hx i z hi hz => ?_, λ x hx i z hi hz => ?_⟩
  . rw [Array.toList_append, take_add_of, <- List.append_assoc]
    exact h.perm.append_right _
  . rw [Array.toList_append, List.pairwise_append]
    refine ⟨h.srt, S.extract _ _, λ x hx z hz => ?_⟩
    obtain ⟨j, h1, h2, h3⟩ := mem_extract hz
    exact h.leb x hx j z h1 h3
  . rw [Array.toList_append] at hx
    rcases List.mem_append.mp hx with q | q
    . exact h.lea x q i z hi hz
    . obtain ⟨j, h1, h2, h3⟩ := mem_extract q
      exact g j i x z h1 h2 hi h3 hz
  . rw [Array.toList_append] at hx
    rcases List.mem_append.mp hx with q | q
    . exact h.leb x q i z (by omega) hz
    . obtain ⟨j, h1, h2, h3⟩ := mem_extract q
      exact S j i x z (by omega) h3 hz
theorem take_all_of (a : Array Keyed) {i : Nat} (h : i <= a.size) : a.toList.take i ++ (a.extract i).toList = a.toList := by
  have e := take_add_of a i (a.size - i)
  have z : i + (a.size - i) = a.size := by omega
  rw [z] at e
  rw [<- e]
  have : a.size = a.toList.length := by simp
  rw [this, List.take_length]
theorem ML.fin {a b out : Array Keyed} {ia ib : Nat} (h : ML C a b out ia ib) (sa : Srt C a) (sb : Srt C b) (g : ∀ (i j : Nat) x y, ib <= i -> ia <= j -> b[i]? = some x -> a[j]? = some y -> C.le x y) : Res C a b (out ++ b.extract ib ++ a.extract ia) := by
  refine ⟨?_, ?_⟩
  . rw [Array.toList_append, Array.toList_append]
    have h1 : (out.toList ++ (b.extract ib).toList ++ (a.extract ia).toList).Perm ((a.toList.take ia ++ b.toList.take ib) ++ (b.extract ib).toList ++ (a.extract ia).toList) := (h.perm.append_right _).append_right _
    refine h1.trans ?_
    rw [List.append_assoc (a.toList.take ia), take_all_of b h.bb]
    refine (perm_mid2 (List.Perm.refl _)).trans ?_
    rw [take_all_of a h.ba]
  . rw [Array.toList_append, Array.toList_append, List.pairwise_append, List.pairwise_append]
    refine ⟨⟨h.srt, sb.extract _ _, λ x hx y hy => ?_⟩, sa.extract _ _, λ x hx y hy => ?_⟩
    . obtain ⟨j, h1, h2, h3⟩ := mem_extract hy
      exact h.leb x hx j y h1 h3
    . obtain ⟨j, h1, h2, h3⟩ := mem_extract hy
      rcases List.mem_append.mp hx with q | q
      . exact h.lea x q j y h1 h3
      . obtain ⟨i, g1, g2, g3⟩ := mem_extract q
        exact g i j x y g1 h1 g3 h3
theorem ML.fin2 {a b out : Array Keyed} {ia ib : Nat} (h : ML C a b out ia ib) (sa : Srt C a) (sb : Srt C b) (g : ∀ (i j : Nat) x y, ia <= i -> ib <= j -> a[i]? = some x -> b[j]? = some y -> C.le x y) : Res C a b (out ++ a.extract ia ++ b.extract ib) := by
  refine ⟨?_, ?_⟩
  . rw [Array.toList_append, Array.toList_append]
    have h1 : (out.toList ++ (a.extract ia).toList ++ (b.extract ib).toList).Perm ((a.toList.take ia ++ b.toList.take ib) ++ (a.extract ia).toList ++ (b.extract ib).toList) := (h.perm.append_right _).append_right _
    refine h1.trans ?_
    refine ((perm_mid2 (List.Perm.refl _)).append_right _).trans ?_
    rw [take_all_of a h.ba, List.append_assoc, take_all_of b h.bb]
  . rw [Array.toList_append, Array.toList_append, List.pairwise_append, List.pairwise_append]
    refine ⟨⟨h.srt, sa.extract _ _, λ x hx y hy => ?_⟩, sb.extract _ _, λ x hx y hy => ?_⟩
    . obtain ⟨j, h1, h2, h3⟩ := mem_extract hy
      exact h.lea x hx j y h1 h3
    . obtain ⟨j, h1, h2, h3⟩ := mem_extract hy
      rcases List.mem_append.mp hx with q | q
      . exact h.leb x q j y h1 h3
      . obtain ⟨i, g1, g2, g3⟩ := mem_extract q
        exact g i j x y g1 h1 g3 h3
end
end Tim
namespace Tim
open PySem PyProof.Rows
section
variable {M : Model} {A : Around} {E : Value -> Shared -> Prop} {s : Shared} {C : Cmp M A E s}
structure MT (C : Cmp M A E s) (a b out : Array Keyed) (ia ib : Nat) : Prop extends ML C a b out ia ib where
  la : ia + 1 < a.size
  lb : ib < b.size
theorem MH.srchA {a b : Array Keyed} (h : MH C a b) {ia : Nat} (ha : ia <= a.size) {k : Keyed} (gk : C.good k) (left : Bool) : Srch C left k a ia (a.size - ia) :=
  ⟨gk, h.ga, by omega, λ i j x y hij hj hx hy => C.bey_mono (h.sa _ _ x y (by omega) hx hy)⟩
theorem MH.srchB {a b : Array Keyed} (h : MH C a b) {ib : Nat} (hb : ib <= b.size) {k : Keyed} (gk : C.good k) (left : Bool) : Srch C left k b ib (b.size - ib) :=
  ⟨gk, h.gb, by omega, λ i j x y hij hj hx hy => C.bey_mono (h.sb _ _ x y (by omega) hx hy)⟩
theorem bey_r {k x : Keyed} (h : C.bey false k x = true) : C.le x k := by
  unfold Cmp.bey at h
  simpa [Cmp.le] using h
theorem bey_rf {k x : Keyed} (h : C.bey false k x = false) : C.le k x := by
  unfold Cmp.bey at h
  exact C.le_of_lt (by simpa using h)
theorem bey_l {k x : Keyed} (h : C.bey true k x = true) : C.le x k := by
  unfold Cmp.bey at h
  exact C.le_of_lt (by simpa using h)
theorem bey_lf {k x : Keyed} (h : C.bey true k x = false) : C.le k x := by
  unfold Cmp.bey at h
  simpa [Cmp.le] using h
theorem Cut.lowA {left : Bool} {k : Keyed} {a : Array Keyed} {ia n c : Nat} (z : Cut C left k a ia n c c) {i : Nat} {x : Keyed} (h1 : ia <= i) (h2 : i < ia + c) (hx : a[i]? = some x) : C.bey left k x = true := by
  obtain ⟨y, hy, b⟩ := z.below (i - ia) (by omega)
  rw [show ia + (i - ia) = i by omega, hx] at hy
  cases hy
  exact b
theorem Cut.highA {left : Bool} {k : Keyed} {a : Array Keyed} {ia n c : Nat} (z : Cut C left k a ia n c c) {i : Nat} {x : Keyed} (h1 : ia + c <= i) (h2 : i < ia + n) (hx : a[i]? = some x) : C.bey left k x = false := by
  obtain ⟨y, hy, b⟩ := z.above (i - ia) (by omega) (by omega)
  rw [show ia + (i - ia) = i by omega, hx] at hy
  cases hy
  exact b
theorem lt_size {a : Array Keyed} {i : Nat} {x : Keyed} (h : a[i]? = some x) : i < a.size := (Array.getElem?_eq_some_iff.mp h).1
theorem getA {a : Array Keyed} {i : Nat} (h : i < a.size) : ∃ x, a[i]? = some x := ⟨a[i], Array.getElem?_eq_getElem h⟩
theorem MT.gA {a b out : Array Keyed} {ia ib c : Nat} {y : Keyed} (h : MH C a b) (m : ML C a b out ia ib) (hy : b[ib]? = some y) (z : Cut C false y a ia (a.size - ia) c c) : ML C a b (out ++ a.extract ia (ia + c)) (ia + c) ib :=
  m.takeA h.sa (by have := z.hn; have := m.ba; omega) λ i j x w h1 h2 h3 hx hw => C.le_trans (bey_r (z.lowA h1 h2 hx)) (h.sb ib j y w h3 hy hw)
theorem MT.gA0 {a b out : Array Keyed} {ia ib : Nat} {y : Keyed} (h : MH C a b) (m : ML C a b out ia ib) (hy : b[ib]? = some y) (g : ∀ (i : Nat) x, ia <= i -> a[i]? = some x -> C.le y x) : ML C a b (out.push y) ia (ib + 1) := m.pushB h.sb hy g
theorem MT.gB {a b out : Array Keyed} {ia ib c : Nat} {x : Keyed} (h : MH C a b) (m : ML C a b out ia ib) (hx : a[ia]? = some x) (z : Cut C true x b ib (b.size - ib) c c) : ML C a b (out ++ b.extract ib (ib + c)) ia (ib + c) :=
  m.takeB h.sb (by have := z.hn; have := m.bb; omega) λ i j y w h1 h2 h3 hy hw => C.le_trans (bey_l (z.lowA h1 h2 hy)) (h.sa ia j x w h3 hx hw)
theorem ML.endA {a b out : Array Keyed} {ia ib : Nat} (h : MH C a b) (m : ML C a b out ia ib) (e : ia + 1 = a.size) : Res C a b (out ++ b.extract ib ++ a.extract ia) :=
  m.fin h.sa h.sb λ i j x y h1 h2 hx hy => by
    have := lt_size hy
    have e2 : j = a.size - 1 := by omega
    subst e2
    exact h.lst i x y hx hy
theorem ML.endB {a b out : Array Keyed} {ia ib : Nat} (h : MH C a b) (m : ML C a b out ia ib) (e : ib = b.size) : Res C a b (out ++ a.extract ia ++ b.extract ib) :=
  m.fin2 h.sa h.sb λ i j x y h1 h2 hx hy => by have := lt_size hy; omega
theorem ML.endA0 {a b out : Array Keyed} {ia ib : Nat} (h : MH C a b) (m : ML C a b out ia ib) (e : ia = a.size) : Res C a b (out ++ a.extract ia ++ b.extract ib) :=
  m.fin2 h.sa h.sb λ i j x y h1 h2 hx hy => by have := lt_size hx; omega
theorem mLo_ok {a b : Array Keyed} {st : SortSt} {Q : Array Keyed -> SortSt -> Prop} (h : MH C a b) (hk : kindOf st = C.kd) (hQ : ∀ r st', Res C a b r -> SG st st' -> Q r st') : wpS M A E s (mLo a b) Q st := by
  unfold mLo
  k_delta "mergeLo"
  dsimp only
  obtain ⟨b0, hb0⟩ := getA h.nb
  refine wpS_bind (rule_ok (wpS_bind (el_ok hb0 ?_)))
  have m0 : ML C a b #[b0] 0 1 := by
    have z : ML C a b #[] 0 0 := ⟨Nat.zero_le _, Nat.zero_le _, by simp, List.Pairwise.nil, λ x hx => by simp at hx, λ x hx => by simp at hx⟩
    refine z.pushB h.sb hb0 λ i x _ hx => ?_
    obtain ⟨a0, ha0⟩ := getA h.na
    exact C.le_trans (h.fst b0 a0 hb0 ha0) (h.sa 0 i a0 x (Nat.zero_le _) ha0 hx)
  by_cases e1 : (1 == b.size) = true
  . rw [if_pos e1]
    exact wpS_pure (hQ _ _ (m0.endB h (by simpa using e1)) (SG.refl _))
  rw [if_neg e1]
  by_cases e2 : (0 + 1 == a.size) = true
  . rw [if_pos e2]
    exact wpS_pure (hQ _ _ (m0.endA h (by simpa using e2)) (SG.refl _))
  rw [if_neg e2]
  have e1' : 1 < b.size := by have := h.nb; simp at e1; omega
  have e2' : 0 + 1 < a.size := by have := h.na; simp at e2; omega
  refine wpS_bind (wpS_get ?_)
  refine wpS_bind (wpS_mono (wpS_forRange
    (I := λ x c st' => SG st st' /\ c.1 = none /\ MT C a b c.2.1 c.2.2.1 c.2.2.2.1 /\ x + 1 <= c.2.1.size)
    (Q := λ c st' => SG st st' /\ ∃ r, c.1 = some r /\ Res C a b r) ?step ?fin ?start) ?post)
  case start => exact ⟨SG.refl _, rfl, ⟨m0, e2', e1'⟩, by show 0 + 1 <= 1; omega⟩
  case fin =>
    rintro ⟨o, out, ia, ib, mg⟩ st' ⟨g, h1, h2, h3⟩
    dsimp only at h1 h2 h3
    have := h2.size
    have := h2.la
    have := h2.lb
    omega
  case post =>
    rintro ⟨o, out, ia, ib, mg⟩ st' ⟨g, r, h1, h2⟩
    dsimp only at h1 ⊢
    subst h1
    exact wpS_pure (hQ _ _ h2 g)
  case step =>
    rintro x ⟨o, out, ia, ib, mg⟩ st' _ hx ⟨g, h1, h2, h3⟩
    dsimp only at h1 h2 h3 ⊢
    subst h1
    refine wpS_bind (wpS_mono (wpS_forRange
      (I := λ x c st' => SG st st' /\ c.1 = none /\ MT C a b c.2.1 c.2.2.1 c.2.2.2.1 /\ out.size + x <= c.2.1.size)
      (Q := λ c st' => SG st st' /\ ((∃ r, c.1 = some r /\ Res C a b r) \/ (c.1 = none /\ MT C a b c.2.1 c.2.2.1 c.2.2.2.1 /\ out.size + 1 <= c.2.1.size))) ?step1 ?fin1 ?start1) ?post1)
    case start1 => exact ⟨g, rfl, h2, Nat.le_refl _⟩
    case fin1 =>
      rintro ⟨o, out1, ia1, ib1, ac, bc⟩ st1 ⟨g1, p1, p2, p3⟩
      dsimp only at p1 p2 p3 ⊢
      exact ⟨g1, .inr ⟨p1, p2, by have := p2.la; omega⟩⟩
    case step1 =>
      rintro y ⟨o, out1, ia1, ib1, ac, bc⟩ st1 _ hy ⟨g1, p1, p2, p3⟩
      dsimp only at p1 p2 p3 ⊢
      subst p1
      have la := p2.la
      have lb := p2.lb
      obtain ⟨ya, hya⟩ := getA (a := a) (i := ia1) (by omega)
      obtain ⟨yb, hyb⟩ := getA (a := b) (i := ib1) lb
      refine wpS_bind (el_ok hyb (wpS_bind (el_ok hya (wpS_bind (C.lt _ _ _ _ (g1.kind.trans hk) (h.gb _ _ hyb) (h.ga _ _ hya) ?_)))))
      dsimp only
      cases e : C.blt (C.key yb) (C.key ya) with
      | true =>
        simp only [if_true]
        have m1 : ML C a b (out1.push yb) ia1 (ib1 + 1) := p2.toML.pushB h.sb hyb λ i z hi hz => C.le_trans (C.le_of_lt e) (h.sa _ _ _ _ hi hya hz)
        refine wpS_bind (el_ok hyb ?_)
        by_cases c1 : (ib1 + 1 == b.size) = true
        . rw [if_pos c1]
          exact wpS_pure ⟨g1, .inl ⟨_, rfl, m1.endB h (by simpa using c1)⟩⟩
        . rw [if_neg c1]
          have c1' : ib1 + 1 < b.size := by simp at c1; omega
          have sz : out.size + (y + 1) <= (out1.push yb).size := by rw [Array.size_push]; omega
          split
          . exact wpS_pure ⟨g1, .inr ⟨rfl, ⟨m1, la, c1'⟩, by dsimp only; omega⟩⟩
          . exact wpS_pure ⟨g1, rfl, ⟨m1, la, c1'⟩, sz⟩
      | false =>
        simp only [Bool.false_eq_true, if_false]
        have m1 : ML C a b (out1.push ya) (ia1 + 1) ib1 := p2.toML.pushA h.sa hya λ i z hi hz => C.le_trans e (h.sb _ _ _ _ hi hyb hz)
        refine wpS_bind (el_ok hya ?_)
        by_cases c1 : (ia1 + 1 + 1 == a.size) = true
        . rw [if_pos c1]
          exact wpS_pure ⟨g1, .inl ⟨_, rfl, m1.endA h (by simpa using c1)⟩⟩
        . rw [if_neg c1]
          have c1' : ia1 + 1 + 1 < a.size := by simp at c1; omega
          have sz : out.size + (y + 1) <= (out1.push ya).size := by rw [Array.size_push]; omega
          split
          . exact wpS_pure ⟨g1, .inr ⟨rfl, ⟨m1, c1', lb⟩, by dsimp only; omega⟩⟩
          . exact wpS_pure ⟨g1, rfl, ⟨m1, c1', lb⟩, sz⟩
    case post1 =>
      rintro ⟨o, out1, ia1, ib1, ac, bc⟩ st1 ⟨g1, p⟩
      dsimp only at p ⊢
      rcases p with ⟨r, p1, p2⟩ | ⟨p1, p2, p3⟩
      . subst p1
        exact wpS_pure ⟨g1, r, rfl, p2⟩
      . subst p1
        dsimp only
        refine wpS_bind (rule_ok ?_)
        refine wpS_bind (wpS_mono (wpS_forRange
          (I := λ x c st' => SG st st' /\ c.1 = none /\ MT C a b c.2.1 c.2.2.1 c.2.2.2.1 /\ out1.size <= c.2.1.size)
          (Q := λ c st' => SG st st' /\ ((∃ r, c.1 = some r /\ Res C a b r) \/ (c.1 = none /\ MT C a b c.2.1 c.2.2.1 c.2.2.2.1 /\ out1.size <= c.2.1.size))) ?step2 ?fin2 ?start2) ?post2)
        case start2 => exact ⟨g1, rfl, p2, Nat.le_refl _⟩
        case fin2 =>
          rintro ⟨o, out2, ia2, ib2, mg2, ac2, bc2⟩ st2 ⟨g2, q1, q2, q3⟩
          exact ⟨g2, .inr ⟨q1, q2, q3⟩⟩
        case post2 =>
          rintro ⟨o, out2, ia2, ib2, mg2, ac2, bc2⟩ st2 ⟨g2, q⟩
          dsimp only at q ⊢
          rcases q with ⟨r, q1, q2⟩ | ⟨q1, q2, q3⟩
          . subst q1
            exact wpS_pure ⟨g2, r, rfl, q2⟩
          . subst q1
            dsimp only
            refine wpS_bind (setg_ok ?_)
            exact wpS_pure ⟨g2.set _, rfl, q2, by dsimp only; omega⟩
        case step2 =>
          rintro y ⟨o, out2, ia2, ib2, mg2, ac2, bc2⟩ st2 _ hy ⟨g2, q1, q2, q3⟩
          dsimp only at q1 q2 q3 ⊢
          subst q1
          have la := q2.la
          have lb := q2.lb
          obtain ⟨yb, hyb⟩ := getA (a := b) (i := ib2) lb
          by_cases hm : mg2 > 1
          case' pos => rw [if_pos hm]
          case' neg => rw [if_neg hm]
          all_goals
            refine wpS_bind (setg_ok ?_)
            refine wpS_bind (el_ok hyb ?_)
            refine wpS_bind (gal_ok (h.srchA (by omega) (h.gb _ _ hyb) false) (g2.kind.trans hk) (by omega) λ c z => ?_)
            dsimp only
            have mA := MT.gA h q2.toML hyb z
            have hA : ∀ (i : Nat) x, ia2 + c <= i -> a[i]? = some x -> C.le yb x := λ i x hi hx => bey_rf (z.highA hi (by have := lt_size hx; omega) hx)
            have zn := z.hn
            have mB := MT.gA0 h mA hyb hA
            by_cases hc : c > 0
            case' pos =>
              rw [if_pos hc]
              by_cases c1 : (ia2 + c + 1 == a.size) = true
              case' pos =>
                rw [if_pos c1]
                exact wpS_pure ⟨g2.set _, .inl ⟨_, rfl, mA.endA h (by simpa using c1)⟩⟩
              rw [if_neg c1]
              by_cases c2 : (ia2 + c == a.size) = true
              case' pos =>
                rw [if_pos c2]
                exact wpS_pure ⟨g2.set _, .inl ⟨_, rfl, mA.endA0 h (by simpa using c2)⟩⟩
              rw [if_neg c2]
              have la2 : ia2 + c + 1 < a.size := by simp at c1 c2; omega
            case' neg =>
              rw [if_neg hc]
              have c0 : c = 0 := by omega
              subst c0
              have ex : out2 ++ a.extract ia2 (ia2 + 0) = out2 := by simp <;> omega
              rw [ex] at mA mB
              have la2 : ia2 + 0 + 1 < a.size := la
              have e0 : ia2 + 0 = ia2 := rfl
              rw [e0] at mA mB la2
            all_goals
              refine wpS_bind (el_ok hyb ?_)
              by_cases c3 : (ib2 + 1 == b.size) = true
              case' pos =>
                rw [if_pos c3]
                exact wpS_pure ⟨g2.set _, .inl ⟨_, rfl, mB.endB h (by simpa using c3)⟩⟩
              rw [if_neg c3]
              have lb2 : ib2 + 1 < b.size := by simp at c3; omega
              obtain ⟨ya, hya⟩ := getA (a := a) (i := _) (Nat.lt_of_succ_lt la2)
              refine wpS_bind (el_ok hya ?_)
              refine wpS_bind (gal_ok (h.srchB (by omega) (h.ga _ _ hya) true) ((g2.set _).kind.trans hk) (by omega) λ d z2 => ?_)
              dsimp only
              have mC := MT.gB h mB hya z2
              have zn2 := z2.hn
              have hB : ∀ (i : Nat) x, ib2 + 1 + d <= i -> b[i]? = some x -> C.le ya x := λ i x hi hx => bey_lf (z2.highA hi (by have := lt_size hx; omega) hx)
              have mD := mC.pushA h.sa hya hB
              have sz := mD.size
              have sz0 := q2.size
              by_cases hd : d > 0
              case' pos =>
                rw [if_pos hd]
                by_cases c4 : (ib2 + 1 + d == b.size) = true
                case' pos =>
                  rw [if_pos c4]
                  exact wpS_pure ⟨g2.set _, .inl ⟨_, rfl, mC.endB h (by simpa using c4)⟩⟩
                rw [if_neg c4]
                have lb3 : ib2 + 1 + d < b.size := by simp at c4; omega
              case' neg =>
                rw [if_neg hd]
                have d0 : d = 0 := by omega
                subst d0
                have ex2 : ∀ o : Array Keyed, o ++ b.extract (ib2 + 1) (ib2 + 1 + 0) = o := λ o => by simp <;> omega
                rw [ex2] at mC mD sz
                have lb3 : ib2 + 1 < b.size := lb2
                have e0 : ib2 + 1 + 0 = ib2 + 1 := rfl
                rw [e0] at mC mD
              all_goals
                refine wpS_bind (el_ok hya ?_)
                split
                . rename_i c5
                  exact wpS_pure ⟨g2.set _, .inl ⟨_, rfl, mD.endA h (by simpa using c5)⟩⟩
                . rename_i c5
                  have la3 := mD.ba
                  split
                  . exact wpS_pure ⟨g2.set _, .inr ⟨rfl, ⟨mD, by simp at c5; dsimp only; omega, by dsimp only; omega⟩, by dsimp only; omega⟩⟩
                  . exact wpS_pure ⟨g2.set _, rfl, ⟨mD, by simp at c5; dsimp only; omega, by dsimp only; omega⟩, by dsimp only; omega⟩
end
end Tim
namespace Tim
open PySem PyProof.Rows
section
variable {M : Model} {A : Around} {E : Value -> Shared -> Prop} {s : Shared} {C : Cmp M A E s}
structure MR (C : Cmp M A E s) (a b out : Array Keyed) (na nb : Nat) : Prop where
  ba : na <= a.size
  bb : nb <= b.size
  perm : out.toList.Perm (a.toList.drop na ++ b.toList.drop nb)
  srt : out.toList.Pairwise λ x y => C.le y x
  lea : ∀ x ∈ out.toList, ∀ (i : Nat) y, i < na -> a[i]? = some y -> C.le y x
  leb : ∀ x ∈ out.toList, ∀ (i : Nat) y, i < nb -> b[i]? = some y -> C.le y x
theorem MR.size {a b out : Array Keyed} {na nb : Nat} (h : MR C a b out na nb) : out.size + na + nb = a.size + b.size := by
  have := h.perm.length_eq
  simp only [Array.length_toList, List.length_append, List.length_drop] at this
  have h1 := h.ba
  have h2 := h.bb
  omega
theorem drop_pred {a : Array Keyed} {n : Nat} {x : Keyed} (hn : 0 < n) (h : a[n - 1]? = some x) : a.toList.drop (n - 1) = x :: a.toList.drop n := by
  have hl := lt_size h
  have e : a.toList[n - 1]? = some x := by simpa using h
  have hl2 : n - 1 < a.toList.length := by simpa using hl
  rw [List.drop_eq_getElem_cons hl2]
  have : a.toList[n - 1] = x := by
    have := List.getElem?_eq_getElem hl2
    rw [e] at this
    exact (Option.some.inj this).symm
  rw [this]
  congr 2
  omega
theorem drop_cut (a : Array Keyed) {c n : Nat} (h : c <= n) : a.toList.drop c = (a.extract c n).toList ++ a.toList.drop n := by
  have e : (a.extract c n).toList = (a.toList.drop c).take (n - c) := by simp [Array.toList_extract, List.extract]
  rw [e]
  have z : a.toList.drop n = (a.toList.drop c).drop (n - c) := by rw [List.drop_drop]; congr 1; omega
  rw [z, List.take_append_drop]
theorem MR.pushA {a b out : Array Keyed} {na nb : Nat} {y : Keyed} (h : MR C a b out na nb) (S : Srt C a) (hn : 0 < na) (hy : a[na - 1]? = some y) (g : ∀ (i : Nat) x, i < nb -> b[i]? = some x -> C.le x y) : MR C a b (out.push y) (na - 1) nb := by
  have := h.ba
  refine ⟨by omega, h.bb, ?_, ?_, λ x hx i z hi hz => ?_, λ x hx i z hi hz => ?_⟩
  . rw [Array.toList_push, drop_pred hn hy]
    refine (h.perm.append_right [y]).trans ?_
    exact List.perm_append_comm
  . rw [Array.toList_push, List.pairwise_append]
    refine ⟨h.srt, List.pairwise_singleton _ _, λ x hx z hz => ?_⟩
    rw [List.mem_singleton.mp hz]
    exact h.lea x hx (na - 1) y (by omega) hy
  . rw [Array.toList_push] at hx
    rcases List.mem_append.mp hx with q | q
    . exact h.lea x q i z (by omega) hz
    . rw [List.mem_singleton.mp q]; exact S i (na - 1) z y (by omega) hz hy
  . rw [Array.toList_push] at hx
    rcases List.mem_append.mp hx with q | q
    . exact h.leb x q i z hi hz
    . rw [List.mem_singleton.mp q]; exact g i z hi hz
theorem MR.pushB {a b out : Array Keyed} {na nb : Nat} {y : Keyed} (h : MR C a b out na nb) (S : Srt C b) (hn : 0 < nb) (hy : b[nb - 1]? = some y) (g : ∀ (i : Nat) x, i < na -> a[i]? = some x -> C.le x y) : MR C a b (out.push y) na (nb - 1) := by
  have := h.bb
  refine ⟨h.ba, by omega, ?_, ?_, λ x hx i z hi hz => ?_, λ x hx i z hi hz => ?_⟩
  . rw [Array.toList_push, drop_pred hn hy]
    refine (h.perm.append_right [y]).trans ?_
    rw [List.append_assoc]
    exact List.Perm.append_left _ List.perm_append_comm
  . rw [Array.toList_push, List.pairwise_append]
    refine ⟨h.srt, List.pairwise_singleton _ _, λ x hx z hz => ?_⟩
    rw [List.mem_singleton.mp hz]
    exact h.leb x hx (nb - 1) y (by omega) hy
  . rw [Array.toList_push] at hx
    rcases List.mem_append.mp hx with q | q
    . exact h.lea x q i z hi hz
    . rw [List.mem_singleton.mp q]; exact g i z hi hz
  . rw [Array.toList_push] at hx
    rcases List.mem_append.mp hx with q | q
    . exact h.leb x q i z (by omega) hz
    . rw [List.mem_singleton.mp q]; exact S i (nb - 1) z y (by omega) hz hy
theorem MR.takeA {a b out : Array Keyed} {na nb c : Nat} (h : MR C a b out na nb) (S : Srt C a) (hc : c <= na) (g : ∀ (i j : Nat) x y, c <= i -> i < na -> j < nb -> a[i]? = some x -> b[j]? = some y -> C.le y x) :
    MR C a b (out ++ (a.extract c na).reverse) c nb := by
  have := h.ba
  refine ⟨by omega, h.bb, ?_, ?_, λ x hx i z hi hz => ?_, λ x hx i z hi hz => ?_⟩
  . rw [Array.toList_append, Array.toList_reverse, drop_cut a hc]
    refine (h.perm.append_right _).trans ?_
    refine List.perm_append_comm.trans ?_
    rw [<- List.append_assoc]
    exact ((List.reverse_perm _).append_right _).append_right _
  . rw [Array.toList_append, Array.toList_reverse, List.pairwise_append]
    refine ⟨h.srt, ?_, λ x hx z hz => ?_⟩
    . rw [List.pairwise_reverse]
      exact S.extract _ _
    . obtain ⟨j, h1, h2, h3⟩ := mem_extract (List.mem_reverse.mp hz)
      exact h.lea x hx j z h2 h3
  . rw [Array.toList_append, Array.toList_reverse] at hx
    rcases List.mem_append.mp hx with q | q
    . exact h.lea x q i z (by omega) hz
    . obtain ⟨j, h1, h2, h3⟩ := mem_extract (List.mem_reverse.mp q)
      exact S i j z x (by omega) hz h3
  . rw [Array.toList_append, Array.toList_reverse] at hx
    rcases List.mem_append.mp hx with q | q
    . exact h.leb x q i z hi hz
    . obtain ⟨j, h1, h2, h3⟩ := mem_extract (List.mem_reverse.mp q)
      exact g j i x z h1 h2 hi h3 hz
theorem MR.takeB {a b out : Array Keyed} {na nb c : Nat} (h : MR C a b out na nb) (S : Srt C b) (hc : c <= nb) (g : ∀ (i j : Nat) x y, c <= i -> i < nb -> j < na -> b[i]? = some x -> a[j]? = some y -> C.le y x) :
    MR C a b (out ++ (b.extract c nb).reverse) na c := by
  have := h.bb
  refine ⟨h.ba, by omega, ?_, ?_, λ x hx i z hi hz => ?_, λ x hx i z hi hz => ?_⟩
  . rw [Array.toList_append, Array.toList_reverse, drop_cut b hc]
    refine (h.perm.append_right _).trans ?_
    rw [List.append_assoc]
    refine List.Perm.append_left _ (List.perm_append_comm.trans ?_)
    exact (List.reverse_perm _).append_right _
  . rw [Array.toList_append, Array.toList_reverse, List.pairwise_append]
    refine ⟨h.srt, ?_, λ x hx z hz => ?_⟩
    . rw [List.pairwise_reverse]
      exact S.extract _ _
    . obtain ⟨j, h1, h2, h3⟩ := mem_extract (List.mem_reverse.mp hz)
      exact h.leb x hx j z h2 h3
  . rw [Array.toList_append, Array.toList_reverse] at hx
    rcases List.mem_append.mp hx with q | q
    . exact h.lea x q i z hi hz
    . obtain ⟨j, h1, h2, h3⟩ := mem_extract (List.mem_reverse.mp q)
      exact g j i x z h1 h2 hi h3 hz
  . rw [Array.toList_append, Array.toList_reverse] at hx
    rcases List.mem_append.mp hx with q | q
    . exact h.leb x q i z (by omega) hz
    . obtain ⟨j, h1, h2, h3⟩ := mem_extract (List.mem_reverse.mp q)
      exact S i j z x (by omega) hz h3
theorem ext_drop (a : Array Keyed) (n : Nat) : (a.extract 0 n).toList ++ a.toList.drop n = a.toList := by
  have := drop_cut a (Nat.zero_le n)
  rw [<- this]
  rfl
theorem MR.fin {a b out : Array Keyed} {na nb : Nat} (h : MR C a b out na nb) (sa : Srt C a) (sb : Srt C b) (g : ∀ (i j : Nat) x y, i < na -> j < nb -> a[i]? = some x -> b[j]? = some y -> C.le x y) : Res C a b (a.extract 0 na ++ b.extract 0 nb ++ out.reverse) := by
  refine ⟨?_, ?_⟩
  . rw [Array.toList_append, Array.toList_append, Array.toList_reverse]
    refine (List.Perm.append_left _ ((List.reverse_perm _).trans h.perm)).trans ?_
    have e : a.toList ++ b.toList = ((a.extract 0 na).toList ++ a.toList.drop na) ++ ((b.extract 0 nb).toList ++ b.toList.drop nb) := by rw [ext_drop, ext_drop]
    rw [e]
    generalize (a.extract 0 na).toList = p
    generalize (b.extract 0 nb).toList = q
    generalize a.toList.drop na = p'
    generalize b.toList.drop nb = q'
    rw [List.append_assoc, List.append_assoc]
    refine List.Perm.append_left p ?_
    rw [<- List.append_assoc, <- List.append_assoc]
    exact List.Perm.append_right q' List.perm_append_comm
  . rw [Array.toList_append, Array.toList_append, Array.toList_reverse, List.pairwise_append, List.pairwise_append, List.pairwise_reverse]
    refine ⟨⟨sa.extract _ _, sb.extract _ _, λ x hx y hy => ?_⟩, h.srt, λ x hx y hy => ?_⟩
    . obtain ⟨i, h1, h2, h3⟩ := mem_extract hx
      obtain ⟨j, g1, g2, g3⟩ := mem_extract hy
      exact g i j x y h2 g2 h3 g3
    . have hy := List.mem_reverse.mp hy
      rcases List.mem_append.mp hx with q | q
      . obtain ⟨i, h1, h2, h3⟩ := mem_extract q
        exact h.lea y hy i x h2 h3
      . obtain ⟨i, h1, h2, h3⟩ := mem_extract q
        exact h.leb y hy i x h2 h3
theorem MR.fin2 {a b out : Array Keyed} {na nb : Nat} (h : MR C a b out na nb) (sa : Srt C a) (sb : Srt C b) (g : ∀ (i j : Nat) x y, i < nb -> j < na -> b[i]? = some x -> a[j]? = some y -> C.le x y) : Res C a b (b.extract 0 nb ++ a.extract 0 na ++ out.reverse) := by
  refine ⟨?_, ?_⟩
  . rw [Array.toList_append, Array.toList_append, Array.toList_reverse]
    refine (List.Perm.append_left _ ((List.reverse_perm _).trans h.perm)).trans ?_
    have e : a.toList ++ b.toList = ((a.extract 0 na).toList ++ a.toList.drop na) ++ ((b.extract 0 nb).toList ++ b.toList.drop nb) := by rw [ext_drop, ext_drop]
    rw [e]
    generalize (a.extract 0 na).toList = p
    generalize (b.extract 0 nb).toList = q
    generalize a.toList.drop na = p'
    generalize b.toList.drop nb = q'
    have e1 : (q ++ p ++ (p' ++ q')).Perm (p ++ q ++ (p' ++ q')) := List.Perm.append_right _ List.perm_append_comm
    refine e1.trans ?_
    rw [List.append_assoc, List.append_assoc]
    refine List.Perm.append_left p ?_
    rw [<- List.append_assoc, <- List.append_assoc]
    exact List.Perm.append_right q' List.perm_append_comm
  . rw [Array.toList_append, Array.toList_append, Array.toList_reverse, List.pairwise_append, List.pairwise_append, List.pairwise_reverse]
    refine ⟨⟨sb.extract _ _, sa.extract _ _, λ x hx y hy => ?_⟩, h.srt, λ x hx y hy => ?_⟩
    . obtain ⟨i, h1, h2, h3⟩ := mem_extract hx
      obtain ⟨j, g1, g2, g3⟩ := mem_extract hy
      exact g i j x y h2 g2 h3 g3
    . have hy := List.mem_reverse.mp hy
      rcases List.mem_append.mp hx with q | q
      . obtain ⟨i, h1, h2, h3⟩ := mem_extract q
        exact h.leb y hy i x h2 h3
      . obtain ⟨i, h1, h2, h3⟩ := mem_extract q
        exact h.lea y hy i x h2 h3
theorem MR.endA {a b out : Array Keyed} {na nb : Nat} (h : MH C a b) (m : MR C a b out na nb) (e : na = 0) : Res C a b (a.extract 0 na ++ b.extract 0 nb ++ out.reverse) := m.fin h.sa h.sb λ i j x y h1 => by omega
theorem MR.endB {a b out : Array Keyed} {na nb : Nat} (h : MH C a b) (m : MR C a b out na nb) (e : nb = 0) : Res C a b (a.extract 0 na ++ b.extract 0 nb ++ out.reverse) := m.fin h.sa h.sb λ i j x y h1 h2 => by omega
theorem MR.endB1 {a b out : Array Keyed} {na nb : Nat} (h : MH C a b) (m : MR C a b out na nb) (e : nb = 1) : Res C a b (b.extract 0 nb ++ a.extract 0 na ++ out.reverse) := m.fin2 h.sa h.sb λ i j x y h1 h2 hx hy => by
  have e0 : i = 0 := by omega
  subst e0
  obtain ⟨a0, ha0⟩ := getA h.na
  exact C.le_trans (h.fst x a0 hx ha0) (h.sa 0 j a0 y (Nat.zero_le _) ha0 hy)
structure MS (C : Cmp M A E s) (a b out : Array Keyed) (na nb : Nat) : Prop extends MR C a b out na nb where
  la : 0 < na
  lb : 1 < nb
theorem MH.srchA0 {a b : Array Keyed} (h : MH C a b) {n : Nat} (hn : n <= a.size) {k : Keyed} (gk : C.good k) (left : Bool) : Srch C left k a 0 n :=
  ⟨gk, h.ga, by omega, λ i j x y hij hj hx hy => C.bey_mono (h.sa _ _ x y (by omega) hx hy)⟩
theorem MH.srchB0 {a b : Array Keyed} (h : MH C a b) {n : Nat} (hn : n <= b.size) {k : Keyed} (gk : C.good k) (left : Bool) : Srch C left k b 0 n :=
  ⟨gk, h.gb, by omega, λ i j x y hij hj hx hy => C.bey_mono (h.sb _ _ x y (by omega) hx hy)⟩
theorem Cut.low0 {left : Bool} {k : Keyed} {a : Array Keyed} {n c : Nat} (z : Cut C left k a 0 n c c) {i : Nat} {x : Keyed} (h2 : i < c) (hx : a[i]? = some x) : C.bey left k x = true := z.lowA (Nat.zero_le _) (by omega) hx
theorem Cut.high0 {left : Bool} {k : Keyed} {a : Array Keyed} {n c : Nat} (z : Cut C left k a 0 n c c) {i : Nat} {x : Keyed} (h1 : c <= i) (h2 : i < n) (hx : a[i]? = some x) : C.bey left k x = false := z.highA (by omega) (by omega) hx
theorem mHi_ok {a b : Array Keyed} {st : SortSt} {Q : Array Keyed -> SortSt -> Prop} (h : MH C a b) (hk : kindOf st = C.kd) (hQ : ∀ r st', Res C a b r -> SG st st' -> Q r st') : wpS M A E s (mHi a b) Q st := by
  unfold mHi
  k_delta "mergeHi"
  dsimp only
  obtain ⟨al, hal⟩ := getA (a := a) (i := a.size - 1) (by have := h.na; omega)
  refine wpS_bind (rule_ok (wpS_bind (el_ok hal ?_)))
  have m0 : MR C a b #[al] (a.size - 1) b.size := by
    have z : MR C a b #[] a.size b.size := ⟨Nat.le_refl _, Nat.le_refl _, by simp, List.Pairwise.nil, λ x hx => by simp at hx, λ x hx => by simp at hx⟩
    exact z.pushA h.sa h.na hal λ i x _ hx => h.lst i x al hx hal
  by_cases e1 : (a.size - 1 == 0) = true
  . rw [if_pos e1]
    exact wpS_pure (hQ _ _ (m0.endA h (by simpa using e1)) (SG.refl _))
  rw [if_neg e1]
  by_cases e2 : (b.size == 1) = true
  . rw [if_pos e2]
    exact wpS_pure (hQ _ _ (m0.endB1 h (by simpa using e2)) (SG.refl _))
  rw [if_neg e2]
  have e1' : 0 < a.size - 1 := by have := h.na; simp at e1; omega
  have e2' : 1 < b.size := by have := h.nb; simp at e2; omega
  refine wpS_bind (wpS_get ?_)
  refine wpS_bind (wpS_mono (wpS_forRange
    (I := λ x c st' => SG st st' /\ c.1 = none /\ MS C a b c.2.2.2.1 c.2.1 c.2.2.1 /\ x + 1 <= c.2.2.2.1.size)
    (Q := λ c st' => SG st st' /\ ∃ r, c.1 = some r /\ Res C a b r) ?step ?fin ?start) ?post)
  case start => exact ⟨SG.refl _, rfl, ⟨m0, e1', e2'⟩, by show 0 + 1 <= 1; omega⟩
  case fin =>
    rintro ⟨o, na, nb, out, mg⟩ st' ⟨g, h1, h2, h3⟩
    dsimp only at h1 h2 h3
    have := h2.size
    have := h2.la
    have := h2.lb
    omega
  case post =>
    rintro ⟨o, na, nb, out, mg⟩ st' ⟨g, r, h1, h2⟩
    dsimp only at h1 ⊢
    subst h1
    exact wpS_pure (hQ _ _ h2 g)
  case step =>
    rintro x ⟨o, na, nb, out, mg⟩ st' _ hx ⟨g, h1, h2, h3⟩
    dsimp only at h1 h2 h3 ⊢
    subst h1
    refine wpS_bind (wpS_mono (wpS_forRange
      (I := λ x c st' => SG st st' /\ c.1 = none /\ MS C a b c.2.2.2.1 c.2.1 c.2.2.1 /\ out.size + x <= c.2.2.2.1.size)
      (Q := λ c st' => SG st st' /\ ((∃ r, c.1 = some r /\ Res C a b r) \/ (c.1 = none /\ MS C a b c.2.2.2.1 c.2.1 c.2.2.1 /\ out.size + 1 <= c.2.2.2.1.size))) ?step1 ?fin1 ?start1) ?post1)
    case start1 => exact ⟨g, rfl, h2, Nat.le_refl _⟩
    case fin1 =>
      rintro ⟨o, na1, nb1, out1, ac, bc⟩ st1 ⟨g1, p1, p2, p3⟩
      dsimp only at p1 p2 p3 ⊢
      exact ⟨g1, .inr ⟨p1, p2, by have := h.na; omega⟩⟩
    case step1 =>
      rintro y ⟨o, na1, nb1, out1, ac, bc⟩ st1 _ hy ⟨g1, p1, p2, p3⟩
      dsimp only at p1 p2 p3 ⊢
      subst p1
      have la := p2.la
      have lb := p2.lb
      have ba := p2.ba
      have bb := p2.bb
      obtain ⟨ya, hya⟩ := getA (a := a) (i := na1 - 1) (by omega)
      obtain ⟨yb, hyb⟩ := getA (a := b) (i := nb1 - 1) (by omega)
      refine wpS_bind (el_ok hyb (wpS_bind (el_ok hya (wpS_bind (C.lt _ _ _ _ (g1.kind.trans hk) (h.gb _ _ hyb) (h.ga _ _ hya) ?_)))))
      dsimp only
      cases e : C.blt (C.key yb) (C.key ya) with
      | true =>
        simp only [if_true]
        have m1 : MR C a b (out1.push ya) (na1 - 1) nb1 := p2.toMR.pushA h.sa la hya λ i z hi hz => C.le_trans (h.sb _ _ _ _ (by omega) hz hyb) (C.le_of_lt e)
        refine wpS_bind (el_ok hya ?_)
        by_cases c1 : (na1 - 1 == 0) = true
        . rw [if_pos c1]
          exact wpS_pure ⟨g1, .inl ⟨_, rfl, m1.endA h (by simpa using c1)⟩⟩
        . rw [if_neg c1]
          have c1' : 0 < na1 - 1 := by simp at c1; omega
          have sz : out.size + (y + 1) <= (out1.push ya).size := by rw [Array.size_push]; omega
          split
          . exact wpS_pure ⟨g1, .inr ⟨rfl, ⟨m1, c1', lb⟩, by dsimp only; omega⟩⟩
          . exact wpS_pure ⟨g1, rfl, ⟨m1, c1', lb⟩, sz⟩
      | false =>
        simp only [Bool.false_eq_true, if_false]
        have m1 : MR C a b (out1.push yb) na1 (nb1 - 1) := p2.toMR.pushB h.sb (by omega) hyb λ i z hi hz => C.le_trans (h.sa _ _ _ _ (by omega) hz hya) e
        refine wpS_bind (el_ok hyb ?_)
        by_cases c1 : (nb1 - 1 == 1) = true
        . rw [if_pos c1]
          exact wpS_pure ⟨g1, .inl ⟨_, rfl, m1.endB1 h (by simpa using c1)⟩⟩
        . rw [if_neg c1]
          have c1' : 1 < nb1 - 1 := by simp at c1; omega
          have sz : out.size + (y + 1) <= (out1.push yb).size := by rw [Array.size_push]; omega
          split
          . exact wpS_pure ⟨g1, .inr ⟨rfl, ⟨m1, la, c1'⟩, by dsimp only; omega⟩⟩
          . exact wpS_pure ⟨g1, rfl, ⟨m1, la, c1'⟩, sz⟩
    case post1 =>
      rintro ⟨o, na1, nb1, out1, ac, bc⟩ st1 ⟨g1, p⟩
      dsimp only at p ⊢
      rcases p with ⟨r, p1, p2⟩ | ⟨p1, p2, p3⟩
      . subst p1
        exact wpS_pure ⟨g1, r, rfl, p2⟩
      . subst p1
        dsimp only
        refine wpS_bind (rule_ok ?_)
        refine wpS_bind (wpS_mono (wpS_forRange
          (I := λ x c st' => SG st st' /\ c.1 = none /\ MS C a b c.2.2.2.1 c.2.1 c.2.2.1 /\ out1.size <= c.2.2.2.1.size)
          (Q := λ c st' => SG st st' /\ ((∃ r, c.1 = some r /\ Res C a b r) \/ (c.1 = none /\ MS C a b c.2.2.2.1 c.2.1 c.2.2.1 /\ out1.size <= c.2.2.2.1.size))) ?step2 ?fin2 ?start2) ?post2)
        case start2 => exact ⟨g1, rfl, p2, Nat.le_refl _⟩
        case fin2 =>
          rintro ⟨o, na2, nb2, out2, mg2, ac2, bc2⟩ st2 ⟨g2, q1, q2, q3⟩
          exact ⟨g2, .inr ⟨q1, q2, q3⟩⟩
        case post2 =>
          rintro ⟨o, na2, nb2, out2, mg2, ac2, bc2⟩ st2 ⟨g2, q⟩
          dsimp only at q ⊢
          rcases q with ⟨r, q1, q2⟩ | ⟨q1, q2, q3⟩
          . subst q1
            exact wpS_pure ⟨g2, r, rfl, q2⟩
          . subst q1
            dsimp only
            refine wpS_bind (setg_ok ?_)
            exact wpS_pure ⟨g2.set _, rfl, q2, by dsimp only; omega⟩
        case step2 =>
          rintro y ⟨o, na2, nb2, out2, mg2, ac2, bc2⟩ st2 _ hy ⟨g2, q1, q2, q3⟩
          dsimp only at q1 q2 q3 ⊢
          subst q1
          have la := q2.la
          have lb := q2.lb
          have ba := q2.ba
          have bb := q2.bb
          have sz0 := q2.size
          obtain ⟨yb, hyb⟩ := getA (a := b) (i := nb2 - 1) (by omega)
          by_cases hm : mg2 > 1
          case' pos => rw [if_pos hm]
          case' neg => rw [if_neg hm]
          all_goals
            refine wpS_bind (setg_ok ?_)
            refine wpS_bind (el_ok hyb ?_)
            refine wpS_bind (gal_ok (h.srchA0 ba (h.gb _ _ hyb) false) (g2.kind.trans hk) (by omega) λ c z => ?_)
            dsimp only
            have zn := z.hn
            have mA : MR C a b (out2 ++ (a.extract c na2).reverse) c nb2 := q2.toMR.takeA h.sa zn λ i j x w h1 h2 h3 hx hw => C.le_trans (h.sb _ _ _ _ (by omega) hw hyb) (bey_rf (z.high0 h1 h2 hx))
            have hA : ∀ (i : Nat) x, i < c -> a[i]? = some x -> C.le x yb := λ i x hi hx => bey_r (z.low0 hi hx)
            have mB : MR C a b ((out2 ++ (a.extract c na2).reverse).push yb) c (nb2 - 1) := mA.pushB h.sb (by omega) hyb hA
            by_cases hc : na2 - c > 0
            case' pos =>
              rw [if_pos hc]
              by_cases c2 : (c == 0) = true
              case' pos =>
                rw [if_pos c2]
                exact wpS_pure ⟨g2.set _, .inl ⟨_, rfl, mA.endA h (by simpa using c2)⟩⟩
              rw [if_neg c2]
              have la2 : 0 < c := by simp at c2; omega
            case' neg =>
              rw [if_neg hc]
              have c0 : c = na2 := by omega
              subst c0
              have ex : out2 ++ (a.extract c c).reverse = out2 := by simp <;> omega
              rw [ex] at mA mB
              have la2 : 0 < c := la
            all_goals
              refine wpS_bind (el_ok hyb ?_)
              by_cases c3 : (nb2 - 1 == 1) = true
              case' pos =>
                rw [if_pos c3]
                exact wpS_pure ⟨g2.set _, .inl ⟨_, rfl, mB.endB1 h (by simpa using c3)⟩⟩
              rw [if_neg c3]
              have lb2 : 1 < nb2 - 1 := by simp at c3; omega
              obtain ⟨ya, hya⟩ := getA (a := a) (i := c - 1) (by omega)
              refine wpS_bind (el_ok hya ?_)
              refine wpS_bind (gal_ok (h.srchB0 (n := nb2 - 1) (by omega) (h.ga _ _ hya) true) ((g2.set _).kind.trans hk) (by omega) λ d z2 => ?_)
              dsimp only
              have zn2 := z2.hn
              have mC := mB.takeB (c := d) h.sb zn2 λ i j x w h1 h2 h3 hx hw => C.le_trans (h.sa _ _ _ _ (by omega) hw hya) (bey_lf (z2.high0 h1 h2 hx))
              have hB : ∀ (i : Nat) x, i < d -> b[i]? = some x -> C.le x ya := λ i x hi hx => bey_l (z2.low0 hi hx)
              have mD := mC.pushA h.sa la2 hya hB
              have sz := mD.size
              by_cases hd : nb2 - 1 - d > 0
              case' pos =>
                rw [if_pos hd]
                by_cases c4 : (d == 1) = true
                case' pos =>
                  rw [if_pos c4]
                  exact wpS_pure ⟨g2.set _, .inl ⟨_, rfl, mC.endB1 h (by simpa using c4)⟩⟩
                rw [if_neg c4]
                by_cases c6 : (d == 0) = true
                case' pos =>
                  rw [if_pos c6]
                  exact wpS_pure ⟨g2.set _, .inl ⟨_, rfl, mC.endB h (by simpa using c6)⟩⟩
                rw [if_neg c6]
                have lb3 : 1 < d := by simp at c4 c6; omega
              case' neg =>
                rw [if_neg hd]
                have d0 : d = nb2 - 1 := by omega
                subst d0
                have ex2 : ∀ o : Array Keyed, o ++ (b.extract (nb2 - 1) (nb2 - 1)).reverse = o := λ o => by simp <;> omega
                rw [ex2] at mC mD sz
                have lb3 : 1 < nb2 - 1 := lb2
              all_goals
                refine wpS_bind (el_ok hya ?_)
                split
                . rename_i c5
                  exact wpS_pure ⟨g2.set _, .inl ⟨_, rfl, mD.endA h (by simpa using c5)⟩⟩
                . rename_i c5
                  split
                  . exact wpS_pure ⟨g2.set _, .inr ⟨rfl, ⟨mD, by simp at c5; dsimp only; omega, lb3⟩, by dsimp only; omega⟩⟩
                  . exact wpS_pure ⟨g2.set _, rfl, ⟨mD, by simp at c5; dsimp only; omega, lb3⟩, by dsimp only; omega⟩
end
end Tim
namespace Tim
open PySem PyProof.Rows
abbrev mAt : Nat -> StateT SortSt Sem Bool := sortPriv% PySem.Builtin.mergeAt
def wb (arr m : Array Keyed) (p : Nat) : Array Keyed := List.foldl (λ a x => a.setIfInBounds (p + x.snd) x.fst) arr m.toList.zipIdx
theorem wb_go : ∀ (l : List Keyed) (arr : Array Keyed) (p k : Nat), p + k + l.length <= arr.size -> ∀ i : Nat,
    (List.foldl (λ a x => a.setIfInBounds (p + x.snd) x.fst) arr (l.zipIdx k))[i]? = if p + k <= i /\ i < p + k + l.length then l[i - (p + k)]? else arr[i]?
  | [], arr, p, k, _, i => by
    simp only [List.zipIdx_nil, List.foldl_nil, List.length_nil]
    rw [if_neg (by omega)]
  | x :: l, arr, p, k, h, i => by
    simp only [List.length_cons] at h
    rw [List.zipIdx_cons, List.foldl_cons, wb_go l _ p (k + 1) (by simp only [Array.size_setIfInBounds]; omega) i]
    simp only [List.length_cons]
    by_cases e : i = p + k
    . subst e
      rw [if_neg (by omega), if_pos (by omega), Array.getElem?_setIfInBounds_self_of_lt (by omega)]
      simp
    . by_cases c : p + k <= i /\ i < p + k + (l.length + 1)
      . rw [if_pos c, if_pos (by omega)]
        rw [show i - (p + k) = (i - (p + (k + 1))) + 1 by omega, List.getElem?_cons_succ]
      . rw [if_neg c, if_neg (by omega), Array.getElem?_setIfInBounds_ne (by omega)]
theorem wb_get {arr m : Array Keyed} {p : Nat} (h : p + m.size <= arr.size) (i : Nat) : (wb arr m p)[i]? = if p <= i /\ i < p + m.size then m[i - p]? else arr[i]? := by
  have := wb_go m.toList arr p 0 (by simpa using h) i
  simp only [Nat.add_zero, Array.length_toList] at this
  unfold wb
  rw [this]
  split
  . simp
  . rfl
theorem wb_size (arr m : Array Keyed) (p : Nat) : (wb arr m p).size = arr.size := by
  have : ∀ (l : List (Keyed × Nat)) (arr : Array Keyed), (List.foldl (λ a (x : Keyed × Nat) => a.setIfInBounds (p + x.snd) x.fst) arr l).size = arr.size := by
    intro l
    induction l with
    | nil => intro arr; rfl
    | cons x l ih => intro arr; rw [List.foldl_cons, ih, Array.size_setIfInBounds]
  exact this _ _
theorem wb_list {arr m : Array Keyed} {p : Nat} (h : p + m.size <= arr.size) : (wb arr m p).toList = arr.toList.take p ++ m.toList ++ arr.toList.drop (p + m.size) := by
  refine List.ext_getElem? λ i => ?_
  rw [Array.getElem?_toList, wb_get h, List.append_assoc]
  by_cases c1 : i < p
  . rw [if_neg (by omega), List.getElem?_append_left (by simp; omega), List.getElem?_take, if_pos c1, Array.getElem?_toList]
  . rw [List.getElem?_append_right (by simp; omega)]
    have hl : (arr.toList.take p).length = p := by simp; omega
    rw [hl]
    by_cases c2 : i < p + m.size
    . rw [if_pos (by omega), List.getElem?_append_left (by simp; omega), Array.getElem?_toList]
    . rw [if_neg (by omega), List.getElem?_append_right (by simp; omega), List.getElem?_drop, Array.getElem?_toList]
      congr 1
      simp
      omega
theorem three (arr : Array Keyed) {p q r : Nat} (h1 : p <= q) (h2 : q <= r) : arr.toList = arr.toList.take p ++ ((arr.extract p q).toList ++ (arr.extract q r).toList) ++ arr.toList.drop r := by
  have e1 := drop_cut arr h1
  have e2 := drop_cut arr h2
  rw [List.append_assoc, List.append_assoc, <- e2, <- e1, List.take_append_drop]
section
variable {M : Model} {A : Around} {E : Value -> Shared -> Prop} {s : Shared} {C : Cmp M A E s}
structure SS (C : Cmp M A E s) (a₀ : Array Keyed) (st : SortSt) : Prop where
  perm : (arrOf st).toList.Perm a₀.toList
  kind : kindOf st = C.kd
  ok : failedOf st = none
theorem SS.size {a₀ : Array Keyed} {st : SortSt} (h : SS C a₀ st) : (arrOf st).size = a₀.size := by simpa using h.perm.length_eq
theorem SS.good {a₀ : Array Keyed} {st : SortSt} (h : SS C a₀ st) (G : ∀ x ∈ a₀.toList, C.good x) : ∀ (i : Nat) x, (arrOf st)[i]? = some x -> C.good x := λ i x hx =>
  G x (h.perm.mem_iff.mp (by rw [<- Array.getElem?_toList] at hx; exact List.mem_of_getElem? hx))
structure Run (C : Cmp M A E s) (arr : Array Keyed) (lo n : Nat) : Prop where
  hi : lo + n <= arr.size
  srt : ∀ (i j : Nat) x y, lo <= i -> i <= j -> j < lo + n -> arr[i]? = some x -> arr[j]? = some y -> C.le x y
theorem Run.same {arr arr' : Array Keyed} {lo n : Nat} (h : Run C arr lo n) (hs : arr'.size = arr.size) (e : ∀ i, lo <= i -> i < lo + n -> arr'[i]? = arr[i]?) : Run C arr' lo n :=
  ⟨by rw [hs]; exact h.hi, λ i j x y h1 h2 h3 hx hy => h.srt i j x y h1 h2 h3 (by rw [<- e i h1 (by omega)]; exact hx) (by rw [<- e j (by omega) h3]; exact hy)⟩
def Chain (C : Cmp M A E s) (arr : Array Keyed) : List (Nat × Nat × Nat) -> Nat -> Nat -> Prop
  | [], a, b => a = b
  | (p, n, _) :: r, a, b => p = a /\ 0 < n /\ Run C arr p n /\ Chain C arr r (a + n) b
theorem Chain.le {arr : Array Keyed} : ∀ {l : List (Nat × Nat × Nat)} {a b : Nat}, Chain C arr l a b -> a + l.length <= b
  | [], a, b, h => by have : a = b := h; simp; omega
  | (p, n, q) :: r, a, b, h => by
    obtain ⟨_, h1, _, h2⟩ := h
    have := h2.le
    simp only [List.length_cons]
    omega
theorem Chain.app {arr : Array Keyed} : ∀ {l r : List (Nat × Nat × Nat)} {a b : Nat}, Chain C arr (l ++ r) a b ↔ ∃ c, Chain C arr l a c /\ Chain C arr r c b
  | [], r, a, b => ⟨λ h => ⟨a, rfl, h⟩, λ ⟨c, h1, h2⟩ => by have : a = c := h1; subst this; exact h2⟩
  | (p, n, q) :: l, r, a, b => by
    constructor
    . rintro ⟨h1, h2, h3, h4⟩
      obtain ⟨c, h5, h6⟩ := Chain.app.mp h4
      exact ⟨c, ⟨h1, h2, h3, h5⟩, h6⟩
    . rintro ⟨c, ⟨h1, h2, h3, h5⟩, h6⟩
      exact ⟨h1, h2, h3, Chain.app.mpr ⟨c, h5, h6⟩⟩
theorem Chain.same {arr arr' : Array Keyed} (hs : arr'.size = arr.size) : ∀ {l : List (Nat × Nat × Nat)} {a b : Nat}, Chain C arr l a b -> (∀ i, a <= i -> i < b -> arr'[i]? = arr[i]?) -> Chain C arr' l a b
  | [], a, b, h, _ => h
  | (p, n, q) :: r, a, b, h, e => by
    obtain ⟨rfl, h1, h2, h3⟩ := h
    have := h3.le
    exact ⟨rfl, h1, h2.same hs λ i g1 g2 => e i g1 (by omega), h3.same hs λ i g1 g2 => e i (by omega) g2⟩
theorem Chain.pow {arr : Array Keyed} {f : Nat × Nat × Nat -> Nat × Nat × Nat} (hf : ∀ x, (f x).1 = x.1 /\ (f x).2.1 = x.2.1) : ∀ {l : List (Nat × Nat × Nat)} {a b : Nat} (i : Nat), Chain C arr l a b -> Chain C arr (l.modify i f) a b
  | [], a, b, i, h => by simpa using h
  | x :: r, a, b, 0, h => by
    obtain ⟨p, n, q⟩ := x
    obtain ⟨h1, h2, h3, h4⟩ := h
    rw [List.modify_zero_cons]
    have := hf (p, n, q)
    generalize f (p, n, q) = y at this
    obtain ⟨p', n', q'⟩ := y
    dsimp only at this
    obtain ⟨rfl, rfl⟩ := this
    exact ⟨h1, h2, h3, h4⟩
  | x :: r, a, b, i + 1, h => by
    obtain ⟨p, n, q⟩ := x
    obtain ⟨h1, h2, h3, h4⟩ := h
    rw [List.modify_succ_cons]
    exact ⟨h1, h2, h3, h4.pow hf i⟩
theorem run_join {arr : Array Keyed} {sa na nb : Nat} (ra : Run C arr sa na) (rb : Run C arr (sa + na) nb) (h : ∀ (i j : Nat) x y, sa <= i -> i < sa + na -> sa + na <= j -> j < sa + na + nb -> arr[i]? = some x -> arr[j]? = some y -> C.le x y) : Run C arr sa (na + nb) :=
  ⟨by have := rb.hi; omega, λ i j x y h1 h2 h3 hx hy => by
    by_cases c1 : j < sa + na
    . exact ra.srt i j x y h1 h2 c1 hx hy
    . by_cases c2 : sa + na <= i
      . exact rb.srt i j x y c2 h2 (by omega) hx hy
      . exact h i j x y h1 (by omega) (by omega) (by omega) hx hy⟩
theorem run_merged {arr m : Array Keyed} {sa na nb k d : Nat} (ra : Run C arr sa na) (rb : Run C arr (sa + na) nb) (hk : k < na) (hd : 0 < d) (hdn : d <= nb) (hm : Res C (arr.extract (sa + k) (sa + na)) (arr.extract (sa + na) (sa + na + d)) m)
    (low : ∀ (i : Nat) x y, sa <= i -> i < sa + k -> arr[i]? = some x -> arr[sa + na]? = some y -> C.le x y) (high : ∀ (j : Nat) x y, sa + na + d <= j -> j < sa + na + nb -> arr[sa + na - 1]? = some x -> arr[j]? = some y -> C.le x y) :
    m.size = na - k + d /\ Run C (wb arr m (sa + k)) sa (na + nb) /\ (wb arr m (sa + k)).toList.Perm arr.toList /\ ∀ i, (i < sa \/ sa + (na + nb) <= i) -> (wb arr m (sa + k))[i]? = arr[i]? := by
  have h1 := ra.hi
  have h2 := rb.hi
  have hms : m.size = na - k + d := by
    have := hm.1.length_eq
    simp only [Array.length_toList, List.length_append, Array.size_extract] at this
    omega
  have hb : sa + k + m.size <= arr.size := by omega
  have G := wb_get hb
  have em : ∀ {i : Nat} {x : Keyed}, m[i]? = some x -> ∃ j, ((sa + k <= j /\ j < sa + na) \/ (sa + na <= j /\ j < sa + na + d)) /\ arr[j]? = some x := λ {i x} hx => by
    have : x ∈ m.toList := by rw [<- Array.getElem?_toList] at hx; exact List.mem_of_getElem? hx
    rcases List.mem_append.mp (hm.1.mem_iff.mp this) with q | q
    . obtain ⟨j, g1, g2, g3⟩ := mem_extract q
      exact ⟨j, .inl ⟨g1, g2⟩, g3⟩
    . obtain ⟨j, g1, g2, g3⟩ := mem_extract q
      exact ⟨j, .inr ⟨g1, g2⟩, g3⟩
  obtain ⟨b0, hb0⟩ := getA (a := arr) (i := sa + na) (by omega)
  obtain ⟨al, hal⟩ := getA (a := arr) (i := sa + na - 1) (by omega)
  refine ⟨hms, ⟨by rw [wb_size]; omega, λ i j x y g1 g2 g3 hx hy => ?_⟩, ?_, λ i hi => ?_⟩
  . rw [G] at hx hy
    by_cases ci : sa + k <= i /\ i < sa + k + m.size
    . rw [if_pos ci] at hx
      by_cases cj : sa + k <= j /\ j < sa + k + m.size
      . rw [if_pos cj] at hy
        have hx' : m.toList[i - (sa + k)]? = some x := by simpa using hx
        have hy' : m.toList[j - (sa + k)]? = some y := by simpa using hy
        by_cases e : i = j
        . subst e
          rw [hx'] at hy'
          cases hy'
          exact C.le_refl _
        . obtain ⟨l1, e1⟩ := List.getElem?_eq_some_iff.mp hx'
          obtain ⟨l2, e2⟩ := List.getElem?_eq_some_iff.mp hy'
          have := List.pairwise_iff_getElem.mp hm.2 _ _ l1 l2 (by omega)
          rw [e1, e2] at this
          exact this
      . rw [if_neg cj] at hy
        have cj' : sa + na + d <= j := by omega
        obtain ⟨p, hp, hpx⟩ := em hx
        rcases hp with hp | hp
        . exact C.le_trans (ra.srt p (sa + na - 1) x al (by omega) (by omega) (by omega) hpx hal) (high j al y cj' (by omega) hal hy)
        . exact rb.srt p j x y (by omega) (by omega) (by omega) hpx hy
    . rw [if_neg ci] at hx
      by_cases cj : sa + k <= j /\ j < sa + k + m.size
      . rw [if_pos cj] at hy
        have ci' : i < sa + k := by omega
        obtain ⟨p, hp, hpy⟩ := em hy
        rcases hp with hp | hp
        . exact ra.srt i p x y g1 (by omega) (by omega) hx hpy
        . exact C.le_trans (low i x b0 g1 ci' hx hb0) (rb.srt (sa + na) p b0 y (by omega) (by omega) (by omega) hb0 hpy)
      . rw [if_neg cj] at hy
        by_cases c1 : j < sa + k
        . exact ra.srt i j x y g1 g2 (by omega) hx hy
        . by_cases c2 : sa + k + m.size <= i
          . exact rb.srt i j x y (by omega) g2 (by omega) hx hy
          . have ci' : i < sa + k := by omega
            have cj' : sa + na + d <= j := by omega
            exact C.le_trans (low i x b0 g1 ci' hx hb0) (rb.srt (sa + na) j b0 y (by omega) (by omega) (by omega) hb0 hy)
  . rw [wb_list hb]
    have e := three arr (p := sa + k) (q := sa + na) (r := sa + na + d) (by omega) (by omega)
    have z : sa + k + m.size = sa + na + d := by omega
    rw [z]
    conv => rhs; rw [e]
    exact (List.Perm.append_left _ hm.1).append_right _
  . rw [G, if_neg (by omega)]
theorem extract_get {arr : Array Keyed} {p q i : Nat} (h : q <= arr.size) (hi : i < q - p) : (arr.extract p q)[i]? = arr[p + i]? := by
  rw [Array.getElem?_extract, if_pos (by omega)]
theorem mAt_ok {a₀ : Array Keyed} {st : SortSt} {i lo : Nat} {Q : Bool -> SortSt -> Prop} (G : ∀ x ∈ a₀.toList, C.good x) (S : SS C a₀ st) (ch : Chain C (arrOf st) (pendingOf st).toList 0 lo) (hi : i + 1 < (pendingOf st).size)
    (hQ : ∀ st', SS C a₀ st' -> (pendingOf st').size + 1 = (pendingOf st).size -> Chain C (arrOf st') (pendingOf st').toList 0 lo -> (∀ j, lo <= j -> (arrOf st')[j]? = (arrOf st)[j]?) -> Q true st') : wpS M A E s (mAt i) Q st := by
  unfold mAt
  k_delta "mergeAt"
  dsimp only
  refine wpS_bind (wpS_get ?_)
  obtain ⟨kd, arr, pend, mg, fl⟩ := st
  change i + 1 < pend.size at hi
  change Chain C arr pend.toList 0 lo at ch
  have good : ∀ (i : Nat) x, arr[i]? = some x -> C.good x := S.good G
  have kind : kd = C.kd := S.kind
  have perm0 : arr.toList.Perm a₀.toList := S.perm
  have ok0 : fl = none := S.ok
  dsimp only
  have li : i < pend.toList.length := by simp; omega
  have li2 : i + 1 < pend.toList.length := by simpa using hi
  obtain ⟨⟨sa, na, pw⟩, hA⟩ : ∃ x, pend[i]? = some x := ⟨pend[i], Array.getElem?_eq_getElem (by omega)⟩
  obtain ⟨⟨sb, nb, pw2⟩, hB⟩ : ∃ x, pend[i + 1]? = some x := ⟨pend[i + 1], Array.getElem?_eq_getElem (by omega)⟩
  rw [hA, hB]
  dsimp only
  have sp : pend.toList = pend.toList.take i ++ (sa, na, pw) :: (sb, nb, pw2) :: pend.toList.drop (i + 2) := by
    have e1 : pend.toList.drop i = (sa, na, pw) :: pend.toList.drop (i + 1) := by
      rw [List.drop_eq_getElem_cons li]
      have : pend.toList[i]? = some (sa, na, pw) := by simpa using hA
      rw [List.getElem?_eq_getElem li] at this
      rw [Option.some.inj this]
    have e2 : pend.toList.drop (i + 1) = (sb, nb, pw2) :: pend.toList.drop (i + 2) := by
      rw [List.drop_eq_getElem_cons li2]
      have : pend.toList[i + 1]? = some (sb, nb, pw2) := by simpa using hB
      rw [List.getElem?_eq_getElem li2] at this
      rw [Option.some.inj this]
    rw [<- e2, <- e1, List.take_append_drop]
  rw [sp] at ch
  obtain ⟨c, ch1, hsa, na0, ra, hsb, nb0, rb, ch2⟩ := Chain.app.mp ch
  have hsa := hsa.symm
  subst hsa
  subst hsb
  have c2le := ch2.le
  have c1le := ch1.le
  have hna := ra.hi
  have hnb := rb.hi
  have newp : ((pend.setIfInBounds i (c, na + nb, pw)).eraseIdxIfInBounds (i + 1)).toList = pend.toList.take i ++ (c, na + nb, pw) :: pend.toList.drop (i + 2) := by
    have e : (pend.setIfInBounds i (c, na + nb, pw)).toList = pend.toList.take i ++ (c, na + nb, pw) :: (c + na, nb, pw2) :: pend.toList.drop (i + 2) := by
      rw [Array.toList_setIfInBounds]
      conv => lhs; rw [sp]
      have lt : (pend.toList.take i).length = i := by simp; omega
      rw [List.set_append_right _ _ (by omega), lt, Nat.sub_self]
      rfl
    have lt : (pend.toList.take i).length = i := by simp; omega
    unfold Array.eraseIdxIfInBounds
    rw [dif_pos (by simp; omega), Array.toList_eraseIdx, e]
    rw [List.eraseIdx_append_of_length_le (by omega), lt]
    rw [show i + 1 - i = 1 by omega]
    rfl
  have newsz : ((pend.setIfInBounds i (c, na + nb, pw)).eraseIdxIfInBounds (i + 1)).size + 1 = pend.size := by
    have := congrArg List.length newp
    simp only [Array.length_toList, List.length_append, List.length_take, List.length_cons, List.length_drop] at this
    omega
  have fin : ∀ (arr' : Array Keyed) (mg' : Nat), arr'.toList.Perm arr.toList -> Run C arr' c (na + nb) -> (∀ i, (i < c \/ c + (na + nb) <= i) -> arr'[i]? = arr[i]?) ->
      Q true (SortSt.mk' kd arr' ((pend.setIfInBounds i (c, na + nb, pw)).eraseIdxIfInBounds (i + 1)) mg' fl) := by
    intro arr' mg' hp hr hs
    have hsz : arr'.size = arr.size := by simpa using hp.length_eq
    refine hQ _ ⟨hp.trans perm0, kind, ok0⟩ newsz ?_ λ j hj => hs j (.inr (by omega))
    show Chain C arr' ((pend.setIfInBounds i (c, na + nb, pw)).eraseIdxIfInBounds (i + 1)).toList 0 lo
    rw [newp]
    refine Chain.app.mpr ⟨c, ch1.same hsz λ j g1 g2 => hs j (.inl g2), rfl, by omega, hr, ?_⟩
    rw [<- Nat.add_assoc]
    exact ch2.same hsz λ j g1 g2 => hs j (.inr (by omega))
  refine wpS_bind (wpS_modify (f := λ _ => SortSt.mk' kd arr ((pend.setIfInBounds i (c, na + nb, pw)).eraseIdxIfInBounds (i + 1)) mg fl) ?_)
  obtain ⟨b0, hb0⟩ := getA (a := arr) (i := c + na) (by omega)
  refine wpS_bind (el_ok hb0 ?_)
  have SA : Srch C false b0 arr c na := ⟨good _ _ hb0, good, by omega, λ i j x y hij hj hx hy => C.bey_mono (ra.srt _ _ x y (by omega) (by omega) (by omega) hx hy)⟩
  refine wpS_bind (gal_ok SA kind na0 λ k z => ?_)
  dsimp only
  have zn := z.hn
  by_cases c1 : (na - k == 0) = true
  . rw [if_pos c1]
    have ek : k = na := by simp at c1; omega
    subst ek
    refine wpS_pure (fin arr mg (List.Perm.refl _) (run_join ra rb λ i j x y g1 g2 g3 g4 hx hy => ?_) λ _ _ => rfl)
    exact C.le_trans (bey_r (z.lowA g1 g2 hx)) (rb.srt (c + k) j b0 y (by omega) g3 (by omega) hb0 hy)
  rw [if_neg c1]
  have hk : k < na := by simp at c1; omega
  have ei : c + k + (na - k) - 1 = c + na - 1 := by omega
  obtain ⟨al, hal⟩ := getA (a := arr) (i := c + na - 1) (by omega)
  rw [ei]
  refine wpS_bind (el_ok hal ?_)
  have SB : Srch C true al arr (c + na) nb := ⟨good _ _ hal, good, by omega, λ i j x y hij hj hx hy => C.bey_mono (rb.srt _ _ x y (by omega) (by omega) (by omega) hx hy)⟩
  refine wpS_bind (gal_ok SB kind (by omega) λ d z2 => ?_)
  dsimp only
  have zn2 := z2.hn
  by_cases c2 : (d == 0) = true
  . rw [if_pos c2]
    have ed : d = 0 := by simpa using c2
    subst ed
    refine wpS_pure (fin arr mg (List.Perm.refl _) (run_join ra rb λ i j x y g1 g2 g3 g4 hx hy => ?_) λ _ _ => rfl)
    exact C.le_trans (ra.srt i (c + na - 1) x al g1 (by omega) (by omega) hx hal) (bey_lf (z2.highA (by omega) g4 hy))
  rw [if_neg c2]
  have hd : 0 < d := by simp at c2; omega
  have mh : MH C (arr.extract (c + k) (c + na)) (arr.extract (c + na) (c + na + d)) := by
    have sza : (arr.extract (c + k) (c + na)).size = na - k := by simp only [Array.size_extract]; omega
    have szb : (arr.extract (c + na) (c + na + d)).size = d := by simp only [Array.size_extract]; omega
    have ga : ∀ {i : Nat} {x : Keyed}, (arr.extract (c + k) (c + na))[i]? = some x -> arr[c + k + i]? = some x /\ i < na - k := λ {i x} hx => by
      have := lt_size hx
      rw [sza] at this
      rw [extract_get (by omega) (by omega)] at hx
      exact ⟨hx, this⟩
    have gb : ∀ {i : Nat} {x : Keyed}, (arr.extract (c + na) (c + na + d))[i]? = some x -> arr[c + na + i]? = some x /\ i < d := λ {i x} hx => by
      have := lt_size hx
      rw [szb] at this
      rw [extract_get (by omega) (by omega)] at hx
      exact ⟨hx, this⟩
    refine ⟨λ i x hx => good _ _ (ga hx).1, λ i x hx => good _ _ (gb hx).1, λ i j x y hij hx hy => ?_, λ i j x y hij hx hy => ?_, by omega, by omega, λ x y hx hy => ?_, λ i x y hx hy => ?_⟩
    . have h1 := ga hx
      have h2 := ga hy
      exact ra.srt _ _ x y (by omega) (by omega) (by omega) h1.1 h2.1
    . have h1 := gb hx
      have h2 := gb hy
      exact rb.srt _ _ x y (by omega) (by omega) (by omega) h1.1 h2.1
    . have h1 := (gb hx).1
      have h2 := (ga hy).1
      simp only [Nat.add_zero] at h1 h2
      rw [hb0] at h1
      cases h1
      exact bey_rf (z.highA (by omega) (by omega) h2)
    . have h1 := gb hx
      have h2 := (ga hy).1
      rw [sza, show c + k + (na - k - 1) = c + na - 1 by omega, hal] at h2
      cases h2
      exact bey_l (z2.lowA (by omega) (by omega) h1.1)
  have low : ∀ (i : Nat) x y, c <= i -> i < c + k -> arr[i]? = some x -> arr[c + na]? = some y -> C.le x y := λ i x y g1 g2 hx hy => by
    rw [hb0] at hy
    cases hy
    exact bey_r (z.lowA g1 g2 hx)
  have high : ∀ (j : Nat) x y, c + na + d <= j -> j < c + na + nb -> arr[c + na - 1]? = some x -> arr[j]? = some y -> C.le x y := λ j x y g1 g2 hx hy => by
    rw [hal] at hx
    cases hx
    exact bey_lf (z2.highA g1 g2 hy)
  have last : ∀ (m : Array Keyed) (st' : SortSt), Res C (arr.extract (c + k) (c + na)) (arr.extract (c + na) (c + na + d)) m -> SG (SortSt.mk' kd arr ((pend.setIfInBounds i (c, na + nb, pw)).eraseIdxIfInBounds (i + 1)) mg fl) st' ->
      Q true (SortSt.mk' (kindOf st') (wb (arrOf st') m (c + k)) (pendingOf st') (gallopOf st') (failedOf st')) := by
    rintro m st' hm ⟨g, rfl⟩
    obtain ⟨_, r1, r2, r3⟩ := run_merged ra rb hk hd zn2 hm low high
    exact fin _ g r2 r1 r3
  by_cases c3 : na - k <= d
  case' pos =>
    rw [if_pos c3]
    refine wpS_bind (mLo_ok mh kind λ m st' hm hg => ?_)
  case' neg =>
    rw [if_neg c3]
    refine wpS_bind (mHi_ok mh kind λ m st' hm hg => ?_)
  all_goals
    refine wpS_bind (wpS_modify ?_)
    refine wpS_bind (wpS_get ?_)
    have L := last m st' hm hg
    have okf : failedOf st' = none := by
      obtain ⟨g, rfl⟩ := hg
      exact ok0
    have et : (failedOf (SortSt.mk' (kindOf st') (wb (arrOf st') m (c + k)) (pendingOf st') (gallopOf st') (failedOf st'))).isNone = true := by
      show (failedOf st').isNone = true
      rw [okf]
      rfl
    refine wpS_pure ?_
    show Q ((failedOf (SortSt.mk' (kindOf st') (wb (arrOf st') m (c + k)) (pendingOf st') (gallopOf st') (failedOf st'))).isNone) _
    rw [et]
    exact L
end
end Tim
namespace Tim
open PySem PyProof.Rows
abbrev cRun : Nat -> Nat -> StateT SortSt Sem (Option Nat) := sortPriv% PySem.Builtin.countRun
abbrev bSort : Nat -> Nat -> Nat -> StateT SortSt Sem Bool := sortPriv% PySem.Builtin.binarySort
section
variable {M : Model} {A : Around} {E : Value -> Shared -> Prop} {s : Shared} {C : Cmp M A E s}
structure RS (C : Cmp M A E s) (a₀ : Array Keyed) (lo : Nat) (st st' : SortSt) : Prop where
  ss : SS C a₀ st'
  pend : pendingOf st' = pendingOf st
  same : ∀ i, i < lo -> (arrOf st')[i]? = (arrOf st)[i]?
theorem RS.refl {a₀ : Array Keyed} {lo : Nat} {st : SortSt} (h : SS C a₀ st) : RS C a₀ lo st st := ⟨h, rfl, λ _ _ => rfl⟩
theorem RS.arr {a₀ : Array Keyed} {lo : Nat} {st st' : SortSt} (h : RS C a₀ lo st st') {xs : Array Keyed} (hp : xs.toList.Perm (arrOf st').toList) (hs : ∀ i, i < lo -> xs[i]? = (arrOf st')[i]?) : RS C a₀ lo st (setArr st' xs) :=
  ⟨⟨hp.trans h.ss.perm, h.ss.kind, h.ss.ok⟩, h.pend, λ i hi => (hs i hi).trans (h.same i hi)⟩
theorem ltAt_ok {st : SortSt} {i j : Nat} {x y : Keyed} {Q : Option Bool -> SortSt -> Prop} (hk : kindOf st = C.kd) (hx : (arrOf st)[i]? = some x) (hy : (arrOf st)[j]? = some y) (gx : C.good x) (gy : C.good y) (h : Q (some (C.blt (C.key x) (C.key y))) st) : wpS M A E s (ltAt' i j) Q st := by
  rw [ltAt'_eq]
  refine wpS_bind (wpS_get ?_)
  exact wpS_bind (el_ok hx (wpS_bind (el_ok hy (C.lt st x y Q hk gx gy h))))
theorem rev_ok {st : SortSt} {i j : Nat} {Q : Unit -> SortSt -> Prop} (h : Q () (setArr st (mirror (arrOf st) i j ((j - i) / 2)))) : wpS M A E s (reverseSlice' i j) Q st := by
  rw [reverseSlice'_eq]
  exact wpS_modify h
theorem mv_ok {st : SortSt} {i j : Nat} {Q : Unit -> SortSt -> Prop} (h : Q () (setArr st (bubble (arrOf st) i (i - j)))) : wpS M A E s (moveDown' i j) Q st := by
  rw [moveDown'_eq]
  exact wpS_modify h
theorem RS.rev {a₀ : Array Keyed} {lo p q : Nat} {st st' : SortSt} (h : RS C a₀ lo st st') (hp : lo <= p) (hq : q <= (arrOf st').size) : RS C a₀ lo st (setArr st' (mirror (arrOf st') p q ((q - p) / 2))) :=
  h.arr (by have := mirror_perm (arrOf st') p q ((q - p) / 2); exact Array.perm_iff_toList_perm.mp this) λ i hi => by rw [getElem?_mirror_all hq, if_neg (by omega)]
theorem bSort_ok {a₀ : Array Keyed} {st : SortSt} {lo n ok : Nat} {Q : Bool -> SortSt -> Prop} (G : ∀ x ∈ a₀.toList, C.good x) (S : SS C a₀ st) (hn : lo + n <= (arrOf st).size) (ho : 1 <= ok) (hon : ok <= n) (R : Run C (arrOf st) lo ok)
    (hQ : ∀ st', RS C a₀ lo st st' -> Run C (arrOf st') lo n -> Q true st') : wpS M A E s (bSort lo n ok) Q st := by
  unfold bSort
  k_delta "binarySort"
  dsimp only
  have hsz0 := S.size
  refine wpS_bind (wpS_mono (wpS_forRange (I := λ k c st' => c = (none, ()) /\ RS C a₀ lo st st' /\ Run C (arrOf st') lo k) (Q := λ c st' => c = (none, ()) /\ RS C a₀ lo st st' /\ Run C (arrOf st') lo n) ?step ?fin ?start) ?post)
  case start =>
    have e : max ok 1 = ok := by omega
    rw [e]
    exact ⟨rfl, RS.refl S, R⟩
  case fin =>
    rintro c st' ⟨h1, h2, h3⟩
    have e : max (max ok 1) n = n := by omega
    rw [e] at h3
    exact ⟨h1, h2, h3⟩
  case post =>
    rintro c st' ⟨rfl, h2, h3⟩
    exact wpS_pure (hQ st' h2 h3)
  case step =>
    rintro k c st' hk1 hk2 ⟨rfl, h2, h3⟩
    have hsz := h2.ss.size
    have good := h2.ss.good G
    obtain ⟨pv, hpv⟩ := getA (a := arrOf st') (i := lo + k) (by omega)
    refine wpS_bind (wpS_mono (wpS_forRange (I := λ x c st'' => st'' = st' /\ c.1 = none /\ c.2.1 <= c.2.2 /\ c.2.2 <= k /\ c.2.2 - c.2.1 <= k - x /\ (∀ (i : Nat) y, i < c.2.1 -> (arrOf st')[lo + i]? = some y -> C.le y pv) /\ ∀ (i : Nat) y, c.2.2 <= i -> i < k -> (arrOf st')[lo + i]? = some y -> C.le pv y)
      (Q := λ c st'' => st'' = st' /\ c.1 = none /\ c.2.1 <= k /\ (∀ (i : Nat) y, i < c.2.1 -> (arrOf st')[lo + i]? = some y -> C.le y pv) /\ ∀ (i : Nat) y, c.2.1 <= i -> i < k -> (arrOf st')[lo + i]? = some y -> C.le pv y) ?step1 ?fin1 ?start1) ?post1)
    case start1 => exact ⟨rfl, rfl, Nat.zero_le _, Nat.le_refl _, by show k - 0 <= k - 0; omega, λ i y hi => by dsimp only at hi; omega, λ i y h1 h2 => by dsimp only at h1; omega⟩
    case fin1 =>
      rintro ⟨o, l, r⟩ st'' ⟨g1, g2, g3, g4, g5, g6, g7⟩
      dsimp only at g2 g3 g4 g5 g6 g7 ⊢
      have e : l = r := by omega
      subst e
      exact ⟨g1, g2, g4, g6, g7⟩
    case step1 =>
      rintro x ⟨o, l, r⟩ st'' _ hx ⟨rfl, g2, g3, g4, g5, g6, g7⟩
      dsimp only at g2 g3 g4 g5 g6 g7 ⊢
      subst g2
      by_cases c1 : l ≥ r
      . rw [if_pos c1]
        have e : l = r := by omega
        subst e
        exact wpS_pure ⟨rfl, rfl, g4, g6, g7⟩
      . rw [if_neg c1]
        obtain ⟨y, hy⟩ := getA (a := arrOf st'') (i := lo + (l + r) / 2) (by omega)
        refine wpS_bind (ltAt_ok h2.ss.kind hpv hy (good _ _ hpv) (good _ _ hy) ?_)
        dsimp only
        cases e : C.blt (C.key pv) (C.key y) with
        | true =>
          simp only [if_true]
          refine wpS_pure ⟨rfl, rfl, by dsimp only; omega, by dsimp only; omega, by dsimp only; omega, g6, λ i z hi hik hz => ?_⟩
          exact C.le_trans (C.le_of_lt e) (h3.srt _ _ y z (by omega) (by dsimp only at hi; omega) (by omega) hy hz)
        | false =>
          simp only [Bool.false_eq_true, if_false]
          refine wpS_pure ⟨rfl, rfl, by dsimp only; omega, g4, by dsimp only; omega, λ i z hi hz => ?_, g7⟩
          exact C.le_trans (h3.srt _ _ z y (by omega) (by dsimp only at hi; omega) (by omega) hz hy) e
    case post1 =>
      rintro ⟨o, l, r⟩ st'' ⟨rfl, g2, g4, g6, g7⟩
      dsimp only at g2 g4 g6 g7 ⊢
      subst g2
      dsimp only
      refine wpS_bind (mv_ok (wpS_pure ?_))
      have ed : lo + k - (lo + l) = k - l := by omega
      rw [ed]
      have B := getElem?_bubble (xs := arrOf st'') (src := lo + k) (by omega) (k - l) (by omega)
      have esrc : lo + k - (k - l) = lo + l := by omega
      rw [esrc] at B
      refine ⟨rfl, h2.arr (Array.perm_iff_toList_perm.mp (bubble_perm _ _ _)) λ i hi => by rw [B, if_neg (by omega), if_neg (by omega)], ?_⟩
      have bs : (bubble (arrOf st'') (lo + k) (k - l)).size = (arrOf st'').size := bubble_size _ _ _
      refine ⟨by show lo + (k + 1) <= (bubble (arrOf st'') (lo + k) (k - l)).size; rw [bs]; omega, λ i j x y q1 q2 q3 hx hy => ?_⟩
      have hx : (bubble (arrOf st'') (lo + k) (k - l))[i]? = some x := hx
      have hy : (bubble (arrOf st'') (lo + k) (k - l))[j]? = some y := hy
      rw [B] at hx hy
      have back : ∀ {i : Nat} {z : Keyed}, lo <= i -> i < lo + k -> (arrOf st'')[i]? = some z -> (arrOf st'')[lo + (i - lo)]? = some z := λ h1 h2 h => by rw [Nat.add_sub_cancel' h1]; exact h
      by_cases ci : i = lo + l
      . rw [if_pos ci, hpv] at hx
        cases hx
        by_cases cj : j = lo + l
        . rw [if_pos cj, hpv] at hy
          cases hy
          exact C.le_refl _
        . rw [if_neg cj, if_pos (by omega)] at hy
          exact g7 (j - 1 - lo) y (by omega) (by omega) (back (by omega) (by omega) hy)
      . rw [if_neg ci] at hx
        by_cases c2 : lo + l < i /\ i <= lo + k
        . rw [if_pos c2] at hx
          rw [if_neg (by omega), if_pos (by omega)] at hy
          exact h3.srt (i - 1) (j - 1) x y (by omega) (by omega) (by omega) hx hy
        . rw [if_neg c2] at hx
          have hil : i < lo + l := by omega
          by_cases cj : j = lo + l
          . rw [if_pos cj, hpv] at hy
            cases hy
            exact g6 (i - lo) x (by omega) (back (by omega) (by omega) hx)
          . rw [if_neg cj] at hy
            by_cases c3 : lo + l < j /\ j <= lo + k
            . rw [if_pos c3] at hy
              exact h3.srt i (j - 1) x y (by omega) (by omega) (by omega) hx hy
            . rw [if_neg c3] at hy
              exact h3.srt i j x y (by omega) (by omega) (by omega) hx hy
structure Fall (C : Cmp M A E s) (arr : Array Keyed) (lo n : Nat) : Prop where
  hi : lo + n <= arr.size
  srt : ∀ (i j : Nat) x y, lo <= i -> i <= j -> j < lo + n -> arr[i]? = some x -> arr[j]? = some y -> C.le y x
structure Alike (C : Cmp M A E s) (arr : Array Keyed) (p q : Nat) : Prop where
  hi : q <= arr.size
  eq : ∀ (i j : Nat) x y, p <= i -> i < q -> p <= j -> j < q -> arr[i]? = some x -> arr[j]? = some y -> C.le x y
theorem Fall.mir {arr : Array Keyed} {lo n p q : Nat} (h : Fall C arr lo n) (hp : lo <= p) (hq : q <= lo + n) (al : Alike C arr p q) : Fall C (mirror arr p q ((q - p) / 2)) lo n := by
  have hh := h.hi
  refine ⟨by rw [mirror_size]; exact hh, λ i j x y h1 h2 h3 hx hy => ?_⟩
  rw [getElem?_mirror_all al.hi] at hx hy
  by_cases ci : p <= i /\ i < q
  . rw [if_pos ci] at hx
    by_cases cj : p <= j /\ j < q
    . rw [if_pos cj] at hy
      exact al.eq _ _ y x (by omega) (by omega) (by omega) (by omega) hy hx
    . rw [if_neg cj] at hy
      exact h.srt _ _ x y (by omega) (by omega) h3 hx hy
  . rw [if_neg ci] at hx
    by_cases cj : p <= j /\ j < q
    . rw [if_pos cj] at hy
      exact h.srt _ _ x y h1 (by omega) (by omega) hx hy
    . rw [if_neg cj] at hy
      exact h.srt i j x y h1 h2 h3 hx hy
theorem Fall.turn {arr : Array Keyed} {lo n : Nat} (h : Fall C arr lo n) : Run C (mirror arr lo (lo + n) ((lo + n - lo) / 2)) lo n := by
  have hh := h.hi
  refine ⟨by rw [mirror_size]; exact hh, λ i j x y h1 h2 h3 hx hy => ?_⟩
  rw [getElem?_mirror_all hh] at hx hy
  rw [if_pos (by omega)] at hx hy
  exact h.srt _ _ y x (by omega) (by omega) (by omega) hy hx
theorem asc_ok {arr : Array Keyed} {st : SortSt} {lo n0 nrem : Nat} (ea : arrOf st = arr) (hn : lo + nrem <= arr.size) (h1 : 1 <= n0) (h2 : n0 <= nrem) (R : Run C arr lo n0)
    {f : Nat -> Option (Option Nat) × Nat -> StateT SortSt Sem (ForInStep (Option (Option Nat) × Nat))}
    (hf : ∀ (i n : Nat) (x y : Keyed) (Q' : ForInStep (Option (Option Nat) × Nat) -> SortSt -> Prop), arr[lo + n]? = some x -> arr[lo + n - 1]? = some y ->
      Q' (if C.blt (C.key x) (C.key y) = true then .done (none, n) else .yield (none, n + 1)) st -> wpS M A E s (f i (none, n)) Q' st) :
    wpS M A E s (forIn [n0:nrem] ((none : Option (Option Nat)), n0) f) (λ c st' => st' = st /\ c.1 = none /\ n0 <= c.2 /\ c.2 <= nrem /\ Run C arr lo c.2 /\ (c.2 = nrem \/ ∃ x y, arr[lo + c.2]? = some x /\ arr[lo + c.2 - 1]? = some y /\ C.blt (C.key x) (C.key y) = true)) st := by
  refine wpS_forRange (I := λ k c st' => st' = st /\ c = (none, k) /\ n0 <= k /\ k <= nrem /\ Run C arr lo k) ?step ?fin ?start
  case start => exact ⟨rfl, rfl, Nat.le_refl _, h2, R⟩
  case fin =>
    rintro c st' ⟨g1, rfl, g3, g4, g5⟩
    have e : max n0 nrem = nrem := by omega
    rw [e] at g5 ⊢
    exact ⟨g1, rfl, h2, Nat.le_refl _, g5, .inl rfl⟩
  case step =>
    rintro k c st' hk1 hk2 ⟨rfl, rfl, g3, g4, g5⟩
    obtain ⟨x, hx⟩ := getA (a := arr) (i := lo + k) (by omega)
    obtain ⟨y, hy⟩ := getA (a := arr) (i := lo + k - 1) (by omega)
    refine hf k k x y _ hx hy ?_
    cases e : C.blt (C.key x) (C.key y) with
    | true =>
      simp only [if_true]
      exact ⟨trivial, trivial, g3, by omega, g5, .inr ⟨x, y, hx, hy, e⟩⟩
    | false =>
      simp only [Bool.false_eq_true, if_false]
      refine ⟨trivial, trivial, by omega, by omega, ⟨by omega, λ i j u v q1 q2 q3 hu hv => ?_⟩⟩
      by_cases cj : j < lo + k
      . exact g5.srt i j u v q1 q2 cj hu hv
      . have ej : j = lo + k := by omega
        subst ej
        rw [hx] at hv
        cases hv
        by_cases ci : i = lo + k
        . subst ci
          rw [hx] at hu
          cases hu
          exact C.le_refl _
        . exact C.le_trans (g5.srt i (lo + k - 1) u y q1 (by omega) (by omega) hu hy) e
end
end Tim
namespace Tim
open PySem PyProof.Rows
section
variable {M : Model} {A : Around} {E : Value -> Shared -> Prop} {s : Shared} {C : Cmp M A E s}
theorem Alike.one {arr : Array Keyed} {p : Nat} (h : p + 1 <= arr.size) : Alike C arr p (p + 1) := ⟨h, λ i j x y h1 h2 h3 h4 hx hy => by
  have e1 : i = p := by omega
  have e2 : j = p := by omega
  subst e1
  subst e2
  rw [hx] at hy
  cases hy
  exact C.le_refl _⟩
theorem Fall.more {arr : Array Keyed} {lo n : Nat} {x : Keyed} (h : Fall C arr lo n) (hn : 1 <= n) (hx : arr[lo + n]? = some x) (hy : ∀ (i : Nat) y, lo <= i -> i < lo + n -> arr[i]? = some y -> C.le x y) : Fall C arr lo (n + 1) := by
  have hl := lt_size hx
  refine ⟨by omega, λ i j u v q1 q2 q3 hu hv => ?_⟩
  by_cases cj : j < lo + n
  . exact h.srt i j u v q1 q2 cj hu hv
  . have ej : j = lo + n := by omega
    subst ej
    rw [hx] at hv
    cases hv
    by_cases ci : i = lo + n
    . subst ci
      rw [hx] at hu
      cases hu
      exact C.le_refl _
    . exact hy i u q1 (by omega) hu
structure DS (C : Cmp M A E s) (a₀ : Array Keyed) (lo nrem : Nat) (st st' : SortSt) (n neq : Nat) : Prop where
  rs : RS C a₀ lo st st'
  fl : Fall C (arrOf st') lo n
  hn : n <= nrem
  ne : neq + 1 <= n
  al : Alike C (arrOf st') (lo + n - (neq + 1)) (lo + n)
theorem desc_ok {a₀ : Array Keyed} {st st1 : SortSt} {lo n0 nrem : Nat} (G : ∀ x ∈ a₀.toList, C.good x) (hn : lo + nrem <= a₀.size) (D0 : DS C a₀ lo nrem st st1 n0 0)
    {f : Nat -> Option (Option Nat) × Nat × Nat -> StateT SortSt Sem (ForInStep (Option (Option Nat) × Nat × Nat))}
    (hf : ∀ (i n neq : Nat) (st' : SortSt) (x y : Keyed) (Q' : ForInStep (Option (Option Nat) × Nat × Nat) -> SortSt -> Prop), kindOf st' = C.kd -> (arrOf st')[lo + n]? = some x -> (arrOf st')[lo + n - 1]? = some y -> C.good x -> C.good y ->
      (C.blt (C.key x) (C.key y) = true -> neq > 0 -> Q' (.yield (none, n + 1, 0)) (setArr st' (mirror (arrOf st') (lo + n - (neq + 1)) (lo + n) ((lo + n - (lo + n - (neq + 1))) / 2)))) ->
      (C.blt (C.key x) (C.key y) = true -> ¬ neq > 0 -> Q' (.yield (none, n + 1, 0)) st') ->
      (C.blt (C.key x) (C.key y) = false -> C.blt (C.key y) (C.key x) = true -> Q' (.done (none, n, neq)) st') ->
      (C.blt (C.key x) (C.key y) = false -> C.blt (C.key y) (C.key x) = false -> Q' (.yield (none, n + 1, neq + 1)) st') -> wpS M A E s (f i (none, n, neq)) Q' st') :
    wpS M A E s (forIn [n0:nrem] ((none : Option (Option Nat)), n0, 0) f) (λ c st' => c.1 = none /\ n0 <= c.2.1 /\ DS C a₀ lo nrem st st' c.2.1 c.2.2) st1 := by
  refine wpS_forRange (I := λ k c st' => c.1 = none /\ c.2.1 = k /\ n0 <= k /\ DS C a₀ lo nrem st st' k c.2.2) ?step ?fin ?start
  case start => exact ⟨rfl, rfl, Nat.le_refl _, D0⟩
  case fin =>
    rintro ⟨o, n, neq⟩ st' ⟨h1, h2, h3, h4⟩
    dsimp only at h1 h2 h4 ⊢
    subst h2
    exact ⟨h1, h3, h4⟩
  case step =>
    rintro k ⟨o, n, neq⟩ st' hk1 hk2 ⟨h1, h2, h3, h4⟩
    dsimp only at h1 h2 h4 ⊢
    subst h1
    subst h2
    have hsz := h4.rs.ss.size
    have good := h4.rs.ss.good G
    have ne := h4.ne
    obtain ⟨x, hx⟩ := getA (a := arrOf st') (i := lo + n) (by omega)
    obtain ⟨y, hy⟩ := getA (a := arrOf st') (i := lo + n - 1) (by omega)
    refine hf n n neq st' x y _ h4.rs.ss.kind hx hy (good _ _ hx) (good _ _ hy) (λ e hq => ?_) (λ e hq => ?_) (λ e e2 => ⟨rfl, h3, h4⟩) (λ e e2 => ?_)
    . have fm := h4.fl.mir (by omega) (Nat.le_refl _) h4.al
      have rm := h4.rs.rev (p := lo + n - (neq + 1)) (q := lo + n) (by omega) (by omega)
      have gm := getElem?_mirror_all (xs := arrOf st') (i := lo + n - (neq + 1)) (j := lo + n) (by omega)
      have hx' : (mirror (arrOf st') (lo + n - (neq + 1)) (lo + n) ((lo + n - (lo + n - (neq + 1))) / 2))[lo + n]? = some x := by rw [gm, if_neg (by omega)]; exact hx
      refine ⟨rfl, rfl, by omega, rm, fm.more (by omega) hx' λ i z q1 q2 hz => ?_, by omega, by dsimp only; omega, ?_⟩
      . rw [gm] at hz
        split at hz
        . exact C.le_trans (C.le_of_lt e) (h4.fl.srt _ _ z y (by omega) (by omega) (by omega) hz hy)
        . exact C.le_trans (C.le_of_lt e) (h4.fl.srt _ _ z y (by omega) (by omega) (by omega) hz hy)
      . have := Alike.one (C := C) (arr := mirror (arrOf st') (lo + n - (neq + 1)) (lo + n) ((lo + n - (lo + n - (neq + 1))) / 2)) (p := lo + n) (by rw [mirror_size]; omega)
        rw [show lo + (n + 1) - (0 + 1) = lo + n by omega]
        exact this
    . refine ⟨rfl, rfl, by omega, h4.rs, h4.fl.more (by omega) hx λ i z q1 q2 hz => ?_, by omega, by dsimp only; omega, ?_⟩
      . exact C.le_trans (C.le_of_lt e) (h4.fl.srt _ _ z y (by omega) (by omega) (by omega) hz hy)
      . have := Alike.one (C := C) (arr := arrOf st') (p := lo + n) (by omega)
        rw [show lo + (n + 1) - (0 + 1) = lo + n by omega]
        exact this
    . refine ⟨rfl, rfl, by omega, h4.rs, h4.fl.more (by omega) hx λ i z q1 q2 hz => ?_, by omega, by dsimp only; omega, ?_⟩
      . exact C.le_trans e2 (h4.fl.srt _ _ z y (by omega) (by omega) (by omega) hz hy)
      . dsimp only
        rw [show lo + (n + 1) - (neq + 1 + 1) = lo + n - (neq + 1) by omega]
        have key : ∀ (i : Nat) u, lo + n - (neq + 1) <= i -> i < lo + (n + 1) -> (arrOf st')[i]? = some u -> C.le u y /\ C.le y u := λ i u q1 q2 hu => by
          by_cases c : i = lo + n
          . subst c
            rw [hx] at hu
            cases hu
            exact ⟨e2, e⟩
          . exact ⟨h4.al.eq _ _ u y q1 (by omega) (by omega) (by omega) hu hy, h4.al.eq _ _ y u (by omega) (by omega) q1 (by omega) hy hu⟩
        exact ⟨by omega, λ i j u v q1 q2 q3 q4 hu hv => C.le_trans (key i u q1 q2 hu).1 (key j v q3 q4 hv).2⟩
theorem cRun_ok {a₀ : Array Keyed} {st : SortSt} {lo nrem : Nat} {Q : Option Nat -> SortSt -> Prop} (G : ∀ x ∈ a₀.toList, C.good x) (S : SS C a₀ st) (hn : lo + nrem <= a₀.size) (h1 : 1 <= nrem)
    (hQ : ∀ n st', 1 <= n -> n <= nrem -> RS C a₀ lo st st' -> Run C (arrOf st') lo n -> Q (some n) st') : wpS M A E s (cRun lo nrem) Q st := by
  unfold cRun
  k_delta "countRun"
  dsimp only
  have hsz := S.size
  have good := S.good G
  have R1 : Run C (arrOf st) lo 1 := ⟨by omega, λ i j x y q1 q2 q3 hx hy => by
    have e : i = j := by omega
    subst e
    rw [hx] at hy
    cases hy
    exact C.le_refl _⟩
  refine wpS_bind (wpS_mono (asc_ok rfl (by omega) (Nat.le_refl _) h1 R1 λ i n x y Q' hx hy q => ?_) ?post)
  . dsimp only
    refine wpS_bind (ltAt_ok S.kind hx hy (good _ _ hx) (good _ _ hy) ?_)
    dsimp only
    cases e : C.blt (C.key x) (C.key y) with
    | true => rw [e] at q; simp only [if_true] at q ⊢; exact wpS_pure q
    | false => rw [e] at q; simp only [Bool.false_eq_true, if_false] at q ⊢; exact wpS_pure q
  case post =>
    rintro ⟨o, n⟩ st' ⟨rfl, p1, p2, p3, p4, p5⟩
    dsimp only at p1 p2 p3 p4 p5 ⊢
    subst p1
    dsimp only
    by_cases c1 : (n == nrem) = true
    . rw [if_pos c1]
      exact wpS_pure (hQ n st' p2 p3 (RS.refl S) p4)
    rw [if_neg c1]
    obtain ⟨x, y, hx, hy, exy⟩ : ∃ x y, (arrOf st')[lo + n]? = some x /\ (arrOf st')[lo + n - 1]? = some y /\ C.blt (C.key x) (C.key y) = true := by
      rcases p5 with p5 | p5
      . exact absurd (by simpa using p5) c1
      . exact p5
    have hnn : n < nrem := by simp at c1; omega
    have fin : ∀ (st2 : SortSt) (n2 neq : Nat), DS C a₀ lo nrem st' st2 n2 neq -> n + 1 <= n2 -> ∀ (st3 : SortSt), (RS C a₀ lo st' st3 /\ Fall C (arrOf st3) lo n2) ->
        RS C a₀ lo st' (setArr st3 (mirror (arrOf st3) lo (lo + n2) ((lo + n2 - lo) / 2))) /\ Run C (mirror (arrOf st3) lo (lo + n2) ((lo + n2 - lo) / 2)) lo n2 := by
      rintro st2 n2 neq D g st3 ⟨r3, f3⟩
      exact ⟨r3.rev (Nat.le_refl _) f3.hi, f3.turn⟩
    by_cases c2 : n > 1
    case' pos =>
      rw [if_pos c2]
      obtain ⟨x0, hx0⟩ := getA (a := arrOf st') (i := lo) (by omega)
      refine wpS_bind (ltAt_ok S.kind hx0 hy (good _ _ hx0) (good _ _ hy) ?_)
      dsimp only
      cases e0 : C.blt (C.key x0) (C.key y) with
      | true =>
        simp only [if_true]
        exact wpS_pure (hQ n st' p2 p3 (RS.refl S) p4)
      | false => ?_
      simp only [Bool.false_eq_true, if_false]
      have al : Alike C (arrOf st') lo (lo + n) := ⟨by omega, λ i j u v q1 q2 q3 q4 hu hv => by
        refine C.le_trans (p4.srt i (lo + n - 1) u y q1 (by omega) (by omega) hu hy) (C.le_trans e0 ?_)
        exact p4.srt lo j x0 v (Nat.le_refl _) q3 q4 hx0 hv⟩
      have gm := getElem?_mirror_all (xs := arrOf st') (i := lo) (j := lo + n) (by omega)
      have fl0 : Fall C (arrOf st') lo n := ⟨by omega, λ i j u v q1 q2 q3 hu hv => al.eq j i v u (by omega) q3 q1 (by omega) hv hu⟩
      have fm := fl0.mir (Nat.le_refl _) (Nat.le_refl _) al
      have hx' : (mirror (arrOf st') lo (lo + n) ((lo + n - lo) / 2))[lo + n]? = some x := by rw [gm, if_neg (by omega)]; exact hx
      have fm2 := fm.more p2 hx' λ i z q1 q2 hz => by
        rw [gm, if_pos (by omega)] at hz
        exact C.le_trans (C.le_of_lt exy) (al.eq _ _ y z (by omega) (by omega) (by omega) (by omega) hy hz)
      have D0 : DS C a₀ lo nrem st' (setArr st' (mirror (arrOf st') lo (lo + n) ((lo + n - lo) / 2))) (n + 1) 0 :=
        ⟨(RS.refl S).rev (Nat.le_refl _) (by omega), fm2, by omega, by omega, by
          have := Alike.one (C := C) (arr := mirror (arrOf st') lo (lo + n) ((lo + n - lo) / 2)) (p := lo + n) (by rw [mirror_size]; omega)
          rw [show lo + (n + 1) - (0 + 1) = lo + n by omega]
          exact this⟩
      refine wpS_bind (rev_ok ?_)
    case' neg =>
      rw [if_neg c2]
      have en : n = 1 := by omega
      have fl0 : Fall C (arrOf st') lo n := ⟨by omega, λ i j u v q1 q2 q3 hu hv => by
        have e : i = j := by omega
        subst e
        rw [hu] at hv
        cases hv
        exact C.le_refl _⟩
      have fm2 := fl0.more p2 hx λ i z q1 q2 hz => by
        have e : i = lo + n - 1 := by omega
        subst e
        rw [hy] at hz
        cases hz
        exact C.le_of_lt exy
      have D0 : DS C a₀ lo nrem st' st' (n + 1) 0 := ⟨RS.refl S, fm2, by omega, by omega, by
          have := Alike.one (C := C) (arr := arrOf st') (p := lo + n) (by omega)
          rw [show lo + (n + 1) - (0 + 1) = lo + n by omega]
          exact this⟩
    all_goals
      refine wpS_bind (rule_ok ?_)
      refine wpS_bind (wpS_mono (desc_ok G hn D0 λ i m neq st4 u v Q' hk4 hu hv gu gv q1 q2 q3 q4 => ?_) ?post2)
      . dsimp only
        refine wpS_bind (ltAt_ok hk4 hu hv gu gv ?_)
        dsimp only
        cases e1 : C.blt (C.key u) (C.key v) with
        | true =>
          simp only [if_true]
          by_cases c3 : neq > 0
          . rw [if_pos c3]
            exact wpS_bind (rev_ok (wpS_pure (q1 e1 c3)))
          . rw [if_neg c3]
            exact wpS_pure (q2 e1 c3)
        | false =>
          simp only [Bool.false_eq_true, if_false]
          refine wpS_bind (ltAt_ok hk4 hv hu gv gu ?_)
          dsimp only
          cases e2 : C.blt (C.key v) (C.key u) with
          | true =>
            simp only [if_true]
            exact wpS_pure (q3 e1 e2)
          | false =>
            simp only [Bool.false_eq_true, if_false]
            exact wpS_pure (q4 e1 e2)
      case post2 =>
        rintro ⟨o2, n2, neq⟩ st2 ⟨r1, r2, D⟩
        dsimp only at r1 r2 D ⊢
        subst r1
        dsimp only
        have tail : ∀ st3 : SortSt, RS C a₀ lo st' st3 -> Fall C (arrOf st3) lo n2 -> ∀ (P : Option Nat -> SortSt -> Prop), (∀ (n : Nat) (st'' : SortSt), 1 <= n -> n <= nrem -> RS C a₀ lo st' st'' -> Run C (arrOf st'') lo n -> P (some n) st'') ->
            RS C a₀ lo st' (setArr st3 (mirror (arrOf st3) lo (lo + n2) ((lo + n2 - lo) / 2))) /\ Run C (mirror (arrOf st3) lo (lo + n2) ((lo + n2 - lo) / 2)) lo n2 := λ st3 r3 f3 _ _ => fin st2 n2 neq D r2 st3 ⟨r3, f3⟩
        have hsz2 := D.rs.ss.size
        have ne := D.ne
        by_cases c4 : neq > 0
        case' pos =>
          rw [if_pos c4]
          obtain ⟨t1, t2⟩ := fin st2 n2 neq D r2 (setArr st2 (mirror (arrOf st2) (lo + n2 - (neq + 1)) (lo + n2) ((lo + n2 - (lo + n2 - (neq + 1))) / 2)))
            ⟨D.rs.rev (by omega) D.fl.hi, D.fl.mir (by omega) (Nat.le_refl _) D.al⟩
          refine wpS_bind (rev_ok ?_)
        case' neg =>
          rw [if_neg c4]
          obtain ⟨t1, t2⟩ := fin st2 n2 neq D r2 st2 ⟨D.rs, D.fl⟩
        all_goals
          refine wpS_bind (rev_ok ?_)
          have good3 := t1.ss.good G
          have kind3 := t1.ss.kind
          have hsz3 := t1.ss.size
          refine wpS_bind (wpS_mono (asc_ok rfl (by omega) (by omega) D.hn t2 λ i m u v Q' hu hv q => ?_) ?_)
          . dsimp only
            refine wpS_bind (ltAt_ok kind3 hu hv (good3 _ _ hu) (good3 _ _ hv) ?_)
            dsimp only
            cases e : C.blt (C.key u) (C.key v) with
            | true => rw [e] at q; simp only [if_true] at q ⊢; exact wpS_pure q
            | false => rw [e] at q; simp only [Bool.false_eq_true, if_false] at q ⊢; exact wpS_pure q
          . rintro ⟨o5, n5⟩ st5 ⟨rfl, w1, w2, w3, w4, w5⟩
            dsimp only at w1 w2 w3 w4 w5 ⊢
            subst w1
            exact wpS_pure (hQ n5 _ (by omega) w3 t1 w4)
end
end Tim
namespace Tim
open PySem PyProof.Rows
abbrev sRuns : StateT SortSt Sem Unit := sortPriv% PySem.Builtin.sortRuns
section
variable {M : Model} {A : Around} {E : Value -> Shared -> Prop} {s : Shared} {C : Cmp M A E s}
structure TS (C : Cmp M A E s) (a₀ : Array Keyed) (lo : Nat) (st : SortSt) : Prop where
  ss : SS C a₀ st
  ch : Chain C (arrOf st) (pendingOf st).toList 0 lo
theorem TS.rs {a₀ : Array Keyed} {lo : Nat} {st st' : SortSt} (h : TS C a₀ lo st) (r : RS C a₀ lo st st') : TS C a₀ lo st' :=
  ⟨r.ss, by rw [r.pend]; exact h.ch.same (by rw [r.ss.size, h.ss.size]) λ i _ hi => r.same i hi⟩
theorem TS.push {a₀ : Array Keyed} {lo n : Nat} {st : SortSt} (h : TS C a₀ lo st) (hn : 0 < n) (R : Run C (arrOf st) lo n) : TS C a₀ (lo + n) (SortSt.mk' (kindOf st) (arrOf st) ((pendingOf st).push (lo, n, 0)) (gallopOf st) (failedOf st)) :=
  ⟨⟨h.ss.perm, h.ss.kind, h.ss.ok⟩, by
    show Chain C (arrOf st) ((pendingOf st).push (lo, n, 0)).toList 0 (lo + n)
    rw [Array.toList_push]
    exact Chain.app.mpr ⟨lo, h.ch, rfl, hn, R, rfl⟩⟩
theorem TS.pow {a₀ : Array Keyed} {lo i : Nat} {st : SortSt} {f : Nat × Nat × Nat -> Nat × Nat × Nat} (h : TS C a₀ lo st) (hf : ∀ x, (f x).1 = x.1 /\ (f x).2.1 = x.2.1) : TS C a₀ lo (SortSt.mk' (kindOf st) (arrOf st) ((pendingOf st).modify i f) (gallopOf st) (failedOf st)) :=
  ⟨⟨h.ss.perm, h.ss.kind, h.ss.ok⟩, by
    show Chain C (arrOf st) ((pendingOf st).modify i f).toList 0 lo
    rw [Array.toList_modify]
    exact h.ch.pow hf i⟩
theorem ite_lt {c : Prop} [Decidable c] {a b n : Nat} (ha : a + 1 < n) (hb : b + 1 < n) : (if c then a else b) + 1 < n := by
  split <;> assumption
theorem sRuns_ok {a₀ : Array Keyed} {st : SortSt} {Q : Unit -> SortSt -> Prop} (G : ∀ x ∈ a₀.toList, C.good x) (S : SS C a₀ st) (hp : pendingOf st = #[]) (hQ : ∀ st', SS C a₀ st' -> Run C (arrOf st') 0 a₀.size -> Q () st') : wpS M A E s sRuns Q st := by
  unfold sRuns
  k_delta "sortRuns"
  dsimp only
  refine wpS_bind (wpS_get ?_)
  have hsz0 : (arrOf st).size = a₀.size := S.size
  have T0 : TS C a₀ 0 st := ⟨S, by rw [hp]; exact rfl⟩
  generalize hN : (arrOf st).size = N at *
  have hN' := hN
  rw [hsz0] at hN
  refine wpS_bind (wpS_mono (wpS_forRange (I := λ x c st' => c.1 = none /\ TS C a₀ c.2 st' /\ c.2 <= N /\ min x N <= c.2) (Q := λ c st' => c.1 = none /\ TS C a₀ N st') ?step ?fin ?start) ?post)
  case start => exact ⟨rfl, T0, Nat.zero_le _, by show min 0 N <= 0; omega⟩
  case fin =>
    rintro ⟨o, lo⟩ st' ⟨h1, h2, h3, h4⟩
    dsimp only at h1 h2 h3 h4 ⊢
    have e : lo = N := by omega
    subst e
    exact ⟨h1, h2⟩
  case step =>
    rintro x ⟨o, lo⟩ st' _ hx ⟨h1, h2, h3, h4⟩
    dsimp only at h1 h2 h3 h4 ⊢
    subst h1
    by_cases c1 : lo ≥ N
    . rw [if_pos c1]
      have e : lo = N := by omega
      subst e
      exact wpS_pure ⟨rfl, h2⟩
    rw [if_neg c1]
    refine wpS_bind (cRun_ok G h2.ss (by omega) (by omega) λ found st2 f1 f2 r2 R2 => ?_)
    dsimp only
    have T2 := h2.rs r2
    generalize hmr : (sortPriv% PySem.Builtin.minRun) N N 0 = mr
    by_cases c2 : found < mr
    case' pos =>
      rw [if_pos c2]
      refine wpS_bind (rule_ok ?_)
      have hs2 := T2.ss.size
      refine wpS_bind (bSort_ok (n := min (N - lo) mr) G T2.ss (by omega) f1 (by omega) R2 λ st3 r3 R3 => ?_)
      simp only [Bool.not_true, Bool.false_eq_true, if_false]
      have T3 := T2.rs r3
      have n1 : 1 <= min (N - lo) mr := by omega
      have n2 : lo + min (N - lo) mr <= N := by omega
      generalize hfn : min (N - lo) mr = n at R3 n1 n2 ⊢
    case' neg =>
      rw [if_neg c2]
      have T3 := T2
      have R3 := R2
      have n1 := f1
      have n2 : lo + found <= N := by omega
      generalize hst : st2 = st3 at T3 R3 ⊢
      generalize hfn : found = n at R3 n1 n2 ⊢
    all_goals
      refine wpS_bind (wpS_get ?_)
      cases hb : (pendingOf st3).back? with
      | none =>
        dsimp only
        refine wpS_bind (wpS_modify (wpS_pure ?_))
        exact ⟨rfl, T3.push (by omega) R3, n2, by dsimp only; omega⟩
      | some b =>
        obtain ⟨s1, n1', pw0⟩ := b
        dsimp only
        generalize hpw : (sortPriv% PySem.Builtin.power) N (2 * s1 + n1') (2 * s1 + n1' + n1' + n) N = pw
        refine wpS_bind (wpS_mono (wpS_forRange (I := λ _ c st' => c = (none, ()) /\ TS C a₀ lo st' /\ Run C (arrOf st') lo n) (Q := λ c st' => c = (none, ()) /\ TS C a₀ lo st' /\ Run C (arrOf st') lo n) ?step1 ?fin1 ?start1) ?post1)
        case start1 => exact ⟨rfl, T3, R3⟩
        case fin1 => exact λ c st' h => h
        case post1 =>
          rintro c st4 ⟨rfl, T4, R4⟩
          dsimp only
          refine wpS_bind (wpS_modify ?_)
          refine wpS_bind (wpS_modify (wpS_pure ?_))
          have T5 := T4.pow (i := (pendingOf st4).size - 1) (f := λ x => (x.fst, x.2.fst, pw)) λ x => ⟨rfl, rfl⟩
          exact ⟨rfl, T5.push (by omega) R4, n2, by dsimp only; omega⟩
        case step1 =>
          rintro y c st4 _ _ ⟨rfl, T4, R4⟩
          refine wpS_bind (wpS_get ?_)
          by_cases c3 : (pendingOf st4).size > 1
          . obtain ⟨⟨q1, q2, older⟩, hq⟩ : ∃ z, (pendingOf st4)[(pendingOf st4).size - 2]? = some z := ⟨_, Array.getElem?_eq_getElem (by omega)⟩
            rw [if_pos c3, hq]
            dsimp only
            by_cases c4 : older <= pw
            . rw [if_pos c4]
              exact wpS_pure ⟨rfl, T4, R4⟩
            . rw [if_neg c4]
              refine wpS_bind (mAt_ok G T4.ss T4.ch (by show (pendingOf st4).size - 2 + 1 < (pendingOf st4).size; omega) λ st5 S5 _ ch5 same5 => ?_)
              simp only [Bool.not_true, Bool.false_eq_true, if_false]
              refine wpS_pure ⟨rfl, ⟨S5, ch5⟩, R4.same (by rw [S5.size, T4.ss.size]) λ i hi _ => same5 i hi⟩
          . rw [if_neg c3]
            exact wpS_pure ⟨rfl, T4, R4⟩
  case post =>
    rintro ⟨o, lo⟩ st' ⟨h1, h2⟩
    dsimp only at h1 h2 ⊢
    subst h1
    dsimp only
    refine wpS_bind (wpS_mono (wpS_forRange (I := λ x c st' => c = (none, ()) /\ TS C a₀ N st' /\ (pendingOf st').size <= max 1 (N - x)) (Q := λ c st' => c = (none, ()) /\ TS C a₀ N st' /\ (pendingOf st').size <= 1) ?step2 ?fin2 ?start2) ?post2)
    case start2 =>
      have := h2.ch.le
      exact ⟨rfl, h2, by simp only [Array.length_toList] at this; omega⟩
    case fin2 =>
      rintro c st4 ⟨g1, g2, g3⟩
      exact ⟨g1, g2, by have e : max 0 N = N := by omega
                        rw [e] at g3; omega⟩
    case step2 =>
      rintro x c st4 _ hx ⟨rfl, g2, g3⟩
      refine wpS_bind (wpS_get ?_)
      by_cases c1 : (pendingOf st4).size <= 1
      . rw [if_pos c1]
        exact wpS_pure ⟨rfl, g2, c1⟩
      . rw [if_neg c1]
        refine wpS_bind (mAt_ok G g2.ss g2.ch (ite_lt (a := (pendingOf st4).size - 2 - 1) (b := (pendingOf st4).size - 2) (by omega) (by omega)) λ st5 S5 sz5 ch5 same5 => ?_)
        simp only [Bool.not_true, Bool.false_eq_true, if_false]
        exact wpS_pure ⟨rfl, ⟨S5, ch5⟩, by omega⟩
    case post2 =>
      rintro c st4 ⟨rfl, g2, g3⟩
      dsimp only
      refine wpS_pure (hQ st4 g2.ss ?_)
      have ch := g2.ch
      have hl : (pendingOf st4).toList.length <= 1 := by simpa using g3
      cases hpl : (pendingOf st4).toList with
      | nil =>
        rw [hpl] at ch
        have e : 0 = N := ch
        have sz := g2.ss.size
        exact ⟨by omega, λ i j x y _ _ h3 => by omega⟩
      | cons b r =>
        rw [hpl] at ch hl
        obtain ⟨p, n, q⟩ := b
        have er : r = [] := by
          cases r with
          | nil => rfl
          | cons z r => simp at hl
        subst er
        obtain ⟨e1, _, R, e2⟩ := ch
        have e2 : 0 + n = N := e2
        subst e1
        have e3 : n = a₀.size := by omega
        rw [<- e3]
        exact R
end
end Tim
namespace Hm
variable {α : Type}
structure Ord (ah : α -> α -> Prop) : Prop where
  irr : ∀ a, ¬ ah a a
  tr : ∀ a b c, ah a b -> ah b c -> ah a c
  tri : ∀ a b, ah a b \/ a = b \/ ah b a
theorem Ord.asym {ah : α -> α -> Prop} (O : Ord ah) {a b : α} (h : ah a b) : ¬ ah b a := λ g => O.irr a (O.tr _ _ _ h g)
theorem Ord.ntr {ah : α -> α -> Prop} (O : Ord ah) {a b c : α} (h : ¬ ah a b) (g : ¬ ah b c) : ¬ ah a c := λ z => by
  rcases O.tri a b with q | q | q
  . exact h q
  . subst q; exact g z
  . exact g (O.tr _ _ _ q z)
def Edge (ah : α -> α -> Prop) (xs : List α) (k : Nat) : Prop := ∀ a b, xs[k]? = some a -> xs[(k - 1) / 2]? = some b -> ¬ ah a b
def Form (ah : α -> α -> Prop) (xs : List α) : Prop := ∀ k, 0 < k -> Edge ah xs k
structure Up (ah : α -> α -> Prop) (xs : List α) (k : Nat) : Prop where
  rest : ∀ j, 0 < j -> j ≠ k -> Edge ah xs j
  over : 0 < k -> ∀ j, 0 < j -> (j - 1) / 2 = k -> ∀ a b, xs[j]? = some a -> xs[(k - 1) / 2]? = some b -> ¬ ah a b
structure Down (ah : α -> α -> Prop) (xs : List α) (k : Nat) : Prop where
  rest : ∀ j, 0 < j -> (j - 1) / 2 ≠ k -> Edge ah xs j
  over : 0 < k -> ∀ j, 0 < j -> (j - 1) / 2 = k -> ∀ a b, xs[j]? = some a -> xs[(k - 1) / 2]? = some b -> ¬ ah a b
structure Hole (ah : α -> α -> Prop) (xs : List α) (k : Nat) : Prop where
  rest : ∀ j, 0 < j -> j ≠ k -> (j - 1) / 2 ≠ k -> Edge ah xs j
  over : 0 < k -> ∀ j, 0 < j -> (j - 1) / 2 = k -> ∀ a b, xs[j]? = some a -> xs[(k - 1) / 2]? = some b -> ¬ ah a b
theorem Up.form {ah : α -> α -> Prop} {xs : List α} {k : Nat} (U : Up ah xs k) (h : 0 < k -> Edge ah xs k) : Form ah xs := λ j hj => by
  by_cases e : j = k
  . subst e; exact h hj
  . exact U.rest j hj e
theorem Down.form {ah : α -> α -> Prop} {xs : List α} {k : Nat} (U : Down ah xs k) (h : ∀ j, 0 < j -> (j - 1) / 2 = k -> Edge ah xs j) : Form ah xs := λ j hj => by
  by_cases e : (j - 1) / 2 = k
  . exact h j hj e
  . exact U.rest j hj e
theorem Hole.down {ah : α -> α -> Prop} {xs : List α} {k : Nat} (U : Hole ah xs k) (h : 0 < k -> Edge ah xs k) : Down ah xs k :=
  ⟨λ j hj hn => by
    by_cases e : j = k
    . subst e; exact h hj
    . exact U.rest j hj e hn, U.over⟩
theorem Hole.up {ah : α -> α -> Prop} (O : Ord ah) {xs : List α} {k : Nat} (U : Hole ah xs k) {a b : α} (ha : xs[k]? = some a) (hb : xs[(k - 1) / 2]? = some b) (hk : 0 < k) (h : ah a b) : Up ah xs k :=
  ⟨λ j hj hn => by
    by_cases e : (j - 1) / 2 = k
    . intro c d hc hd
      rw [e, ha] at hd; cases hd
      intro z
      exact U.over hk j hj e c b hc hb (O.tr _ _ _ z h)
    . exact U.rest j hj hn e, U.over⟩
theorem Form.up {ah : α -> α -> Prop} {xs : List α} (F : Form ah xs) (O : Ord ah) (k : Nat) : Up ah xs k :=
  ⟨λ j hj _ => F j hj, λ hk j hj e a b ha hb => by
    cases hc : xs[k]? with
    | none =>
      have h1 : xs.length <= k := List.getElem?_eq_none_iff.mp hc
      have h2 : j < xs.length := (List.getElem?_eq_some_iff.mp ha).1
      omega
    | some c => exact O.ntr (F j hj a c ha (by rw [e]; exact hc)) (F k hk c b hc hb)⟩
theorem Form.push {ah : α -> α -> Prop} {xs : List α} (F : Form ah xs) (y : α) : Up ah (xs ++ [y]) xs.length := by
  have old : ∀ {j : Nat}, j < xs.length -> (xs ++ [y])[j]? = xs[j]? := λ h => List.getElem?_append_left h
  have lt : ∀ {j : Nat} {a : α}, (xs ++ [y])[j]? = some a -> j < xs.length + 1 := λ {j a} h => by
    have := (List.getElem?_eq_some_iff.mp h).1
    simpa using this
  refine ⟨λ j hj hn a b ha hb => ?_, λ hk j hj e a b ha hb => ?_⟩
  . have h1 := lt ha
    rw [old (by omega)] at ha
    rw [old (by omega)] at hb
    exact F j hj a b ha hb
  . have h1 := lt ha
    omega
theorem Form.pop {ah : α -> α -> Prop} {xs : List α} (F : Form ah xs) : Form ah xs.dropLast := λ k hk a b ha hb => by
  have old : ∀ {j : Nat} {c : α}, xs.dropLast[j]? = some c -> xs[j]? = some c := λ {j c} h => by
    rw [List.getElem?_dropLast] at h
    split at h
    . exact h
    . cases h
  exact F k hk a b (old ha) (old hb)
theorem Form.put {ah : α -> α -> Prop} {xs : List α} (F : Form ah xs) (O : Ord ah) (k : Nat) (y : α) : Hole ah (xs.set k y) k := by
  have old : ∀ {j : Nat}, j ≠ k -> (xs.set k y)[j]? = xs[j]? := λ h => List.getElem?_set_ne (Ne.symm h)
  refine ⟨λ j hj h1 h2 a b ha hb => ?_, λ hk j hj e a b ha hb => ?_⟩
  . rw [old h1] at ha
    rw [old h2] at hb
    exact F j hj a b ha hb
  . rw [old (by omega)] at ha
    rw [old (by omega)] at hb
    exact (F.up O k).over hk j hj e a b ha hb
def swap (xs : List α) (i j : Nat) (a b : α) : List α := (xs.set i b).set j a
theorem swap_get {xs : List α} {i j : Nat} {a b : α} (hi : xs[i]? = some a) (hj : xs[j]? = some b) (k : Nat) :
    (swap xs i j a b)[k]? = if k = j then some a else if k = i then some b else xs[k]? := by
  have h1 : i < xs.length := (List.getElem?_eq_some_iff.mp hi).1
  have h2 : j < xs.length := (List.getElem?_eq_some_iff.mp hj).1
  unfold swap
  by_cases e : k = j
  . subst e
    rw [if_pos rfl, List.getElem?_set_self (by simpa using h2)]
  . rw [if_neg e, List.getElem?_set_ne (Ne.symm e)]
    by_cases e2 : k = i
    . subst e2
      rw [if_pos rfl, List.getElem?_set_self h1]
    . rw [if_neg e2, List.getElem?_set_ne (Ne.symm e2)]
theorem Up.step {ah : α -> α -> Prop} (O : Ord ah) {xs : List α} {k : Nat} (U : Up ah xs k) {a b : α} (hk : 0 < k) (ha : xs[k]? = some a) (hb : xs[(k - 1) / 2]? = some b) (h : ah a b) : Up ah (swap xs k ((k - 1) / 2) a b) ((k - 1) / 2) := by
  have g := swap_get (j := (k - 1) / 2) ha hb
  refine ⟨λ j hj hn c d hc hd => ?_, λ hp j hj e c d hc hd => ?_⟩
  . rw [g] at hc hd
    rw [if_neg hn] at hc
    by_cases e1 : j = k
    . subst e1
      rw [if_pos rfl] at hc; cases hc
      rw [if_pos rfl] at hd; cases hd
      exact O.asym h
    . rw [if_neg e1] at hc
      by_cases e2 : (j - 1) / 2 = (k - 1) / 2
      . rw [if_pos e2] at hd; cases hd
        intro z
        exact U.rest j hj e1 c b hc (by rw [e2]; exact hb) (O.tr _ _ _ z h)
      . rw [if_neg e2] at hd
        by_cases e3 : (j - 1) / 2 = k
        . rw [if_pos e3] at hd; cases hd
          exact U.over hk j hj e3 c b hc hb
        . rw [if_neg e3] at hd
          exact U.rest j hj e1 c d hc hd
  . have q1 : ((k - 1) / 2 - 1) / 2 ≠ (k - 1) / 2 := by omega
    have q2 : ((k - 1) / 2 - 1) / 2 ≠ k := by omega
    have q3 : (k - 1) / 2 ≠ k := by omega
    rw [g, if_neg q1, if_neg q2] at hd
    rw [g, if_neg (by omega)] at hc
    have hpe : ¬ ah b d := U.rest _ hp q3 b d hb hd
    by_cases e1 : j = k
    . rw [if_pos e1] at hc; cases hc
      exact hpe
    . rw [if_neg e1] at hc
      exact O.ntr (U.rest j hj e1 c b hc (by rw [e]; exact hb)) hpe
theorem Down.step {ah : α -> α -> Prop} (O : Ord ah) {xs : List α} {k c : Nat} (U : Down ah xs k) {a b : α} (hc0 : 0 < c) (hck : (c - 1) / 2 = k) (ha : xs[k]? = some a) (hb : xs[c]? = some b) (h : ah b a)
    (best : ∀ j d, 0 < j -> (j - 1) / 2 = k -> xs[j]? = some d -> ¬ ah d b) : Down ah (swap xs k c a b) c := by
  have g := swap_get (i := k) (j := c) ha hb
  refine ⟨λ j hj hn d e hd he => ?_, λ _ j hj e d f hd hf => ?_⟩
  . rw [g] at hd he
    rw [if_neg hn] at he
    by_cases e1 : j = c
    . rw [if_pos e1] at hd; cases hd
      rw [if_pos (by rw [e1]; exact hck)] at he; cases he
      exact O.asym h
    . rw [if_neg e1] at hd
      by_cases e2 : (j - 1) / 2 = k
      . rw [if_pos e2] at he; cases he
        rw [if_neg (by omega)] at hd
        exact best j d hj e2 hd
      . rw [if_neg e2] at he
        by_cases e3 : j = k
        . rw [if_pos e3] at hd; cases hd
          subst e3
          exact U.over hj c hc0 hck b e hb he
        . rw [if_neg e3] at hd
          exact U.rest j hj e2 d e hd he
  . rw [g, if_neg (by omega), if_neg (by omega)] at hd
    rw [hck, g, if_neg (by omega), if_pos rfl] at hf; cases hf
    exact U.rest j hj (by omega) d b hd (by rw [e]; exact hb)
theorem form_top {ah : α -> α -> Prop} (O : Ord ah) {xs : List α} (F : Form ah xs) {t : α} (h0 : xs[0]? = some t) : ∀ (k : Nat) (a : α), xs[k]? = some a -> ¬ ah a t
  | k, a, h => by
    induction k using Nat.strongRecOn generalizing a with
    | _ k ih =>
      by_cases hk : k = 0
      . subst hk
        rw [h0] at h; cases h
        exact O.irr _
      . have hl : k < xs.length := (List.getElem?_eq_some_iff.mp h).1
        obtain ⟨b, hb⟩ : ∃ b, xs[(k - 1) / 2]? = some b := ⟨_, List.getElem?_eq_getElem (by omega : (k - 1) / 2 < xs.length)⟩
        exact O.ntr (F k (by omega) a b h hb) (ih ((k - 1) / 2) (by omega) b hb)
def path : Nat -> List Nat
  | 0 => [0]
  | k + 1 => (k + 1) :: path (k / 2)
termination_by k => k
decreasing_by omega
theorem path_zero : path 0 = [0] := by rw [path]
theorem path_pos {k : Nat} (h : 0 < k) : path k = k :: path ((k - 1) / 2) := by
  obtain ⟨j, rfl⟩ : ∃ j, k = j + 1 := ⟨k - 1, by omega⟩
  rw [path]
  rfl
theorem path_self (k : Nat) : k ∈ path k := by
  by_cases h : k = 0
  . subst h; rw [path_zero]; exact List.mem_singleton.mpr rfl
  . rw [path_pos (by omega)]; exact List.mem_cons_self
theorem path_up {k : Nat} (h : 0 < k) {i : Nat} (hi : i ∈ path ((k - 1) / 2)) : i ∈ path k := by
  rw [path_pos h]
  exact List.mem_cons_of_mem _ hi
theorem path_length : ∀ k : Nat, (path k).length = Nat.log2 (k + 1) + 1 := λ k => by
  induction k using Nat.strongRecOn with
  | _ k ih =>
    by_cases h : k = 0
    . subst h; rw [path_zero]; rfl
    . rw [path_pos (by omega), List.length_cons, ih ((k - 1) / 2) (by omega)]
      have e : (k - 1) / 2 + 1 = (k + 1) / 2 := by omega
      rw [e, Nat.log2_def (k + 1), if_pos (by omega)]
def chg [DecidableEq α] : List α -> List α -> Nat
  | [], _ => 0
  | _, [] => 0
  | x :: xs, y :: ys => (if x = y then 0 else 1) + chg xs ys
theorem chg_self [DecidableEq α] : ∀ xs : List α, chg xs xs = 0
  | [] => rfl
  | x :: xs => by simp [chg, chg_self xs]
theorem chg_le [DecidableEq α] : ∀ (xs ys : List α) (S : List Nat), (∀ i a b, xs[i]? = some a -> ys[i]? = some b -> a ≠ b -> i ∈ S) -> chg xs ys <= S.length := by
  have key : ∀ (xs ys : List α) (n : Nat) (S : List Nat), (∀ i a b, xs[i]? = some a -> ys[i]? = some b -> a ≠ b -> n + i ∈ S) -> chg xs ys <= (S.filter λ i => decide (n <= i)).length := by
    intro xs
    induction xs with
    | nil => intro ys n S _; simp [chg]
    | cons x xs ih =>
      intro ys n S h
      cases ys with
      | nil => simp [chg]
      | cons y ys =>
        have h1 := ih ys (n + 1) S λ i a b ha hb hn => by
          have := h (i + 1) a b (by simpa using ha) (by simpa using hb) hn
          rw [show n + 1 + i = n + (i + 1) by omega]
          exact this
        have mono : (S.filter λ i => decide (n + 1 <= i)).length <= (S.filter λ i => decide (n <= i)).length := by
          clear h1 h
          induction S with
          | nil => simp
          | cons s S ih2 =>
            rw [List.filter_cons, List.filter_cons]
            by_cases q : n + 1 <= s
            . rw [if_pos (by simpa using q), if_pos (by simp; omega)]
              simpa using ih2
            . rw [if_neg (by simpa using q)]
              split
              . rw [List.length_cons]; omega
              . exact ih2
        unfold chg
        by_cases e : x = y
        . rw [if_pos e]; omega
        . rw [if_neg e]
          have hm : n ∈ S := by
            have := h 0 x y rfl rfl e
            simpa using this
          have strict : (S.filter λ i => decide (n + 1 <= i)).length + 1 <= (S.filter λ i => decide (n <= i)).length := by
            clear h1 h mono
            induction S with
            | nil => cases hm
            | cons s S ih2 =>
              rw [List.filter_cons, List.filter_cons]
              by_cases q : s = n
              . subst q
                rw [if_neg (by simp), if_pos (by simp), List.length_cons]
                have : ∀ T : List Nat, (T.filter λ i => decide (s + 1 <= i)).length <= (T.filter λ i => decide (s <= i)).length := by
                  intro T
                  induction T with
                  | nil => simp
                  | cons t T ih3 =>
                    rw [List.filter_cons, List.filter_cons]
                    by_cases q : s + 1 <= t
                    . rw [if_pos (by simpa using q), if_pos (by simp; omega)]
                      simpa using ih3
                    . rw [if_neg (by simpa using q)]
                      split
                      . rw [List.length_cons]; omega
                      . exact ih3
                have := this S
                omega
              . have hm2 : n ∈ S := by
                  rcases List.mem_cons.mp hm with z | z
                  . exact absurd z.symm q
                  . exact z
                have := ih2 hm2
                by_cases q2 : n + 1 <= s
                . rw [if_pos (by simpa using q2), if_pos (by simp; omega)]
                  simp only [List.length_cons]
                  omega
                . rw [if_neg (by simpa using q2), if_neg (by simp; omega)]
                  exact this
          omega
  intro xs ys S h
  have := key xs ys 0 S λ i a b ha hb hn => by rw [Nat.zero_add]; exact h i a b ha hb hn
  exact Nat.le_trans this (List.length_filter_le _ _)
theorem chg_path [DecidableEq α] {xs ys : List α} {e n : Nat} (he : e < n) (h : ∀ i a b, xs[i]? = some a -> ys[i]? = some b -> a ≠ b -> i ∈ path e) : chg xs ys <= Nat.log2 n + 1 := by
  refine Nat.le_trans (chg_le xs ys (path e) h) ?_
  rw [path_length]
  have : Nat.log2 (e + 1) <= Nat.log2 n := by
    by_cases q : n = 0
    . omega
    . have h1 : 2 ^ Nat.log2 (e + 1) <= e + 1 := Nat.log2_self_le (by omega)
      rcases Nat.lt_or_ge (Nat.log2 n) (Nat.log2 (e + 1)) with z | z
      . have h2 : n < 2 ^ Nat.log2 (e + 1) := (Nat.log2_lt q).mp z
        omega
      . exact z
  omega
end Hm
namespace L2
open PySem PySem.Spec PyProof.Rows
noncomputable def dcd (p : Prop) : Bool := @decide p (Classical.propDecidable p)
theorem dcd_true {p : Prop} (h : p) : dcd p = true := by unfold dcd; simp [h]
theorem dcd_false {p : Prop} (h : ¬ p) : dcd p = false := by unfold dcd; simp [h]
theorem dcd_iff {p : Prop} : dcd p = true ↔ p := by unfold dcd; simp
theorem dcd_eq {p : Prop} [d : Decidable p] : dcd p = decide p := by
  by_cases h : p
  . rw [dcd_true h, decide_eq_true h]
  . rw [dcd_false h, decide_eq_false h]
theorem dcd_congr {p q : Prop} (h : p ↔ q) : dcd p = dcd q := by
  by_cases z : p
  . rw [dcd_true z, dcd_true (h.mp z)]
  . rw [dcd_false z, dcd_false (λ y => z (h.mpr y))]
structure Kd (D : Type) where
  R : Hp -> V -> D -> Prop
  n : Nat
  fn : ∀ {H : Hp} {x : V} {d e : D}, R H x d -> R H x e -> d = e
  same : ∀ {H H' : Hp} {x : V} {d : D}, Same H H' -> R H x d -> R H' x d
  eq : ∀ {X : Cx} {pins : List (Addr × Obj)} {σ : St} {H : Hp} {s : Shared} {x y : V} {d e : D} {u v : Value} {A : Around}, Inv X pins σ H s -> R H x d -> R H y e -> RelV x u -> RelV y v -> A.units + n < cLine -> SeqAt.EqAt A s u v (dcd (d = e))
def kInt : Kd Int where
  R := λ _ x d => x = .int d
  n := 0
  fn := λ h g => by rw [h] at g; exact V.int.inj g
  same := λ _ h => h
  eq := λ {X pins σ H s x y d e u v A} _ h g ru rv _ => by
    subst h g
    obtain ⟨t, rfl⟩ := ru
    obtain ⟨t', rfl⟩ := rv
    have := SeqAt.EqAt.int_int (A := A) (s := s) d t e t'
    rw [show (d == e) = dcd (d = e) by rw [dcd_eq, Bool.beq_eq_decide_eq]] at this
    exact this
theorem in1_units (A : Around) : A.in1.units = A.units + 1 := rfl
theorem Vals.get2 {xs ys : List V} {us vs : List Value} (r : Vals xs us) (q : Vals ys vs) {j : Nat} (h1 : j < us.length) (h2 : j < vs.length) : ∃ (x y : V), xs[j]? = some x /\ ys[j]? = some y /\ RelV x us[j] /\ RelV y vs[j] := by
  have l1 : j < xs.length := by rw [r.length]; exact h1
  have l2 : j < ys.length := by rw [q.length]; exact h2
  obtain ⟨u, e1, r1⟩ := r.get (List.getElem?_eq_getElem l1)
  obtain ⟨v, e2, r2⟩ := q.get (List.getElem?_eq_getElem l2)
  rw [List.getElem?_eq_getElem h1] at e1
  rw [List.getElem?_eq_getElem h2] at e2
  cases e1; cases e2
  exact ⟨_, _, List.getElem?_eq_getElem l1, List.getElem?_eq_getElem l2, r1, r2⟩
end L2
namespace PySem
open L2
theorem Paired.get {α β : Type} {F : α -> β -> Prop} : ∀ {xs : List α} {ds : List β} {j : Nat} {x : α}, Paired F xs ds -> xs[j]? = some x -> ∃ d, ds[j]? = some d /\ F x d
  | _, _, _, _, .nil, e => by simp at e
  | _, _, 0, _, .cons r _, e => by simp at e; subst e; exact ⟨_, rfl, r⟩
  | _, _, j + 1, _, .cons _ t, e => by
    obtain ⟨d, e', r⟩ := Paired.get (j := j) t (by simpa using e)
    exact ⟨d, by simpa using e', r⟩
theorem Paired.get' {α β : Type} {F : α -> β -> Prop} : ∀ {xs : List α} {ds : List β} {j : Nat} {d : β}, Paired F xs ds -> ds[j]? = some d -> ∃ x, xs[j]? = some x /\ F x d
  | _, _, _, _, .nil, e => by simp at e
  | _, _, 0, _, .cons r _, e => by simp at e; subst e; exact ⟨_, rfl, r⟩
  | _, _, j + 1, _, .cons _ t, e => by
    obtain ⟨d, e', r⟩ := Paired.get' (j := j) t (by simpa using e)
    exact ⟨d, by simpa using e', r⟩
theorem Paired.len {α β : Type} {F : α -> β -> Prop} {xs : List α} {ds : List β} (p : Paired F xs ds) : xs.length = ds.length := Paired.length p
theorem Paired.app {α β : Type} {F : α -> β -> Prop} : ∀ {xs ys : List α} {ds es : List β}, Paired F xs ds -> Paired F ys es -> Paired F (xs ++ ys) (ds ++ es)
  | _, _, _, _, .nil, s => s
  | _, _, _, _, .cons r t, s => .cons r (Paired.app t s)
theorem Paired.unf {α β : Type} {F : α -> β -> Prop} (hf : ∀ a b c, F a b -> F a c -> b = c) : ∀ {xs : List α} {ds es : List β}, Paired F xs ds -> Paired F xs es -> ds = es
  | _, _, _, .nil, .nil => rfl
  | _, _, _, .cons r t, .cons r' t' => by rw [hf _ _ _ r r', Paired.unf hf t t']
theorem Paired.map' {α β : Type} {F G : α -> β -> Prop} (h : ∀ a b, F a b -> G a b) {xs : List α} {ds : List β} (p : Paired F xs ds) : Paired G xs ds := Paired.mapP p h
end PySem
namespace L2
open PySem PySem.Spec PyProof.Rows
theorem all_range {D : Type} {ds es : List D} {e : Nat -> Bool} (hl : ds.length = es.length) (he : ∀ j, j < ds.length -> (e j = true ↔ ds[j]? = es[j]?)) : (List.range ds.length).all e = dcd (ds = es) := by
  by_cases h : ds = es
  . rw [dcd_true h, List.all_eq_true]
    intro j hj
    rw [he j (List.mem_range.mp hj), h]
  . rw [dcd_false h]
    cases z : (List.range ds.length).all e with
    | false => rfl
    | true =>
      refine absurd (List.ext_getElem? λ j => ?_) h
      by_cases hj : j < ds.length
      . exact (he j hj).mp (List.all_eq_true.mp z j (List.mem_range.mpr hj))
      . rw [List.getElem?_eq_none (by omega), List.getElem?_eq_none (by omega)]
section
variable {X : Cx} {pins : List (Addr × Obj)} {σ : St} {H : Hp} {s : Shared} {A : Around} {D : Type} (k : Kd D) {a b : Addr} {xs ys : List V} {ds es : List D}
theorem items_eq (I : Inv X pins σ H s) (px : Paired (k.R H) xs ds) (py : Paired (k.R H) ys es) {us vs : List Value} (rx : Vals xs us) (ry : Vals ys vs) (hu : A.units + k.n < cLine) :
    ∀ j (h1 : j < us.toArray.size) (h2 : j < vs.toArray.size), SeqAt.EqAt A s us.toArray[j] vs.toArray[j] (dcd (ds[j]? = es[j]?)) := by
  intro j h1 h2
  have h1' : j < us.length := by simpa using h1
  have h2' : j < vs.length := by simpa using h2
  obtain ⟨x, y, ex, ey, r1, r2⟩ := rx.get2 ry h1' h2'
  obtain ⟨d, ed, fd⟩ := px.get ex
  obtain ⟨e, ee, fe⟩ := py.get ey
  have := k.eq I fd fe r1 r2 hu
  rw [ed, ee]
  rw [show dcd (some d = some e) = dcd (d = e) from dcd_congr (by simp)]
  simpa using this
theorem rc_lists (I : Inv X pins σ H s) (ha : H a = some (.lst xs)) (hb : H b = some (.lst ys)) (px : Paired (k.R H) xs ds) (py : Paired (k.R H) ys es) (hu : A.units + (k.n + 1) < cLine) :
    SeqAt.RcAt A s (.ref a) (.ref b) (dcd (ds = es)) /\ SeqAt.RcNeAt A s (.ref a) (.ref b) (!dcd (ds = es)) := by
  obtain ⟨us, rx, plx, _⟩ := I.list (SqL.of ha)
  obtain ⟨vs, ry, ply, _⟩ := I.list (SqL.of hb)
  have hu0 : A.units < cLine := by omega
  have hu1 : A.in1.units + k.n < cLine := by rw [in1_units]; omega
  have it := items_eq (A := A.in1) k I px py rx ry hu1
  have l1 : us.toArray.size = ds.length := by rw [List.size_toArray, <- rx.length, px.len]
  have l2 : vs.toArray.size = es.length := by rw [List.size_toArray, <- ry.length, py.len]
  by_cases hl : ds.length = es.length
  . have e1 := all_range (e := λ j => dcd (ds[j]? = es[j]?)) hl λ j _ => dcd_iff
    have z1 := SeqAt.RcAt.lists plx.isList ply.isList (by omega) hu0 it
    have z2 := SeqAt.RcNeAt.lists plx.isList ply.isList (by omega) hu0 it
    rw [l1, e1] at z1 z2
    exact ⟨z1, z2⟩
  . have e1 : dcd (ds = es) = false := dcd_false λ z => hl (by rw [z])
    have hs : (us.toArray.size != vs.toArray.size) = true := by rw [l1, l2]; simpa using hl
    rw [e1]
    exact ⟨SeqAt.RcAt.lists_lengths plx.isList ply.isList hs hu0, SeqAt.RcNeAt.lists_lengths plx.isList ply.isList hs hu0⟩
end
def kLst {D : Type} (k : Kd D) : Kd (List D) where
  R := λ H x ds => ∃ a xs, x = .ref a /\ H a = some (.lst xs) /\ Paired (k.R H) xs ds
  n := k.n + 1
  fn := λ ⟨a, xs, h1, h2, h3⟩ ⟨b, ys, g1, g2, g3⟩ => by
    subst h1; cases g1; rw [h2] at g2; cases g2
    exact Paired.unf (F := k.R _) (λ _ _ _ p q => k.fn p q) h3 g3
  same := λ s ⟨a, xs, h1, h2, h3⟩ => ⟨a, xs, h1, s _ _ h2, h3.map' λ _ _ q => k.same s q⟩
  eq := λ {X pins σ H s x y d e u v A} I ⟨a, xs, h1, h2, h3⟩ ⟨b, ys, g1, g2, g3⟩ ru rv hu => by
    subst h1 g1
    obtain rfl := (show u = Value.ref a from ru)
    obtain rfl := (show v = Value.ref b from rv)
    by_cases hab : a = b
    . subst hab
      rw [h2] at g2; cases g2
      rw [dcd_true (Paired.unf (F := k.R _) (λ _ _ _ p q => k.fn p q) h3 g3)]
      exact SeqAt.EqAt.same _
    . exact SeqAt.EqAt.of_refs hab (rc_lists k I h2 g2 h3 g3 hu).1
section
variable {X : Cx} {pins : List (Addr × Obj)} {σ : St} {H : Hp} {s : Shared} {A : Around} {D1 D2 : Type} (k1 : Kd D1) (k2 : Kd D2) {a b : Addr} {x1 x2 y1 y2 : V} {d e : D1 × D2}
theorem rc_tup2 (I : Inv X pins σ H s) (ha : H a = some (.tup [x1, x2])) (hb : H b = some (.tup [y1, y2])) (p1 : k1.R H x1 d.1) (p2 : k2.R H x2 d.2) (q1 : k1.R H y1 e.1) (q2 : k2.R H y2 e.2) (hu : A.units + (max k1.n k2.n + 1) < cLine) :
    SeqAt.RcAt A s (.ref a) (.ref b) (dcd (d = e)) /\ SeqAt.RcNeAt A s (.ref a) (.ref b) (!dcd (d = e)) := by
  obtain ⟨us, rx, plx, _⟩ := I.tuple (SqT.of ha)
  obtain ⟨vs, ry, ply, _⟩ := I.tuple (SqT.of hb)
  obtain ⟨u1, u2, rfl, r1, r2⟩ := vals2 rx
  obtain ⟨v1, v2, rfl, s1, s2⟩ := vals2 ry
  have hu0 : A.units < cLine := by omega
  have e1 := k1.eq (A := A.in1) I p1 q1 r1 s1 (by rw [in1_units]; omega)
  have e2 := k2.eq (A := A.in1) I p2 q2 r2 s2 (by rw [in1_units]; omega)
  have it : ∀ j (h1 : j < [u1, u2].toArray.size) (h2 : j < [v1, v2].toArray.size), SeqAt.EqAt A.in1 s [u1, u2].toArray[j] [v1, v2].toArray[j] (if j = 0 then dcd (d.1 = e.1) else dcd (d.2 = e.2)) := by
    intro j h1 h2
    match j, h1 with
    | 0, _ => exact e1
    | 1, _ => exact e2
    | j + 2, h1 => simp at h1; omega
  have z1 := SeqAt.RcAt.tuples plx ply hu0 it
  have z2 := SeqAt.RcNeAt.tuples plx ply hu0 it
  have ez : ((List.range (min [u1, u2].toArray.size [v1, v2].toArray.size)).all (λ j => if j = 0 then dcd (d.1 = e.1) else dcd (d.2 = e.2)) && [u1, u2].toArray.size == [v1, v2].toArray.size) = dcd (d = e) := by
    have : (List.range (min [u1, u2].toArray.size [v1, v2].toArray.size)) = [0, 1] := rfl
    rw [this]
    obtain ⟨d1, d2⟩ := d
    obtain ⟨f1, f2⟩ := e
    by_cases h1 : d1 = f1 <;> by_cases h2 : d2 = f2
    . rw [dcd_true (show (d1, d2) = (f1, f2) by rw [h1, h2])]; simp [dcd_true h1, dcd_true h2]
    . rw [dcd_false (show ¬ (d1, d2) = (f1, f2) by simp [h2])]; simp [dcd_false h2]
    . rw [dcd_false (show ¬ (d1, d2) = (f1, f2) by simp [h1])]; simp [dcd_false h1]
    . rw [dcd_false (show ¬ (d1, d2) = (f1, f2) by simp [h1])]; simp [dcd_false h1]
  rw [ez] at z1 z2
  exact ⟨z1, z2⟩
end
def kTup {D1 D2 : Type} (k1 : Kd D1) (k2 : Kd D2) : Kd (D1 × D2) where
  R := λ H x d => ∃ a x1 x2, x = .ref a /\ H a = some (.tup [x1, x2]) /\ k1.R H x1 d.1 /\ k2.R H x2 d.2
  n := max k1.n k2.n + 1
  fn := λ {H x d e} ⟨a, x1, x2, h1, h2, h3, h4⟩ ⟨b, y1, y2, g1, g2, g3, g4⟩ => by
    subst h1; cases g1; rw [h2] at g2; cases g2
    exact Prod.ext (k1.fn h3 g3) (k2.fn h4 g4)
  same := λ s ⟨a, x1, x2, h1, h2, h3, h4⟩ => ⟨a, x1, x2, h1, s _ _ h2, k1.same s h3, k2.same s h4⟩
  eq := λ {X pins σ H s x y d e u v A} I ⟨a, x1, x2, h1, h2, h3, h4⟩ ⟨b, y1, y2, g1, g2, g3, g4⟩ ru rv hu => by
    subst h1 g1
    obtain rfl := (show u = Value.ref a from ru)
    obtain rfl := (show v = Value.ref b from rv)
    by_cases hab : a = b
    . subst hab
      rw [h2] at g2; cases g2
      rw [dcd_true (Prod.ext (k1.fn h3 g3) (k2.fn h4 g4))]
      exact SeqAt.EqAt.same _
    . exact SeqAt.EqAt.of_refs hab (rc_tup2 k1 k2 I h2 g2 h3 h4 g3 g4 hu).1
abbrev kPair : Kd (Int × Int) := kTup kInt kInt
theorem kPair_of {H : Hp} {a : Addr} {p : Int × Int} (h : H a = some (.tup [.int p.1, .int p.2])) : kPair.R H (.ref a) p := ⟨a, _, _, rfl, h, rfl, rfl⟩
theorem kPair_at {H : Hp} {x : V} {p : Int × Int} (h : kPair.R H x p) : ∃ a, x = .ref a /\ H a = some (.tup [.int p.1, .int p.2]) := by
  obtain ⟨a, x1, x2, rfl, h2, h3, h4⟩ := h
  obtain rfl := (show x1 = V.int p.1 from h3)
  obtain rfl := (show x2 = V.int p.2 from h4)
  exact ⟨a, rfl, h2⟩
section
variable {X : Cx} {D : Type} [DecidableEq D] (k : Kd D)
def rEqD : R2 := λ x y H Q => ∃ d e, k.R H x d /\ k.R H y e /\ Q (.bl (decide (d = e))) H
def rNeD : R2 := λ x y H Q => ∃ d e, k.R H x d /\ k.R H y e /\ Q (.bl (!decide (d = e))) H
end
section
variable {X : Cx} {D D1 D2 : Type} [DecidableEq D] [DecidableEq D1] [DecidableEq D2] (k : Kd D) (k1 : Kd D1) (k2 : Kd D2)
theorem op_eqL (hu : X.A.units + (k.n + 1) < cLine) : OpR X (compareOp .Eq) (rEqD (kLst k)) := by
  rintro pins s σ H x y u v Q I ru rv ⟨d, e, ⟨a, xs, rfl, ha, pa⟩, ⟨b, ys, rfl, hb, pb⟩, q⟩
  obtain rfl := (show u = Value.ref a from ru)
  obtain rfl := (show v = Value.ref b from rv)
  exact (rc_lists k I ha hb pa pb hu).1 _ _ _ _ ⟨.bl _, H, I, rfl, by rw [dcd_eq]; exact q⟩
theorem op_neL (hu : X.A.units + (k.n + 1) < cLine) : OpR X (compareOp .NotEq) (rNeD (kLst k)) := by
  rintro pins s σ H x y u v Q I ru rv ⟨d, e, ⟨a, xs, rfl, ha, pa⟩, ⟨b, ys, rfl, hb, pb⟩, q⟩
  obtain rfl := (show u = Value.ref a from ru)
  obtain rfl := (show v = Value.ref b from rv)
  exact (rc_lists k I ha hb pa pb hu).2 _ _ _ _ ⟨.bl _, H, I, rfl, by rw [dcd_eq]; exact q⟩
theorem op_neT (hu : X.A.units + (max k1.n k2.n + 1) < cLine) : OpR X (compareOp .NotEq) (rNeD (kTup k1 k2)) := by
  rintro pins s σ H x y u v Q I ru rv ⟨d, e, ⟨a, x1, x2, rfl, ha, p1, p2⟩, ⟨b, y1, y2, rfl, hb, q1, q2⟩, q⟩
  obtain rfl := (show u = Value.ref a from ru)
  obtain rfl := (show v = Value.ref b from rv)
  exact (rc_tup2 k1 k2 I ha hb p1 p2 q1 q2 hu).2 _ _ _ _ ⟨.bl _, H, I, rfl, by rw [dcd_eq]; exact q⟩
end
end L2
namespace L2
open PySem PySem.Spec PyProof.Rows
section
variable {X : Cx} {pins : List (Addr × Obj)} {σ : St} {H : Hp} {s : Shared} {A : Around} {D : Type} (k : Kd D) {a b : Addr} {xs ys : List V} {ds es : List D}
noncomputable def ansD (H : Hp) (xs : List V) (d : D) : Value -> Bool := λ u => dcd (∃ y, y ∈ xs /\ RelV y u /\ k.R H y d)
theorem ans_at {us : List Value} {x : V} {v : Value} {d : D} (px : Paired (k.R H) xs ds) (r : Vals xs us) {j : Nat} {u : Value} (hj : us[j]? = some u) : ∃ y dy, xs[j]? = some y /\ ds[j]? = some dy /\ RelV y u /\ k.R H y dy /\ ansD k H xs d u = dcd (dy = d) := by
  have hl : j < us.length := (List.getElem?_eq_some_iff.mp hj).1
  have hx : j < xs.length := by rw [r.length]; exact hl
  obtain ⟨w, e, rw'⟩ := r.get (List.getElem?_eq_getElem hx)
  rw [hj] at e; cases e
  obtain ⟨dy, ed, fd⟩ := px.get (List.getElem?_eq_getElem hx)
  refine ⟨_, dy, List.getElem?_eq_getElem hx, ed, rw', fd, dcd_congr ⟨λ ⟨y, _, r2, f2⟩ => ?_, λ z => ⟨_, List.getElem_mem hx, rw', z ▸ fd⟩⟩⟩
  have := r2.inj rw'
  subst this
  exact k.fn fd f2
theorem ans_ok {us : List Value} {x : V} {v : Value} {d : D} (I : Inv X pins σ H s) (px : Paired (k.R H) xs ds) (r : Vals xs us) (hd : k.R H x d) (rx : RelV x v) (hu : A.units + k.n < cLine) :
    ∀ u, u ∈ us.toArray -> SeqAt.EqAt A s u v (ansD k H xs d u) := by
  intro u hm
  obtain ⟨j, hj⟩ := List.getElem?_of_mem (show u ∈ us by simpa using hm)
  obtain ⟨y, dy, _, _, ry, fy, e⟩ := ans_at (x := x) (v := v) (d := d) k px r hj
  rw [e]
  exact k.eq I fy hd ry rx hu
theorem ans_any {us : List Value} {x : V} {v : Value} {d : D} (px : Paired (k.R H) xs ds) (r : Vals xs us) : us.toArray.any (ansD k H xs d) = dcd (d ∈ ds) := by
  by_cases h : d ∈ ds
  . rw [dcd_true h]
    obtain ⟨j, hj⟩ := List.getElem?_of_mem h
    have hl : j < us.length := by rw [<- r.length, px.len]; exact (List.getElem?_eq_some_iff.mp hj).1
    obtain ⟨y, dy, _, e2, _, _, e⟩ := ans_at (x := x) (v := v) (d := d) k px r (List.getElem?_eq_getElem hl)
    rw [hj] at e2; cases e2
    rw [Array.any_eq_true]
    exact ⟨j, by simpa using hl, by rw [dcd_true rfl] at e; simpa using e⟩
  . rw [dcd_false h]
    cases z : us.toArray.any (ansD k H xs d) with
    | false => rfl
    | true =>
      rw [Array.any_eq_true] at z
      obtain ⟨j, hj, z⟩ := z
      have hl : j < us.length := by simpa using hj
      obtain ⟨y, dy, _, e2, _, _, e⟩ := ans_at (x := x) (v := v) (d := d) k px r (List.getElem?_eq_getElem hl)
      have z' : ansD k H xs d us[j] = true := by simpa using z
      rw [e, dcd_iff] at z'
      subst z'
      exact absurd (List.mem_of_getElem? e2) h
end
section
variable {X : Cx} {D : Type} [DecidableEq D] (k : Kd D)
def rInD (neg : Bool) : R2 := λ x y H Q => ∃ d ds, k.R H x d /\ (kLst k).R H y ds /\ Q (.bl (if neg then !decide (d ∈ ds) else decide (d ∈ ds))) H
theorem op_inD (hu : X.A.units + (k.n + 1) < cLine) : OpR X (compareOp .In) (rInD k false) := by
  rintro pins s σ H x y u v Q I ru rv ⟨d, ds, hd, ⟨b, ys, rfl, hb, pb⟩, q⟩
  obtain rfl := (show v = Value.ref b from rv)
  obtain ⟨vs, ry, ply, _⟩ := I.list (SqL.of hb)
  refine SeqAt.in_listAt (ansD k H ys d) ply.isList (ans_ok (A := X.A.in1) k I pb ry hd ru (by rw [in1_units]; omega)) ⟨.bl _, H, I, rfl, ?_⟩
  rw [ans_any (x := x) (v := u) k pb ry, dcd_eq]
  exact q
theorem op_notInD (hu : X.A.units + (k.n + 1) < cLine) : OpR X (compareOp .NotIn) (rInD k true) := by
  rintro pins s σ H x y u v Q I ru rv ⟨d, ds, hd, ⟨b, ys, rfl, hb, pb⟩, q⟩
  obtain rfl := (show v = Value.ref b from rv)
  obtain ⟨vs, ry, ply, _⟩ := I.list (SqL.of hb)
  refine SeqAt.notIn_listAt (ansD k H ys d) ply.isList (ans_ok (A := X.A.in1) k I pb ry hd ru (by rw [in1_units]; omega)) ⟨.bl _, H, I, rfl, ?_⟩
  rw [ans_any (x := x) (v := u) k pb ry, dcd_eq]
  exact q
def rIndexD : V -> List V -> Hp -> VK -> Prop := λ x vs H Q => ∃ l y xs ds d j, x = .ref l /\ vs = [y] /\ H l = some (.lst xs) /\ Paired (k.R H) xs ds /\ k.R H y d /\ ds[j]? = some d /\ (∀ i, i < j -> ds[i]? ≠ some d) /\ Q (.int (j : Nat)) H
theorem mt_indexD (hu : X.A.units + (k.n + 1) < cLine) : MtM X "list.index" (rIndexD k) := by
  intro pins s σ H x vs v us Q I rx rv h
  obtain ⟨l, y, xs, ds, d, j, rfl, rfl, hH, px, hd, hj, hno, q⟩ := h
  cases rx
  obtain ⟨u, rfl, ru⟩ := rv.one
  obtain ⟨z, its, n, r, hl, e⟩ := I.lstM hH
  have hjl : j < its.length := by rw [<- r.length, px.len]; exact (List.getElem?_eq_some_iff.mp hj).1
  have hsm : (j : Int) < 2 ^ 63 - 1 := by
    have h1 : its.length <= sizeLine := by rw [<- hl]; exact z
    have h2 : sizeLine + 1 < 9223372036854775808 := by rw [sizeLine_eq]; decide
    omega
  have hty : s.TypeIs (.ref l) "list" := ⟨_, e, rfl⟩
  refine call_meets PySem.F.slot_list_index hty PySem.F.entry_list_index (PySem.F.args_list_index_2 _ _)
    (SeqAt.list_indexAt l its.toArray n none #[] u (ansD k H xs d) j (by simpa using hjl) hsm ?_ ?_) ⟨e, ans_ok (A := X.A.in1) k I px r hd ru (by rw [in1_units]; omega), ?_⟩
  . obtain ⟨_, dy, _, e2, _, _, e3⟩ := ans_at (x := y) (v := u) (d := d) k px r (List.getElem?_eq_getElem hjl)
    rw [hj] at e2; cases e2
    rw [dcd_true rfl] at e3
    simpa using e3
  . intro m hm hmj
    have hml : m < its.length := by simpa using hm
    obtain ⟨_, dy, _, e2, _, _, e3⟩ := ans_at (x := y) (v := u) (d := d) k px r (List.getElem?_eq_getElem hml)
    rw [dcd_false (λ z => hno m hmj (by rw [e2, z]))] at e3
    simpa using e3
  . exact ⟨.int j, H, I.tok _, ⟨_, rfl⟩, q⟩
end
section
variable {X : Cx}
end
end L2
namespace L2
open PySem PySem.Spec PyProof.Rows PySem.W
def pLt (a b : Int × Int) : Bool := decide (a.1 < b.1) || (decide (a.1 = b.1) && decide (a.2 < b.2))
theorem pLt_iff {a b : Int × Int} : pLt a b = true ↔ a.1 < b.1 \/ (a.1 = b.1 /\ a.2 < b.2) := by simp [pLt]
theorem pLt_no {a b : Int × Int} : pLt a b = false ↔ b.1 < a.1 \/ (a.1 = b.1 /\ b.2 <= a.2) := by
  rw [<- Bool.not_eq_true, pLt_iff]
  omega
theorem pLt_irr (a : Int × Int) : pLt a a = false := by rw [pLt_no]; omega
theorem pLt_tr {a b c : Int × Int} (h : pLt a b = true) (g : pLt b c = true) : pLt a c = true := by
  rw [pLt_iff] at *; omega
theorem pLt_ntr {a b c : Int × Int} (h : pLt a b = false) (g : pLt b c = false) : pLt a c = false := by
  rw [pLt_no] at *; omega
theorem pLt_tri (a b : Int × Int) : pLt a b = true \/ a = b \/ pLt b a = true := by
  rw [pLt_iff, pLt_iff]
  obtain ⟨a1, a2⟩ := a
  obtain ⟨b1, b2⟩ := b
  simp only [Prod.mk.injEq]
  omega
theorem lexLt_pair (a b : Int × Int) : HT.lexLt [a.1, a.2] [b.1, b.2] = pLt a b := by
  unfold HT.lexLt HT.lexLt HT.lexLt pLt
  by_cases h : a.1 = b.1
  . rw [if_pos h]
    by_cases g : a.2 = b.2
    . rw [if_pos g]; simp [h, g]
    . rw [if_neg g]; simp [h]
  . rw [if_neg h]; simp [h]
theorem sorted_unique : ∀ {l r : List (Int × Int)}, l.Perm r -> l.Pairwise (λ a b => pLt b a = false) -> r.Pairwise (λ a b => pLt b a = false) -> l = r := by
  intro l
  induction l with
  | nil => intro r h _ _; exact (List.nil_perm.mp h).symm
  | cons x l ih =>
    intro r h hl hr
    cases r with
    | nil => exact absurd h.symm (List.nil_perm.mp · |> λ e => by cases e)
    | cons y r =>
      have hx : pLt y x = false \/ x = y := by
        have : y ∈ x :: l := h.mem_iff.mpr (List.mem_cons_self)
        rcases List.mem_cons.mp this with e | e
        . exact .inr e.symm
        . exact .inl ((List.pairwise_cons.mp hl).1 y e)
      have hy : pLt x y = false \/ x = y := by
        have : x ∈ y :: r := h.mem_iff.mp (List.mem_cons_self)
        rcases List.mem_cons.mp this with e | e
        . exact .inr e
        . exact .inl ((List.pairwise_cons.mp hr).1 x e)
      have e : x = y := by
        rcases hx with hx | hx
        . rcases hy with hy | hy
          . rcases pLt_tri x y with z | z | z
            . rw [hy] at z; cases z
            . exact z
            . rw [hx] at z; cases z
          . exact hy
        . exact hx
      subst e
      rw [ih (List.Perm.cons_inv h) (List.pairwise_cons.mp hl).2 (List.pairwise_cons.mp hr).2]
section
variable {prog : Program} {w : World} {A : Around} {E : Value -> Shared -> Prop} {s : Shared} (f : Addr -> Int × Int)
def PairVal (h : Heap) (v : Value) : Prop := ∃ a t u, v = .ref a /\ IsTup h a #[.int (f a).1 t, .int (f a).2 u]
def keyV : Value -> Int × Int
  | .ref a => f a
  | _ => (0, 0)
theorem pair_lt {x y : Value} {Q : Bool -> Shared -> Prop} (hx : PairVal f s.heap x) (hy : PairVal f s.heap y) (h : Q (pLt (keyV f x) (keyV f y)) s) : wpAny (model prog w) A (keyLt' (tuples' true) x y) Q E s := by
  obtain ⟨a, t, u, rfl, o, ho, hc, n, hd⟩ := hx
  obtain ⟨b, t', u', rfl, o', ho', hc', n', hd'⟩ := hy
  refine kat_lt ho hd ho' hd' (kat_cons ?_)
  refine SeqAt.EqAt.int_int _ _ _ _ _ _ _ _ ?_
  refine kat_go (λ e1 => kat_yes (kat_cons ?_)) (λ e1 => kat_no ?_)
  . have e1' : (f a).1 = (f b).1 := by simpa using e1
    refine SeqAt.EqAt.int_int _ _ _ _ _ _ _ _ ?_
    refine kat_go (λ e2 => kat_yes (kat_nil ?_)) (λ e2 => kat_no ?_)
    . have e2' : (f a).2 = (f b).2 := by simpa using e2
      have : pLt (keyV f (.ref a)) (keyV f (.ref b)) = false := by rw [pLt_no]; simp only [keyV]; omega
      rw [this] at h
      exact h
    . have e2' : ¬ (f a).2 = (f b).2 := by simpa using e2
      show wpAny _ _ (oneLt' false _ _) _ _ _
      refine kat_one _ _ (lt_int ?_)
      have : pLt (keyV f (.ref a)) (keyV f (.ref b)) = decide ((f a).2 < (f b).2) := Bool.eq_iff_iff.mpr (by rw [pLt_iff, decide_eq_true_iff]; simp only [keyV]; omega)
      rw [this] at h
      exact h
  . have e1' : ¬ (f a).1 = (f b).1 := by simpa using e1
    show wpAny _ _ (oneLt' true _ _) _ _ _
    refine oneLt_int ?_
    have : pLt (keyV f (.ref a)) (keyV f (.ref b)) = decide ((f a).1 < (f b).1) := Bool.eq_iff_iff.mpr (by rw [pLt_iff, decide_eq_true_iff]; simp only [keyV]; omega)
    rw [this] at h
    exact h
def pairCmp : Tim.Cmp (model prog w) A E s where
  α := Int × Int
  blt := pLt
  key := λ x => keyV f x.1
  good := λ x => PairVal f s.heap x.1
  kd := tuples' true
  irr := pLt_irr
  tr := λ _ _ _ h g => pLt_tr h g
  ntr := λ _ _ _ h g => pLt_ntr h g
  lt := λ st x y Q hk gx gy h => by
    rw [lt'_eq]
    refine wpS_bind (wpS_get ?_)
    rw [hk]
    exact wpS_bind (wpS_lift (wpAny_attempt (pair_lt f gx gy ⟨rfl, wpS_pure h⟩)))
theorem katTups_of {h : Heap} : ∀ {vs : List Value}, (∀ v ∈ vs, PairVal f h v) -> ∃ fs : List Value, KatTups h vs fs /\ fs.length = vs.length /\ ∀ v ∈ fs, ∃ i t, v = Value.int i t
  | [], _ => ⟨[], trivial, rfl, λ v hv => by cases hv⟩
  | v :: vs, hg => by
    obtain ⟨fs, k, l, hi⟩ := katTups_of (vs := vs) λ v hv => hg v (List.mem_cons_of_mem _ hv)
    obtain ⟨a, t, u, rfl, o, ho, hc, n, hd⟩ := hg v (List.mem_cons_self)
    exact ⟨.int (f a).1 t :: fs, KatTups.cons ho hc hd rfl k, by simp [l], λ v hv => by
      rcases List.mem_cons.mp hv with rfl | hv
      . exact ⟨_, _, rfl⟩
      . exact hi v hv⟩
theorem zip_self_map {vs : List Value} : (vs.toArray.zip vs.toArray).toList = vs.map λ v => (v, v) := by
  simp only [Array.toList_zip]
  induction vs with
  | nil => rfl
  | cons v vs ih => simp [ih]
theorem map_diag : ∀ vs : List Value, vs.map ((λ x : Value × Value => x.2) ∘ λ v => (v, v)) = vs
  | [] => rfl
  | v :: vs => by
    rw [List.map_cons, map_diag vs]
    rfl
theorem sort_tree {a : Addr} {vs : List Value} {n : Nat} {P : Fin -> Shared -> Prop} (ho : s.heap.get? a = some (seqObj "list" vs.toArray n))
    (hg : ∀ v ∈ vs, PairVal f s.heap v) (hz : vs.length <= sizeLine)
    (h : ∀ out : List Value, out.Perm vs -> out.Pairwise (λ x y => pLt (keyV f y) (keyV f x) = false) -> P (.done (.ret .none)) { s with heap := sortedHeap s.heap a vs out.toArray }) :
    wpAny (model prog w) A (Builtin.«list.sort» ⟨[.ref a], []⟩) P E s := by
  rw [list_sort_plain]
  have ha : a < s.heap.objs.size := Heap.lt_size ho
  refine wpAny_bind (listItems_at ho rfl ?_)
  refine wpAny_bind (listUpdate_at ho rfl ?_ (by simpa using hz) (Nat.zero_le _))
  obtain ⟨e1, ho1⟩ : ∃ e1, (s.heap.update a (Obj.mapSeq λ _ => #[])).get? a = some (seqObj "list" #[] e1) := ⟨_, get?_update_seq ho (λ _ => #[])⟩
  refine wpAny_bind (seqEpoch_at ho1 rfl ?_)
  refine wpAny_bind (wpAny_newTuple ?_)
  refine wpAny_bind (wpAny_newList ?_)
  refine wpAny_holding ?_
  have keep : ∀ b o, b ≠ a -> s.heap.get? b = some o -> (((s.heap.update a (Obj.mapSeq λ _ => #[])).push (seqObj "tuple" vs.toArray 0)).push (seqObj "list" #[] 0)).get? b = some o := λ b o hb q => by
    refine Heap.get?_push_of_some _ (Heap.get?_push_of_some _ ?_)
    rw [Heap.get?_update_other _ _ (Ne.symm hb)]
    exact q
  have ho6 : (((s.heap.update a (Obj.mapSeq λ _ => #[])).push (seqObj "tuple" vs.toArray 0)).push (seqObj "list" #[] 0)).get? a = some (seqObj "list" #[] e1) := by
    rw [Heap.get?_push_ne _ _ _ (by rw [size_push', Heap.size_update]; exact Nat.ne_of_lt (Nat.lt_succ_of_lt ha)), Heap.get?_push_ne _ _ _ (by rw [Heap.size_update]; exact Nat.ne_of_lt ha)]
    exact ho1
  show wpAny (model prog w) A _ P E { s with heap := ((s.heap.update a (Obj.mapSeq λ _ => #[])).push (seqObj "tuple" vs.toArray 0)).push (seqObj "list" #[] 0) }
  dsimp only
  have hsz : vs.toArray.size = vs.length := by simp
  have hg6 : ∀ v ∈ vs, PairVal f (((s.heap.update a (Obj.mapSeq λ _ => #[])).push (seqObj "tuple" vs.toArray 0)).push (seqObj "list" #[] 0)) v := λ v hv => by
    obtain ⟨b, t, u, rfl, o, q, hc, n', hd⟩ := hg v hv
    refine ⟨b, t, u, rfl, o, keep b o (λ z => ?_) q, hc, n', hd⟩
    subst z
    rw [ho] at q; cases q
    have hc : Value.type "list" = Value.type "tuple" := hc
    injection hc with hc
    exact absurd hc (by decide)
  by_cases h2 : vs.toArray.size < 2
  . rw [if_pos h2, if_pos h2]
    refine wpAny_bind (wpAny_pure ?_)
    rw [StateT.run_pure]
    refine wpAny_bind (wpAny_pure ?_)
    dsimp only
    refine wpAny_bind (seqEpoch_at ho6 rfl ?_)
    have em : ((arrOf (SortSt.mk' general' (vs.toArray.zip vs.toArray) #[] 7 none)).map (·.2)) = vs.toArray := by
      show ((vs.toArray.zip vs.toArray).map (·.2)) = vs.toArray
      rw [<- Array.toList_inj, Array.toList_map, zip_self_map, List.map_map]
      exact map_diag vs
    rw [em]
    refine wpAny_bind (listUpdate_at ho6 rfl ?_ (Nat.zero_le _) (by show vs.toArray.size <= _; rw [hsz]; omega))
    simp only [bne_self_eq_false, Bool.false_eq_true, if_false]
    refine wpAny_pure (h vs (List.Perm.refl _) ?_)
    rw [hsz] at h2
    match vs, h2 with
    | [], _ => exact List.Pairwise.nil
    | [v], _ => exact List.pairwise_singleton _ _
    | _ :: _ :: _, h2 => simp only [List.length_cons] at h2; omega
  . rw [if_neg h2, if_neg h2]
    obtain ⟨fs, kt, kl, ki⟩ := katTups_of f hg6
    refine wpAny_bind (kat_kind (T := .type "int") (s := { s with heap := ((s.heap.update a (Obj.mapSeq λ _ => #[])).push (seqObj "tuple" vs.toArray 0)).push (seqObj "list" #[] 0) }) kt (by rw [kl]; rw [hsz] at h2; omega) (λ v hv => ?_) (by rfl) ?_)
    . obtain ⟨i, t, rfl⟩ := ki v hv
      exact Looks.now
    have run := Tim.sRuns_ok (C := pairCmp (prog := prog) (w := w) (A := A) (E := E) (s := { s with heap := ((s.heap.update a (Obj.mapSeq λ _ => #[])).push (seqObj "tuple" vs.toArray 0)).push (seqObj "list" #[] 0) }) f)
      (a₀ := vs.toArray.zip vs.toArray) (st := SortSt.mk' (tuples' (Value.type "int" != Value.type "tuple")) (vs.toArray.zip vs.toArray) #[] 7 none)
      (Q := λ _ st' => (arrOf st').toList.Perm (vs.toArray.zip vs.toArray).toList /\ failedOf st' = none /\ Tim.Run (pairCmp (prog := prog) (w := w) (A := A) (E := E) (s := { s with heap := ((s.heap.update a (Obj.mapSeq λ _ => #[])).push (seqObj "tuple" vs.toArray 0)).push (seqObj "list" #[] 0) }) f) (arrOf st') 0 (vs.toArray.zip vs.toArray).size)
      (λ x hx => by
        rw [zip_self_map] at hx
        obtain ⟨v, hv, rfl⟩ := List.mem_map.mp hx
        exact hg6 v hv) ⟨List.Perm.refl _, rfl, rfl⟩ rfl λ st' S R => ⟨S.perm, S.ok, R⟩
    refine wpAny_bind (wpAny_mono run ?_ λ _ _ e => e)
    rintro ⟨⟨⟩, st'⟩ s' ⟨rfl, hp, hf, hR⟩
    dsimp only
    refine wpAny_bind (seqEpoch_at ho6 rfl ?_)
    have hsz2 : (arrOf st').size = vs.length := by
      have := hp.length_eq
      rw [zip_self_map] at this
      simpa using this
    refine wpAny_bind (listUpdate_at ho6 rfl ?_ (Nat.zero_le _) (by show ((arrOf st').map (·.2)).size <= _; rw [Array.size_map, hsz2]; omega))
    rw [hf]
    simp only [bne_self_eq_false, Bool.false_eq_true, if_false]
    have eo : (arrOf st').map (·.2) = ((arrOf st').toList.map (·.2)).toArray := by
      rw [<- Array.toList_inj, Array.toList_map]
    rw [eo]
    have diag : ∀ x ∈ (arrOf st').toList, x.1 = x.2 := λ x hx => by
      have := hp.mem_iff.mp hx
      rw [zip_self_map] at this
      obtain ⟨v, _, rfl⟩ := List.mem_map.mp this
      rfl
    refine wpAny_pure (h _ ?_ ?_)
    . have := hp.map (·.2)
      rw [zip_self_map, List.map_map] at this
      rw [map_diag vs] at this
      exact this
    . rw [List.pairwise_map]
      rw [List.pairwise_iff_getElem]
      intro i j hi hj hij
      have hi' : i < (arrOf st').size := by simpa using hi
      have hj' : j < (arrOf st').size := by simpa using hj
      have := hR.srt i j (arrOf st')[i] (arrOf st')[j] (Nat.zero_le _) (Nat.le_of_lt hij) (by
        have : (vs.toArray.zip vs.toArray).size = vs.length := by rw [<- Array.length_toList, zip_self_map, List.length_map]
        rw [Nat.zero_add, this, <- hsz2]; exact hj') (Array.getElem?_eq_getElem hi') (Array.getElem?_eq_getElem hj')
      have d1 := diag _ (List.getElem_mem hi)
      have d2 := diag _ (List.getElem_mem hj)
      have z : pLt (keyV f (arrOf st')[j].1) (keyV f (arrOf st')[i].1) = false := this
      simp only [Array.getElem_toList] at d1 d2 ⊢
      rw [<- d1, <- d2]
      exact z
theorem sorted_pairs {l : Addr} {vs : List Value} {Q : Value -> Shared -> Prop} (hl : s.heap.IsList l vs.toArray) (hg : ∀ v ∈ vs, PairVal f s.heap v) (hz : vs.length <= sizeLine)
    (h : ∀ out : List Value, out.Perm vs -> out.Pairwise (λ x y => pLt (keyV f y) (keyV f x) = false) -> Q (.ref (s.heap.objs.size + 1)) { s with heap := sortedAll s.heap vs out.toArray }) :
    wpAny (model prog w) A (call (.builtin "sorted") [.ref l]) Q E s := by
  refine Calls.call_function_entry kind_sorted plain_sorted entry_sorted (args_sorted1 _) ?_
  unfold Builtin.«sorted»
  refine wpAny_bind (m := checkCount "sorted" 1 1 _) (wpAny_pure ?_)
  refine wpAny_bind (collect_list hl ?_ hz)
  refine wpAny_bind (wpAny_newList ?_)
  have hsz : ((s.heap.push (seqObj "list" #[] 0)).update s.heap.objs.size (Obj.mapSeq (· ++ vs.toArray))).objs.size = s.heap.objs.size + 1 := by
    rw [Heap.size_update, size_push']
  have hoL : (((s.heap.push (seqObj "list" #[] 0)).update s.heap.objs.size (Obj.mapSeq (· ++ vs.toArray))).push (seqObj "list" vs.toArray 0)).get? (s.heap.objs.size + 1) = some (seqObj "list" vs.toArray 0) := by
    rw [<- hsz]; exact Heap.get?_push_size _ rfl
  have keep : ∀ b o, s.heap.get? b = some o -> (((s.heap.push (seqObj "list" #[] 0)).update s.heap.objs.size (Obj.mapSeq (· ++ vs.toArray))).push (seqObj "list" vs.toArray 0)).get? b = some o := λ b o q => by
    refine Heap.get?_push_of_some _ ?_
    rw [Heap.get?_update_other _ _ (Nat.ne_of_gt (Heap.lt_size q))]
    exact Heap.get?_push_of_some _ q
  have hg2 : ∀ v ∈ vs, PairVal f (((s.heap.push (seqObj "list" #[] 0)).update s.heap.objs.size (Obj.mapSeq (· ++ vs.toArray))).push (seqObj "list" vs.toArray 0)) v := λ v hv => by
    obtain ⟨b, t, u, rfl, o, q, hc, n', hd⟩ := hg v hv
    exact ⟨b, t, u, rfl, o, keep b o q, hc, n', hd⟩
  show wpAny _ _ _ _ _ { s with heap := ((s.heap.push (seqObj "list" #[] 0)).update s.heap.objs.size (Obj.mapSeq (· ++ vs.toArray))).push (seqObj "list" vs.toArray 0) }
  rw [hsz]
  refine wpAny_bind (wpAny_holding (wpAny_call_entry slot_list_sort ⟨_, hoL, rfl⟩ entry_list_sort (sort_tree f (s := { s with heap := ((s.heap.push (seqObj "list" #[] 0)).update s.heap.objs.size (Obj.mapSeq (· ++ vs.toArray))).push (seqObj "list" vs.toArray 0) }) hoL hg2 hz λ out a1 a2 => ⟨_, rfl, ?_⟩) (args_list_sort _)))
  exact wpAny_pure ⟨_, rfl, h out a1 a2⟩
theorem sortedAll_keep {h : Heap} {vs : List Value} {out : Array Value} {b : Addr} {o : Obj} (q : h.get? b = some o) : (sortedAll h vs out).get? b = some o := by
  have hb : b < h.objs.size := Heap.lt_size q
  unfold sortedAll sortedHeap
  have n1 : h.objs.size + 1 ≠ b := Nat.ne_of_gt (Nat.lt_succ_of_lt hb)
  have n2 : h.objs.size ≠ b := Nat.ne_of_gt hb
  rw [Heap.get?_update_other _ _ n1]
  refine Heap.get?_push_of_some _ (Heap.get?_push_of_some _ ?_)
  rw [Heap.get?_update_other _ _ n1]
  refine Heap.get?_push_of_some _ ?_
  rw [Heap.get?_update_other _ _ n2]
  exact Heap.get?_push_of_some _ q
theorem sortedAll_at {h : Heap} {vs : List Value} {out : Array Value} : ∃ n, (sortedAll h vs out).get? (h.objs.size + 1) = some (seqObj "list" out n) := by
  have hsz : ((h.push (seqObj "list" #[] 0)).update h.objs.size (Obj.mapSeq (· ++ vs.toArray))).objs.size = h.objs.size + 1 := by
    rw [Heap.size_update, size_push']
  have hoL : (((h.push (seqObj "list" #[] 0)).update h.objs.size (Obj.mapSeq (· ++ vs.toArray))).push (seqObj "list" vs.toArray 0)).get? (h.objs.size + 1) = some (seqObj "list" vs.toArray 0) := by
    rw [<- hsz]; exact Heap.get?_push_size _ rfl
  have h1 := get?_update_seq hoL (λ _ => #[])
  unfold sortedAll sortedHeap
  exact ⟨_, get?_update_seq (Heap.get?_push_of_some _ (Heap.get?_push_of_some _ h1)) (λ _ => out)⟩
end
def rSorted : List V -> Hp -> VK -> Prop := λ vs H Q => ∃ (l : Addr) (xs : List V) (ps : List (Int × Int)), vs = [.ref l] /\ H l = some (.lst xs) /\ Paired (kPair.R H) xs ps /\
  ∀ p ys qs, H p = none -> Paired (kPair.R H) ys qs -> qs.Perm ps -> qs.Pairwise (λ a b => pLt b a = false) -> ys.length = xs.length -> Q (.ref p) (upd H p (.lst ys))
noncomputable def pairOf (H : Hp) (a : Addr) : Int × Int := match H a with
  | some (.tup [.int n, .int c]) => (n, c)
  | _ => (0, 0)
theorem pairOf_eq {H : Hp} {a : Addr} {p : Int × Int} (h : kPair.R H (.ref a) p) : pairOf H a = p := by
  obtain ⟨b, e, q⟩ := kPair_at h
  cases e
  unfold pairOf
  rw [q]
theorem call_sorted {X : Cx} : CallR X (.builtin "sorted") rSorted := by
  intro pins s σ H xs us Q I r h
  obtain ⟨l, xs, ps, rfl, hl, pp, q⟩ := h
  obtain ⟨u, rfl, ru⟩ := vals1 r
  cases ru
  obtain ⟨its, rv, pl, hz⟩ := I.list (SqL.of hl)
  have hlen := rv.length
  have good : ∀ j v, its[j]? = some v -> ∃ (a : Addr) (p : Int × Int), v = Value.ref a /\ xs[j]? = some (V.ref a) /\ ps[j]? = some p /\ kPair.R H (V.ref a) p := λ j v hv => by
    have hj : j < its.length := (List.getElem?_eq_some_iff.mp hv).1
    have hx : xs[j]? = some xs[j] := List.getElem?_eq_getElem (by omega)
    obtain ⟨w, e, rw'⟩ := rv.get hx
    rw [hv] at e; cases e
    obtain ⟨p, ep, fp⟩ := pp.get hx
    obtain ⟨a, ea, _⟩ := kPair_at fp
    rw [ea] at rw' fp hx
    exact ⟨a, p, rw', hx, ep, fp⟩
  have hg : ∀ v ∈ its, PairVal (pairOf H) s.heap v := λ v hv => by
    obtain ⟨j, hj⟩ := List.getElem?_of_mem hv
    obtain ⟨a, p, rfl, _, _, fp⟩ := good j v hj
    obtain ⟨b, e, hb⟩ := kPair_at fp
    cases e
    obtain ⟨tis, tv, tp, _⟩ := I.tuple (SqT.of hb)
    obtain ⟨u1, u2, rfl, ⟨t1, rfl⟩, ⟨t2, rfl⟩⟩ := vals2 tv
    rw [<- pairOf_eq fp] at tp
    exact ⟨a, t1, t2, rfl, tp⟩
  refine sorted_pairs (pairOf H) pl.isList hg (by omega) λ out hp hs => ?_
  have isref : ∀ v ∈ its, ∃ a, v = .ref a := λ v hv => by
    obtain ⟨j, hj⟩ := List.getElem?_of_mem hv
    obtain ⟨a, _, rfl, _⟩ := good j v hj
    exact ⟨a, rfl⟩
  have toA : ∀ l : List Value, (∀ v ∈ l, ∃ a, v = Value.ref a) -> ∃ as : List Addr, l = as.map Value.ref := by
    intro l
    induction l with
    | nil => intro _; exact ⟨[], rfl⟩
    | cons v l ih =>
      intro h
      obtain ⟨as, e⟩ := ih λ v hv => h v (List.mem_cons_of_mem _ hv)
      obtain ⟨a, rfl⟩ := h v (List.mem_cons_self)
      exact ⟨a :: as, by rw [e]; rfl⟩
  obtain ⟨bs, eb⟩ := toA out λ v hv => isref v (hp.mem_iff.mp hv)
  obtain ⟨cs, ec⟩ := toA its isref
  subst eb ec
  have hperm : bs.Perm cs := by
    have back : ∀ l : List Addr, (l.map Value.ref).map (λ v => match v with | .ref a => a | _ => 0) = l := by
      intro l
      induction l with
      | nil => rfl
      | cons a l ih => rw [List.map_cons, List.map_cons, ih]
    have := hp.map (λ v => match v with | .ref a => a | _ => 0)
    rw [back, back] at this
    exact this
  have pairA : ∀ a ∈ cs, kPair.R H (.ref a) (pairOf H a) := λ a ha => by
    obtain ⟨j, hj⟩ := List.getElem?_of_mem (List.mem_map.mpr ⟨a, ha, rfl⟩ : Value.ref a ∈ cs.map Value.ref)
    obtain ⟨b, p, e, _, _, fp⟩ := good j _ hj
    cases e
    rw [pairOf_eq fp]
    exact fp
  have eps : ps = cs.map (pairOf H) := by
    refine List.ext_getElem? λ j => ?_
    by_cases hj : j < cs.length
    . have h1 : (cs.map Value.ref)[j]? = some (Value.ref cs[j]) := by rw [List.getElem?_map, List.getElem?_eq_getElem hj]; rfl
      obtain ⟨b, p, e, _, ep, fp⟩ := good j _ h1
      cases e
      rw [ep, List.getElem?_map, List.getElem?_eq_getElem hj]
      exact congrArg some (pairOf_eq fp).symm
    . rw [List.getElem?_eq_none (by rw [<- pp.len, hlen, List.length_map]; omega), List.getElem?_eq_none (by rw [List.length_map]; omega)]
  have mkP : ∀ ds : List Addr, (∀ a ∈ ds, kPair.R H (.ref a) (pairOf H a)) -> Paired (kPair.R H) (ds.map V.ref) (ds.map (pairOf H)) := by
    intro ds
    induction ds with
    | nil => intro _; exact .nil
    | cons a ds ih => intro h; exact .cons (h a (List.mem_cons_self)) (ih λ b hb => h b (List.mem_cons_of_mem _ hb))
  have vls : ∀ ds : List Addr, Vals (ds.map V.ref) (ds.map Value.ref) := by
    intro ds
    induction ds with
    | nil => exact .nil
    | cons a ds ih => exact .cons rfl ih
  have hq := q (s.heap.objs.size + 1) (bs.map V.ref) (bs.map (pairOf H)) (I.hok.fresh (Nat.le_succ _)) (mkP bs λ a ha => pairA a (hperm.mem_iff.mp ha)) (by rw [eps]; exact hperm.map _)
    (by rw [List.pairwise_map]; rw [List.pairwise_map] at hs; exact hs) (by rw [List.length_map, hlen, List.length_map]; exact hperm.length_eq)
  refine ⟨.ref (s.heap.objs.size + 1), _, I.laid (t' := s.toks) (o := .lst (bs.map V.ref)) (λ b u e => sortedAll_keep e) (Nat.le_succ _) ?_, rfl, hq⟩
  obtain ⟨n, hn⟩ := sortedAll_at (h := s.heap) (vs := cs.map Value.ref) (out := (bs.map Value.ref).toArray)
  exact ⟨by rw [List.length_map, hperm.length_eq]; rw [hlen, List.length_map] at hz; exact hz, bs.map Value.ref, n, vls bs, hn⟩
end L2
namespace HT
open PySem PyProof.Rows
section
open PySem.SeqAt
open PySem.AutoSeq1 (wpAny_loadPart')
open PySem.MeetsSeq PySem.MeetsSeq2 PySem.MeetsSeq3
end
section
variable {prog : Program} {w : World} {A : Around} {E : Value -> Shared -> Prop} {s : Shared}
end
end HT
namespace L2
open PySem PySem.Spec PyProof.Rows
section
variable {X : Cx}
end
end L2
namespace PySem
open Sem (wp)
def KeptIn (h0 : Heap) (wr : List Addr) (S : Addr) (h : Heap) : Prop := ∀ b o, b ∉ wr -> b ≠ S -> h0.get? b = some o -> h.get? b = some o
theorem KeptIn.wr {h0 h h' : Heap} {wr : List Addr} {S : Addr} (k : KeptIn h0 wr S h) (g : ∀ b o, b ∉ wr -> h.get? b = some o -> h'.get? b = some o) : KeptIn h0 wr S h' := λ b o h1 h2 e => g b o h1 (k b o h1 h2 e)
theorem KeptIn.upd {h0 h : Heap} {wr : List Addr} {S : Addr} (k : KeptIn h0 wr S h) (f : Obj -> Obj) : KeptIn h0 wr S (h.update S f) := λ b o h1 h2 e => (Heap.get?_update_other _ _ (Ne.symm h2)).trans (k b o h1 h2 e)
def CmpIn (prog : Program) (w : World) (A : Around) (op : CmpOp) (P : Nat -> Value -> Prop) (bt : Nat -> Nat -> Bool) (h0 : Heap) (wr : List Addr) (S : Addr) : Prop :=
  ∀ i j vi vj (s : Shared) (Q : Value -> Shared -> Prop) (E : Value -> Shared -> Prop), KeptIn h0 wr S s.heap -> P i vi -> P j vj -> Q (.bool (bt i j)) s -> wpAny (model prog w) A (richCompare op vi vj) Q E s
theorem min_go {P : Nat -> Value -> Prop} {h0 : Heap} {St : Nat -> Heap -> Prop} {prog : Program} {w : World} {A : Around} {R : Result -> Shared -> Prop} {I : Addr} {fp wr : List Addr} {n : Nat} (W : Walks prog w A.in1 I fp wr n P St) (bt : Nat -> Nat -> Bool) (S : Addr) (hSf : S ∉ fp) (hcmp : CmpIn prog w A.in1 .Lt P bt h0 wr S) :
    ∀ (k j : Nat) (s : Shared) (vb : Value) (c : Nat), n - (j + 1) = k -> j + 1 <= n -> St (j + 1) s.heap -> P (argBest bt j) vb -> KeptIn h0 wr S s.heap ->
    s.heap.get? S = some { cls := .type "list", dict := none, data := .seq #[vb, vb] c, slots := #[] } ->
    (∀ v h' tk, P (argBest bt (n - 1)) v -> KeptIn h0 wr S h' -> R (.ok (.ret v)) { s with heap := h', toks := tk }) -> codeAny (model prog w) A (.builtin "min.loop" ⟨[.ref I, .none, .ref S], []⟩) R s := by
  have hSw : S ∉ wr := λ h => hSf (W.sub _ h)
  have hname : (toString "min" ++ toString ".loop" : String) = "min.loop" := by decide
  intro k
  induction k with
  | zero =>
    intro j s vb c hk hj hst hPb hkp hS hR
    have hin : j + 1 = n := by omega
    refine codeAny_builtin F.entry_min_loop ?_
    rw [Around.under_plainId F.plain_min_loop _]
    show wpAny _ A.in1 (seqItems? (.ref S) >>= _) _ _ s
    refine wpAny_bind (wpAny_seqItems hS rfl ?_)
    show wpAny _ A.in1 (tryCatch (pyNext (.ref I)) _ >>= _) _ _ s
    refine wpAny_bind (wpAny_tryCatch (W.done s _ _ (hin ▸ hst) λ h' tk hk' => ?_))
    have hS' := hk' S _ hSw hS
    show wpAny _ A.in1 (updateSeq S (λ _ => #[]) >>= _) _ _ _
    refine wpAny_bind (wpAny_updateSeq hS' rfl (wpAny_bind (wpAny_letGo (wpAny_pure ?_))))
    exact hR vb _ tk (by rw [<- hin]; exact hPb) ((hkp.wr hk').upd _)
  | succ k ih =>
    intro j s vb c hk hj hst hPb hkp hS hR
    have hlt : j + 1 < n := by omega
    refine codeAny_builtin F.entry_min_loop ?_
    rw [Around.under_plainId F.plain_min_loop _]
    show wpAny _ A.in1 (seqItems? (.ref S) >>= _) _ _ s
    refine wpAny_bind (wpAny_seqItems hS rfl ?_)
    show wpAny _ A.in1 (tryCatch (pyNext (.ref I)) _ >>= _) _ _ s
    refine wpAny_bind (wpAny_tryCatch (W.item (j + 1) s _ _ hlt hst λ v h' tk hP hst' hk' => ?_))
    have hS' := hk' S _ hSw hS
    have hkp' := hkp.wr hk'
    show wpAny _ A.in1 (tryCatch (holding [v, v] (richCompare .Lt v vb >>= _)) _ >>= _) _ _ _
    refine wpAny_bind (wpAny_tryCatch (wpAny_holding (wpAny_bind (hcmp (j + 1) (argBest bt j) v vb _ _ _ hkp' hP hPb ?_))))
    refine wpAny_bind (wpAny_holding (wpAny_truthy_bool (wpAny_bind (wpAny_letGo (wpAny_pure ?_)))))
    cases hb : bt (j + 1) (argBest bt j) with
    | true =>
      simp only [if_true]
      refine wpAny_bind (wpAny_updateSeq hS' rfl (wpAny_bind (wpAny_letGo ?_)))
      rw [hname]
      refine wpAny_pure ⟨plainId_quiet F.plain_min_loop _, ih (j + 1) _ v _ (by omega) hlt (W.frame _ _ _ hst' λ b hbf o e => ?_) (by simp only [argBest, hb, if_true]; exact hP) (hkp'.upd _) (Heap.get?_update_self _ hS' rfl) hR⟩
      exact (Heap.get?_update_other _ _ (λ h : S = b => hSf (by rw [h]; exact hbf))).trans e
    | false =>
      simp only [Bool.false_eq_true, if_false]
      refine wpAny_bind (wpAny_letGo ?_)
      rw [hname]
      exact wpAny_pure ⟨plainId_quiet F.plain_min_loop _, ih (j + 1) _ vb c (by omega) hlt hst' (by simp only [argBest, hb, Bool.false_eq_true, if_false]; exact hPb) hkp' hS' hR⟩
theorem call_min_in {prog : Program} {w : World} {A : Around} {E : Value -> Shared -> Prop} {s : Shared} {x : Value} {Q : Value -> Shared -> Prop}
    (h : wpAny (model prog w) A.in1 (pyIter x) (λ it s₂ => ∃ I fp wr n P St bt, it = .ref I /\ Walks prog w A.in1 I fp wr n P St /\ St 0 s₂.heap /\ (∀ b ∈ fp, b < s₂.heap.objs.size) /\ 0 < n /\ CmpIn prog w A.in1 .Lt P bt s₂.heap wr s₂.heap.objs.size /\
      ∀ v h' tk, P (argBest bt (n - 1)) v -> KeptIn s₂.heap wr s₂.heap.objs.size h' -> Q v { s₂ with heap := h', toks := tk }) E s) :
    wpAny (model prog w) A (call (.builtin "min") [x]) Q E s := by
  have hname : (toString "min" ++ toString ".loop" : String) = "min.loop" := by decide
  refine call_function_tree F.kind_min F.plain_min F.entry_min (F.args_min1 _) ?_
  show wpAny _ A.in1 (Builtin.Builtins.bindParams "min" ["key", "default"] 0 ⟨[], []⟩ >>= _) _ _ s
  refine wpAny_bind (wpAny_of_eq (show Builtin.Builtins.bindParams "min" ["key", "default"] 0 ⟨[], []⟩ = pure [none, none] from rfl) (wpAny_bind (wpAny_pure ?_)))
  refine wpAny_bind (wpAny_mono h (λ it s₂ h₂ => ?_) λ _ _ e => e)
  obtain ⟨I, fp, wr, n, P, St, bt, rfl, W, hst, hfp, hn, hcmp, hQ⟩ := h₂
  refine wpAny_bind (wpAny_newObj_type ?_)
  have hSf : s₂.heap.objs.size ∉ fp := λ hm => Nat.lt_irrefl _ (hfp _ hm)
  have hSw : s₂.heap.objs.size ∉ wr := λ h => hSf (W.sub _ h)
  rw [hname]
  refine wpAny_pure ⟨plainId_quiet F.plain_min_loop _, codeAny_builtin F.entry_min_loop ?_⟩
  rw [Around.under_plainId F.plain_min_loop _]
  have hS0 : (s₂.heap.push { cls := .type "list", data := .seq ([] : List Value).toArray }).get? s₂.heap.objs.size = some { cls := .type "list", dict := none, data := .seq #[] 0, slots := #[] } := Heap.get?_push_size _ rfl
  have kp0 : KeptIn s₂.heap wr s₂.heap.objs.size (s₂.heap.push { cls := .type "list", data := .seq ([] : List Value).toArray }) := λ b o _ _ e => Heap.get?_push_of_some _ e
  show wpAny _ A.in1 (seqItems? (.ref s₂.heap.objs.size) >>= _) _ _ _
  refine wpAny_bind (wpAny_seqItems hS0 rfl ?_)
  show wpAny _ A.in1 (tryCatch (pyNext (.ref I)) _ >>= _) _ _ _
  refine wpAny_bind (wpAny_tryCatch (W.item 0 _ _ _ hn (W.frame _ _ _ hst λ b _ o e => Heap.get?_push_of_some _ e) λ v h' tk hP hst' hk' => ?_))
  have hS' := hk' _ _ hSw hS0
  show wpAny _ A.in1 (updateSeq s₂.heap.objs.size (λ _ => #[v, v]) >>= _) _ _ _
  refine wpAny_bind (wpAny_updateSeq hS' rfl ?_)
  rw [hname]
  refine wpAny_pure ⟨plainId_quiet F.plain_min_loop _, min_go W bt s₂.heap.objs.size hSf hcmp _ 0 _ v _ rfl hn (W.frame _ _ _ hst' λ b hbf o e => ?_) hP ((kp0.wr hk').upd _) (Heap.get?_update_self _ hS' rfl) λ v' h'' tk'' hP' hk'' => hQ v' h'' tk'' hP' hk''⟩
  exact (Heap.get?_update_other _ _ (λ h : s₂.heap.objs.size = b => hSf (by rw [h]; exact hbf))).trans e
end PySem
namespace L2
open PySem PySem.Spec PyProof.Rows
theorem best_of {bt : Int × Int -> Int × Int -> Bool} (irr : ∀ a, bt a a = false) (ntr : ∀ a b c, bt a b = false -> bt b c = false -> bt a c = false) (asym : ∀ a b, bt a b = true -> bt b a = false) (f : Nat -> Int × Int) : ∀ k j, j <= k -> bt (f j) (f (argBest (λ i j => bt (f i) (f j)) k)) = false
  | 0, j, h => by
    have : j = 0 := by omega
    subst this
    exact irr _
  | k + 1, j, h => by
    unfold argBest
    by_cases hb : bt (f (k + 1)) (f (argBest (λ i j => bt (f i) (f j)) k)) = true
    . rw [if_pos hb]
      by_cases hj : j = k + 1
      . subst hj; exact irr _
      . exact ntr _ _ _ (best_of irr ntr asym f k j (by omega)) (asym _ _ hb)
    . rw [if_neg hb]
      by_cases hj : j = k + 1
      . subst hj; simpa using hb
      . exact best_of irr ntr asym f k j (by omega)
theorem pLt_asym (a b : Int × Int) (h : pLt a b = true) : pLt b a = false := by rw [pLt_iff] at h; rw [pLt_no]; omega
end L2
namespace L2
open PySem PySem.Spec PyProof.Rows
def clOf : List (Str × NameKind) -> List (Str × Addr) -> List (Str × Addr) -> List (Str × Addr)
  | [], _, acc => acc
  | (n, k) :: r, cells, acc => if k == .free then clOf r cells ((n, (cells.lookup n).getD 0) :: acc) else clOf r cells acc
theorem forIn_cl {env : Env} : ∀ (l : List (Str × NameKind)) (acc : List (Str × Addr)), (∀ y ∈ l, y.2 = .free -> ∃ c, env.cells.lookup y.1 = some c) ->
    (forIn l acc λ (x : Str × NameKind) (cs : List (Str × Addr)) => if (x.2 == NameKind.free) = true then (do let a <- cellOf env x.1; pure (ForInStep.yield ((x.1, a) :: cs)) : Sem (ForInStep (List (Str × Addr)))) else pure (ForInStep.yield cs)) = (pure (clOf l env.cells acc) : Sem (List (Str × Addr)))
  | [], acc, _ => rfl
  | (n, k) :: r, acc, h => by
    rw [List.forIn_cons]
    have ih := λ acc => forIn_cl (env := env) r acc λ y hy => h y (List.mem_cons_of_mem _ hy)
    unfold clOf
    by_cases hk : (k == NameKind.free) = true
    . obtain ⟨c, hc⟩ := h (n, k) (List.mem_cons_self) (by simpa using hk)
      have e1 : cellOf env n = pure c := by unfold cellOf; rw [hc]
      simp only [hk, if_true, e1, pure_bind, hc, Option.getD_some]
      exact ih _
    . simp only [hk, if_false, pure_bind]
      exact ih _
theorem closureFor_cl {scope : Scope} {env : Env} (h : ∀ y ∈ scope.names, y.2 = .free -> ∃ c, env.cells.lookup y.1 = some c) : closureFor scope env = pure (clOf scope.names env.cells []) := by
  have := forIn_cl (env := env) scope.names [] h
  unfold closureFor
  simp only [bind_pure]
  exact this
theorem clOf_sub : ∀ (l : List (Str × NameKind)) (cells acc : List (Str × Addr)), (∀ y ∈ l, y.2 = .free -> ∃ c, cells.lookup y.1 = some c) -> (∀ x c, acc.lookup x = some c -> cells.lookup x = some c) -> ∀ x c, (clOf l cells acc).lookup x = some c -> cells.lookup x = some c
  | [], _, _, _, ha => ha
  | (n, k) :: r, cells, acc, h, ha => by
    unfold clOf
    have h' : ∀ y ∈ r, y.2 = .free -> ∃ c, cells.lookup y.1 = some c := λ y hy => h y (List.mem_cons_of_mem _ hy)
    by_cases hk : (k == NameKind.free) = true
    . rw [if_pos hk]
      obtain ⟨c, hc⟩ := h (n, k) (List.mem_cons_self) (by simpa using hk)
      refine clOf_sub r cells _ h' λ x d hx => ?_
      rw [List.lookup_cons] at hx
      split at hx
      . rename_i e
        have e : x = n := by simpa using e
        subst e
        rw [hc] at hx ⊢
        exact hx
      . exact ha x d hx
    . rw [if_neg hk]
      exact clOf_sub r cells acc h' ha
theorem clOf_mono : ∀ (l : List (Str × NameKind)) (cells acc : List (Str × Addr)) (x : Str), (∃ c, acc.lookup x = some c) -> ∃ c, (clOf l cells acc).lookup x = some c
  | [], _, _, _, h => h
  | (n, k) :: r, cells, acc, x, h => by
    unfold clOf
    by_cases hk : (k == NameKind.free) = true
    . rw [if_pos hk]
      refine clOf_mono r cells _ x ?_
      rw [List.lookup_cons]
      split
      . exact ⟨_, rfl⟩
      . exact h
    . rw [if_neg hk]; exact clOf_mono r cells acc x h
theorem clOf_has : ∀ (l : List (Str × NameKind)) (cells acc : List (Str × Addr)) (x : Str), (x, NameKind.free) ∈ l -> ∃ c, (clOf l cells acc).lookup x = some c
  | (n, k) :: r, cells, acc, x, h => by
    unfold clOf
    rcases List.mem_cons.mp h with e | e
    . cases e
      rw [if_pos (show (NameKind.free == NameKind.free) = true from rfl)]
      exact clOf_mono r cells _ n ⟨(cells.lookup n).getD 0, by rw [List.lookup_cons]; simp⟩
    . by_cases hk : (k == NameKind.free) = true
      . rw [if_pos hk]; exact clOf_has r cells _ x e
      . rw [if_neg hk]; exact clOf_has r cells acc x e
def cmpCx (X : Cx) (scope : Scope) (N : List Str) (C : Addr) (s₀ : Shared) (H₀ : Hp) (ex : List Addr) : Cx :=
  { X with N := N, s₀ := s₀, H₀ := H₀, env := compEnvC scope (clOf scope.names X.env.cells []) C X.env, outer := X.stack, stack := X.stack, ex := ex, fn := λ _ => false, pn := [], xe := λ _ _ => False }
def cmpSt (nt : Nat) (src : List Nat) (σ : St) : St := List.replicate nt none ++ src.map λ i => (σ[i]?).join
structure CmpSc (X : Cx) (scope : Scope) (x : Str) (N : List Str) (cap : List Str) (src : List Nat) : Prop where
  kind : scope.kind = .function
  cell : ∀ y ∈ scope.names, y.2 ≠ .cell
  names : ∀ y ∈ scope.names, y.2 = .local -> scope.names.lookup y.1 = some .local
  nolf : ∀ y ∈ scope.names, y.2 = .local -> (y.1, NameKind.free) ∉ scope.names
  tgt : scope.names.lookup x = some .local
  free : ∀ y ∈ scope.names, y.2 = .free -> X.env.scope.names.lookup y.1 = some .cell
  eN : N = x :: cap
  lsrc : src.length = cap.length
  capt : ∀ (j : Nat) y i, cap[j]? = some y -> src[j]? = some i -> X.N[i]? = some y /\ (y, NameKind.free) ∈ scope.names
abbrev rAcc (D : Addr) (ys : List V) (N : List V -> St -> Hp -> Prop) (σ : St) : VK := λ y H => H D = some (.lst ys) /\ ys.length < sizeLine /\ N (ys ++ [y]) σ (upd H D (.lst (ys ++ [y])))
def tCmp' (wi : TI) (g : TG) (tc : TT) (te : TE) (src : List Nat) (σ : St) (H : Hp) (Q : V -> Hp -> Prop) : Prop := wi σ H λ J H1 => ∀ D, H1 D = none ->
  ∃ W : Nat -> Nat -> List V -> St -> Hp -> Prop, (∃ m, W 0 m [] (cmpSt 1 src σ) (upd H1 D (.lst []))) /\ ∀ i m ys σ' H', W i m ys σ' H' ->
    (J.stop i H' /\ Q (.ref D) H') \/ (J.go i H' /\ ∃ N : List V -> St -> Hp -> Prop, (∀ ys σ2 H2, N ys σ2 H2 -> ∃ m', m' < m /\ W (i + 1) m' ys σ2 H2) /\ ∀ x H2, J.yld i H' x H2 -> g x σ' H2 λ σ3 H3 => tc σ3 H3 λ b H4 => if b = true then te σ3 H4 (rAcc D ys N σ3) else N ys σ3 H4)
def tComp (wi : TI) (g : TG) (tc : TT) (te : TE) (src : List Nat) : TE := λ σ H Q => tCmp' wi g tc te src σ H Q
section
variable {X : Cx} {pins : List (Addr × Obj)} {σ : St} {H : Hp} {s : Shared} {scope : Scope} {x : Str} {N cap : List Str} {src : List Nat} {C : Addr} {fp : List Addr}
theorem relabel_kind {env : Env} : ∀ {names : List (Str × NameKind)} {y : Str} {k : NameKind}, (names.map λ (n, k) => if (k == NameKind.free && env.scope.kind == .function && env.kindOf n == some .cell) then (n, NameKind.cell) else (n, k)).lookup y = some k ->
    (y, k) ∈ names \/ (k = .cell /\ (y, NameKind.free) ∈ names)
  | [], _, _, h => by simp at h
  | (n, k0) :: r, y, k, h => by
    have ih := @relabel_kind env r y k
    rw [List.map_cons] at h
    dsimp only at h
    by_cases hc : (k0 == NameKind.free && env.scope.kind == .function && env.kindOf n == some .cell) = true
    . rw [if_pos hc] at h
      rw [List.lookup_cons] at h
      split at h
      . rename_i e
        have e : y = n := by simpa using e
        subst e
        cases h
        refine .inr ⟨rfl, ?_⟩
        have : k0 = .free := by
          simp only [Bool.and_eq_true, beq_iff_eq] at hc
          exact hc.1.1
        rw [this]; exact List.mem_cons_self
      . rcases ih h with z | ⟨z1, z2⟩
        . exact .inl (List.mem_cons_of_mem _ z)
        . exact .inr ⟨z1, List.mem_cons_of_mem _ z2⟩
    . rw [if_neg hc] at h
      rw [List.lookup_cons] at h
      split at h
      . rename_i e
        have e : y = n := by simpa using e
        subst e
        cases h
        exact .inl (List.mem_cons_self)
      . rcases ih h with z | ⟨z1, z2⟩
        . exact .inl (List.mem_cons_of_mem _ z)
        . exact .inr ⟨z1, List.mem_cons_of_mem _ z2⟩
theorem Inv.freeCells (I : Inv X pins σ H s) (S : CmpSc X scope x N cap src) : ∀ y ∈ scope.names, y.2 = .free -> ∃ c, X.env.cells.lookup y.1 = some c := λ y hy hf =>
  I.ok.has y.1 (.inl (S.free y hy hf))
theorem cmp_step {α : Type} {M : Model} {A : Around} {x : Str} {px : Pos} {it : Value} {u : Value} {P : Shared -> Prop} {t : Sem α} {R : α -> Shared -> Prop} {E : Value -> Shared -> Prop} {s : Shared} (h : wpAny M A (letOwnedTupleGo (.Name x px) it u) (λ _ s2 => P s2) (λ _ _ => False) s)
    (k : ∀ s2, P s2 -> wpAny M A t R E s2) : wpAny M A t R E s := by
  have h2 : wpAny M A ((pure () : Sem Unit) >>= λ _ => t) R E s := wpAny_bind (wpAny_mono (show wpAny M A (pure () : Sem Unit) (λ _ s2 => P s2) (λ _ _ => False) s from h) (λ _ s2 p => k s2 p) (λ _ _ z => z.elim))
  rw [pure_bind] at h2
  exact h2
theorem cmp_ok (I : Inv X pins σ H s) (S : CmpSc X scope x N cap src) (hf : ∀ b ∈ fp, FpOk X pins H b /\ b < s.heap.objs.size) : (cmpCx X scope N s.heap.objs.size s H fp).Ok := by
  have fc := I.freeCells S
  have sub := clOf_sub scope.names X.env.cells [] fc (λ _ _ z => nomatch z)
  refine ⟨I.ok.mod, S.kind, I.ok.glob, I.ok.blt, Nat.le_refl _, λ y z c h1 h2 => I.ok.inj y z c (sub y c h1) (sub z c h2), λ y hy => ?_, λ _ _ z => (nomatch z), I.ok.hd, I.ok.frames, .inl rfl, λ b hb => ?_, I.bs, Nat.le_trans I.ok.bsz I.sz, λ b o e hb => ?_, λ b hb z => ?_, I.stack, I.stkFree⟩
  . have hy : (relabel scope X.env).names.lookup y = some .cell \/ (relabel scope X.env).names.lookup y = some .free := hy
    have key : (y, NameKind.free) ∈ scope.names := by
      rcases hy with hy | hy
      . rcases relabel_kind hy with z | ⟨_, z⟩
        . exact absurd rfl (S.cell _ z)
        . exact z
      . rcases relabel_kind hy with z | ⟨z, _⟩
        . exact z
        . cases z
    exact clOf_has scope.names X.env.cells [] y key
  . exact ⟨Nat.ne_of_lt (hf b hb).2, λ y c e => (hf b hb).1.2.2.2.2.1 y c (sub y c e)⟩
  . have := (hf b hb).1.2.2.2.1
    rcases this with z | z
    . exact I.ok.noex b o e z
    . have q := (I.ok.bs b o e).1
      exact absurd (Nat.lt_of_lt_of_le (Heap.lt_size q) z) (Nat.lt_irrefl _)
  . have := I.stkSub b z
    rcases List.mem_cons.mp this with e | e
    . exact (hf b hb).1.2.1 e
    . exact (hf b hb).1.2.2.1 e
theorem cmp_inv (I : Inv X pins σ H s) (S : CmpSc X scope x N cap src) (hf : ∀ b ∈ fp, FpOk X pins H b /\ b < s.heap.objs.size) {h' : Heap} {t' : Nat} (hn : h'.Ns s.heap.objs.size (λ y => ([] : List (Str × Value)).reverse.lookup y))
    (hs : Heap.SameBut s.heap.objs.size (s.heap.push { cls := .type "dict", data := .dict #[] }) h') : Inv (cmpCx X scope N s.heap.objs.size s H fp) [] (cmpSt 1 src σ) H { s with heap := h', toks := t' } := by
  have fc := I.freeCells S
  have sub := clOf_sub scope.names X.env.cells [] fc (λ _ _ z => nomatch z)
  have keep : ∀ b o, s.heap.get? b = some o -> h'.get? b = some o := λ b o e => (hs.2 b (Nat.ne_of_lt (Heap.lt_size e))).trans (Heap.get?_push_of_some _ e)
  obtain ⟨m, _, hl⟩ := id I.loc
  refine ⟨cmp_ok I S hf, rfl, I.bare, Un.kept keep, ⟨_, hn, λ j y v e1 e2 e3 => ?_⟩, λ y c e => ?_, I.fresh, λ y c e => I.freeC y c (sub y c e), λ p hp => (nomatch hp), I.hok.kept keep, ?_⟩
  . have e1 : N[j]? = some y := e1
    rw [S.eN] at e1
    cases j with
    | zero => simp [cmpSt] at e2
    | succ j =>
      have e1 : cap[j]? = some y := by simpa using e1
      have e2 : (src.map λ i => (σ[i]?).join)[j]? = some (some v) := by simpa [cmpSt, List.replicate] using e2
      rw [List.getElem?_map] at e2
      cases hsj : src[j]? with
      | none => rw [hsj] at e2; cases e2
      | some i =>
        rw [hsj] at e2
        have e2 : (σ[i]?).join = some v := by simpa using e2
        obtain ⟨c1, c2⟩ := S.capt j y i e1 hsj
        have e4 : σ[i]? = some (some v) := by
          cases q : σ[i]? with
          | none => rw [q] at e2; cases e2
          | some o => rw [q] at e2; simp at e2; rw [e2]
        have k1 : X.env.scope.names.lookup y = some .cell := S.free _ c2 rfl
        obtain ⟨u, r, l⟩ := hl i y v c1 e4 (.inr (.inl k1))
        refine ⟨u, r, ?_⟩
        rcases l with ⟨l, _⟩ | ⟨_, c, ec, z⟩
        . have l : X.env.scope.names.lookup y = some .local := l
          rw [k1] at l; cases l
        . obtain ⟨c', ec'⟩ := clOf_has scope.names X.env.cells [] y c2
          have := sub y c' ec'
          rw [ec] at this; cases this
          refine .inr ⟨?_, c, ec', z.keeps keep⟩
          rcases e3 with e3 | e3 | e3
          . rcases relabel_kind (show (relabel scope X.env).names.lookup y = some .local from e3) with z1 | ⟨z1, _⟩
            . exact absurd c2 (S.nolf _ z1 rfl)
            . cases z1
          . exact .inl e3
          . exact .inr e3
  . obtain ⟨v, z⟩ := I.cell y c (sub y c e)
    exact ⟨v, z.keeps keep⟩
  . show (cmpSt 1 src σ).length = N.length
    rw [S.eN]
    simp [cmpSt, S.lsrc]
theorem cmp_back (I : Inv X pins σ H s) {ch : List Addr} (hf : ∀ b ∈ ch, FpOk X pins H b /\ b < s.heap.objs.size) {H' : Hp} {s' : Shared} {σ' : St} {N' : List Str} (J : Inv (cmpCx X scope N' s.heap.objs.size s H ch) [] σ' H' s') {h'' : Heap}
    (hs : Heap.SameBut s.heap.objs.size s'.heap h'') : Inv X pins σ H' { s' with heap := h'' } := by
  have u : Un (frs X.stack) ch H H' s.heap s'.heap := J.base
  have hne : ∀ b o, s.heap.get? b = some o -> b ≠ s.heap.objs.size := λ b o e => Nat.ne_of_lt (Heap.lt_size e)
  have u2 : Un (frs X.stack) ch H H' s.heap h'' := ⟨λ b o e n h1 h2 => (hs.2 b (hne b o e)).trans (u.keep b o e n h1 h2), λ b o e n h1 h2 => by
      obtain ⟨sl, q⟩ := u.slot b o e n h1 h2
      exact ⟨sl, (hs.2 b (hne b o e)).trans q⟩, u.free, λ b o e h => by
      obtain ⟨o', q⟩ := u.there b o e h
      exact ⟨o', (hs.2 b (hne b o e)).trans q⟩, u.tups, u.frzs, u.tbls⟩
  have hC : H' s.heap.objs.size = none := J.free
  have hok : HOk X.prog X.w H' h'' := λ a o e => (J.hok a o e).stay (λ b u hb q => (hs.2 b (by
      rintro rfl
      rcases hb with z | z
      . rw [<- z, hC] at e; cases e
      . rw [hC] at z; cases z)).trans q) (λ _ q => q) λ _ _ q => q
  exact I.call' (s' := { s' with heap := h'' }) J.os u2 hok J.bare λ b hb => ⟨(hf b hb).1.2.2.2.1, (hf b hb).1.2.1, (hf b hb).1.2.2.2.2.1, (hf b hb).1.2.2.2.2.2⟩
theorem cmp_run {elt iter : Expr} {px : Pos} {ifs : List Expr} {pos : Pos} {wi : TI} {g : TG} {tc : TT} {te : TE} {use : Option (Value -> Sem Unit)} {Q : V -> Hp -> Prop} {P : Value -> Shared -> Prop} (I : Inv X pins σ H s) (hc : X.calm = true) (S : CmpSc X scope x N cap src)
    (hi : PI X (.Name x px) iter wi) (hg : ∀ C s₀ H₀ ex, PG (cmpCx X scope N C s₀ H₀ ex) (.Name x px) g)
    (ht : ∀ C s₀ H₀ ex (pins : List (Addr × Obj)) (s : Shared) (σ : St) (H : Hp) (R : Bool -> Hp -> Prop), Inv (cmpCx X scope N C s₀ H₀ ex) pins σ H s -> tc σ H R ->
      wpAny (model X.prog X.w) X.A (forIn ifs true λ c r => if r = true then do let ok <- isTrue c (cmpCx X scope N C s₀ H₀ ex).env (eval c (cmpCx X scope N C s₀ H₀ ex).env); pure (ForInStep.yield ok) else pure (ForInStep.yield r)) (TP (cmpCx X scope N C s₀ H₀ ex) pins σ R) (λ _ _ => False) s)
    (he : ∀ C s₀ H₀ ex, PE (cmpCx X scope N C s₀ H₀ ex) elt te) (h : tCmp' wi g tc te src σ H Q)
    (hs : ∀ x, foldedSetIterable iter X.env x = pure x)
    (fin : ∀ (D C : Addr) (s3 s' : Shared) (H3 H' : Hp) (σ' : St) (ex : List Addr), Inv X pins σ H3 s3 -> C = s3.heap.objs.size -> (∀ b ∈ ex, FpOk X pins H3 b /\ b < s3.heap.objs.size) -> Inv (cmpCx X scope N s3.heap.objs.size s3 H3 ex) [] σ' H' s' -> Q (.ref D) H' ->
      compPost (model X.prog X.w) X.A X.xe use P (.ref D) C (.ok .next) s') :
    wpAny (model X.prog X.w) X.A (comprehension (.ListComp elt [⟨.Name x px, iter, ifs, 0⟩] scope pos) scope X.env (firstIterPos [⟨.Name x px, iter, ifs, 0⟩] pos) (newList []) false (eval iter X.env) use) P X.xe s := by
  have hcl := closureFor_cl (scope := scope) (env := X.env) (I.freeCells S)
  refine wpAny_comprehension_free (use := use) rfl hs hcl S.kind S.names (thn (hi pins s σ H _ I h) λ v s1 h1 => thn h1 λ itv s2 h2 => ?_)
  obtain ⟨it, fp, tn, J, H2, e, I2, T, st2, f2, h⟩ := h2
  subst e
  refine wpAny_newList ?_
  have hD : H2 s2.heap.objs.size = none := I2.fresh
  obtain ⟨W, ⟨m0, w0⟩, turn⟩ := h s2.heap.objs.size hD
  have I3 : Inv X pins σ (upd H2 s2.heap.objs.size (.lst [])) { s2 with heap := s2.heap.push { cls := .type "list", data := .seq ([] : List Value).toArray } } :=
    I2.laid (t' := s2.toks) (o := .lst []) (λ b u e => Heap.get?_push_of_some _ e) (Nat.le_refl _) ⟨Nat.zero_le _, [], _, .nil, Heap.get?_push_size _ rfl⟩
  have fpb : ∀ b ∈ fp, b < s2.heap.objs.size := λ b hb => by
    obtain ⟨o, e, _⟩ := T.obj _ _ st2 b hb
    exact Heap.lt_size e
  have f3 : ∀ b ∈ fp, FpOk X pins (upd H2 s2.heap.objs.size (.lst [])) b /\ b < ({ s2 with heap := s2.heap.push { cls := .type "list", data := .seq ([] : List Value).toArray } } : Shared).heap.objs.size := λ b hb => by
    have hne : b ≠ s2.heap.objs.size := Nat.ne_of_lt (fpb b hb)
    refine ⟨⟨by rw [upd_ne hne]; exact (f2 b hb).1, (f2 b hb).2⟩, ?_⟩
    show b < (s2.heap.push _).objs.size
    rw [Heap.size_push]
    exact Nat.lt_succ_of_lt (fpb b hb)
  generalize hs3 : ({ s2 with heap := s2.heap.push { cls := .type "list", data := .seq ([] : List Value).toArray } } : Shared) = s3 at I3 f3 ⊢
  have tn3 : tn 0 s3.heap := T.keep _ _ _ st2 λ b _ o e => by rw [<- hs3]; exact Heap.get?_push_of_some _ e
  generalize hDD : s2.heap.objs.size = D at *
  generalize hH3 : upd H2 D (.lst []) = H3 at *
  refine wpAny_newFunctionEnv S.cell (λ y hy => (nomatch hy)) (λ h4 hn4 hs4 => ?_) S.kind
  have I4 : Inv (cmpCx X scope N s3.heap.objs.size s3 H3 fp) [] (cmpSt 1 src σ) H3 { s3 with heap := h4, toks := s3.toks + ([] : List (Str × Value)).length } := cmp_inv I3 S f3 hn4 hs4
  have keep4 : ∀ b o, s3.heap.get? b = some o -> h4.get? b = some o := λ b o e => (hs4.2 b (Nat.ne_of_lt (Heap.lt_size e))).trans (Heap.get?_push_of_some _ e)
  have tn4 : tn 0 h4 := T.keep _ _ _ tn3 λ b _ o e => keep4 b o e
  have fr4 : ∀ b ∈ fp, H3 b = none := λ b hb => (f3 b hb).1.1
  have fpY : ∀ {H' : Hp}, (∀ b ∈ fp, H' b = none) -> ∀ b ∈ fp, FpOk (cmpCx X scope N s3.heap.objs.size s3 H3 fp) [] H' b := λ hn b hb => by
    have ok := I4.ok
    refine ⟨hn b hb, (ok.exf b hb).1, ok.exfs b hb, .inl hb, (ok.exf b hb).2, λ p hp => (nomatch hp)⟩
  generalize hs4' : ({ s3 with heap := h4, toks := s3.toks + ([] : List (Str × Value)).length } : Shared) = s4 at I4
  have tn4' : tn 0 s4.heap := by rw [<- hs4']; exact tn4
  show codeAny _ _ (.compStart _ 0 (.ref it) (.ref D) _) _ s4
  have loop : codeAny (model X.prog X.w) X.A (.compLoop (.ListComp elt [⟨.Name x px, iter, ifs, 0⟩] scope pos) 0 (.ref it) (.ref D) (cmpCx X scope N s3.heap.objs.size s3 H3 fp).env) (compPost (model X.prog X.w) X.A X.xe use P (.ref D) s3.heap.objs.size) s4 := by
    refine codeAny_compLoop_tests (λ n s' => ∃ i ys σ' H', Inv (cmpCx X scope N s3.heap.objs.size s3 H3 fp) [] σ' H' s' /\ tn i s'.heap /\ (∀ b ∈ fp, H' b = none) /\ W i n ys σ' H') ?_ m0 ⟨0, [], _, H3, I4, tn4', fr4, w0⟩
    rintro n s5 ⟨i, ys, σ5, H5, I5, st5, fr5, w5⟩
    have nev : ∀ {α : Type} {t : Sem α} {Q : α -> Shared -> Prop} {E : Value -> Shared -> Prop} {s : Shared}, wpAny (model X.prog X.w) X.A t Q (λ _ _ => False) s -> wpAny (model X.prog X.w) X.A t Q E s := λ h => wpAny_mono h (λ _ _ x => x) λ _ _ z => z.elim
    rcases turn i n ys σ5 H5 w5 with ⟨stop, qn⟩ | ⟨go, NN, hN, step⟩
    . refine nev (thn (T.done (cmpCx X scope N s3.heap.objs.size s3 H3 fp) rfl rfl rfl hc i [] s5 σ5 H5 (λ _ _ => False) I5 (fpY fr5) st5 stop) λ r s6 ⟨hr, I6⟩ => ?_)
      subst hr
      exact fin D s3.heap.objs.size s3 s6 H3 H5 σ5 fp I3 rfl f3 I6 qn
    . refine nev (thn (T.item (cmpCx X scope N s3.heap.objs.size s3 H3 fp) rfl rfl rfl hc i [] s5 σ5 H5 (λ _ _ => False) I5 (fpY fr5) st5 go) λ r s6 ⟨u, hr, h6⟩ => ?_)
      subst hr
      refine cmp_step (P := λ s6 => ∃ y H6, Inv (cmpCx X scope N s3.heap.objs.size s3 H3 fp) [] σ5 H6 s6 /\ RelV y u /\ J.yld i H5 y H6 /\ tn (i + 1) s6.heap /\ ∀ b ∈ fp, H6 b = none) h6 λ s6 h6' => ?_
      obtain ⟨y, H6, I6, r6, y6, st6, fr6⟩ := h6'
      have I6' := I6.pinned (fpY fr6) (T.obj _ _ st6)
      have ok6 : ∀ {σ7 : St} {H7 : Hp} {s7 : Shared}, Inv (cmpCx X scope N s3.heap.objs.size s3 H3 fp) ([] ++ pinsAt fp s6.heap) σ7 H7 s7 -> Inv (cmpCx X scope N s3.heap.objs.size s3 H3 fp) [] σ7 H7 s7 /\ tn (i + 1) s7.heap /\ ∀ b ∈ fp, H7 b = none := λ {σ7 H7 s7} I7 => by
        refine ⟨I7.unpinned, T.keep _ _ _ st6 λ b hb o e => (I7.pin (b, o) (List.mem_append_right _ (List.mem_append_right _ (mem_pinsAt hb e)))).1, λ b hb => ?_⟩
        obtain ⟨o, e, d⟩ := T.obj _ _ st6 b hb
        exact (I7.pin (b, o) (List.mem_append_right _ (List.mem_append_right _ (mem_pinsAt hb e)))).2.1
      refine nev (thn (hg _ _ _ _ _ s6 σ5 H6 y u _ I6' r6 (step y H6 y6)) λ _ s7 ⟨σ7, H7, I7, q7⟩ => ?_)
      refine nev (thn (ht _ _ _ _ _ s7 σ7 H7 _ I7 q7) λ b s8 ⟨H8, I8, q8⟩ => ?_)
      cases b with
      | false =>
        have q8 : NN ys σ7 H8 := by simpa using q8
        obtain ⟨m', hm, w'⟩ := hN _ _ _ q8
        obtain ⟨a1, a2, a3⟩ := ok6 I8
        exact ⟨m', hm, i + 1, ys, σ7, H8, a1, a2, a3, w'⟩
      | true =>
        have q8 : te σ7 H8 (rAcc D ys NN σ7) := by simpa using q8
        refine nev (thn (he _ _ _ _ _ s8 σ7 H8 _ I8 q8) λ v9 s9 ⟨y9, H9, I9, r9, d9, l9, n9⟩ => ?_)
        refine nev (thn (mt_append (X := cmpCx X scope N s3.heap.objs.size s3 H3 fp) _ s9 σ7 H9 (.ref D) [y9] (.ref D) [v9] (λ _ H10 => NN (ys ++ [y9]) σ7 H10) I9 rfl (.cons r9 .nil) ⟨D, ys, y9, rfl, rfl, d9, l9, n9⟩) λ _ s10 ⟨_, H10, I10, _, q10⟩ => ?_)
        obtain ⟨m', hm, w'⟩ := hN _ _ _ q10
        obtain ⟨a1, a2, a3⟩ := ok6 I10
        exact ⟨m', hm, i + 1, _, σ7, H10, a1, a2, a3, w'⟩
  exact codeAny_compStart_list loop (T.self X.A 0 s4 _ _ tn4' loop)
theorem pe_comp1 {elt iter c : Expr} {px pos : Pos} {wi : TI} {g : TG} {tc : TT} {te : TE} (hc : X.calm = true) (S : CmpSc X scope x N cap src) (hi : PI X (.Name x px) iter wi) (hg : ∀ C s₀ H₀ ex, PG (cmpCx X scope N C s₀ H₀ ex) (.Name x px) g)
    (ht : ∀ C s₀ H₀ ex, PT (cmpCx X scope N C s₀ H₀ ex) c tc) (he : ∀ C s₀ H₀ ex, PE (cmpCx X scope N C s₀ H₀ ex) elt te) (hs : ∀ x, foldedSetIterable iter X.env x = pure x := by intro _; rfl) : PE X (.ListComp elt [⟨.Name x px, iter, [c], 0⟩] scope pos) (tComp wi g tc te src) := by
  intro pins s σ H Q I h
  rw [eval_ListComp]
  exact cmp_run (use := none) I hc S hi hg (λ C s₀ H₀ ex pins s σ H R I h => wpAny_tests_one (ht C s₀ H₀ ex pins s σ H R I h)) he h hs λ D C s3 s' H3 H' σ' ex I3 eC f3 J q => by
    subst eC
    obtain ⟨m, hn, _⟩ := id J.loc
    exact ⟨m, hn, λ h' hs' => ⟨.ref D, H', cmp_back I3 f3 J hs', rfl, q⟩⟩
theorem ps_setcomp {elt iter : Expr} {px pos py spos : Pos} {ifs : List Expr} {y : Str} {j : Nat} {wi : TI} {g : TG} {tc : TT} {te : TE} (hc : X.calm = true) (S : CmpSc X scope x N cap src) (hN : X.N.Nodup) (hj : X.N[j]? = some y) (hy : X.env.scope.names.lookup y = some .local) (hi : PI X (.Name x px) iter wi) (hg : ∀ C s₀ H₀ ex, PG (cmpCx X scope N C s₀ H₀ ex) (.Name x px) g)
    (ht : ∀ C s₀ H₀ ex (pins : List (Addr × Obj)) (s : Shared) (σ : St) (H : Hp) (R : Bool -> Hp -> Prop), Inv (cmpCx X scope N C s₀ H₀ ex) pins σ H s -> tc σ H R ->
      wpAny (model X.prog X.w) X.A (forIn ifs true λ c r => if r = true then do let ok <- isTrue c (cmpCx X scope N C s₀ H₀ ex).env (eval c (cmpCx X scope N C s₀ H₀ ex).env); pure (ForInStep.yield ok) else pure (ForInStep.yield r)) (TP (cmpCx X scope N C s₀ H₀ ex) pins σ R) (λ _ _ => False) s)
    (he : ∀ C s₀ H₀ ex, PE (cmpCx X scope N C s₀ H₀ ex) elt te) (hsw : swapsWith (.ListComp elt [⟨.Name x px, iter, ifs, 0⟩] scope pos) (some (.Name y py)) spos.line X.env = pure true) (hs : ∀ x, foldedSetIterable iter X.env x = pure x := by intro _; rfl) :
    PS X (.Assign [.Name y py] (.ListComp elt [⟨.Name x px, iter, ifs, 0⟩] scope pos) spos) (tAsg (tComp wi g tc te src) (gName j)) := by
  intro pins s σ H D0 I h
  rw [exec_Assign_Name_used _ _ _ _ hsw]
  refine wpAny_bind (wpAny_standAt (wpAny_bind ?_))
  show wpAny _ X.A (do let _ <- comprehension (.ListComp elt [⟨.Name x px, iter, ifs, 0⟩] scope pos) scope X.env _ (newList []) false (eval iter X.env) (some (assign (.Name y py) X.env))) _ _ s
  refine wpAny_bind (wpAny_mono (cmp_run (use := some (assign (.Name y py) X.env)) (Q := λ v H' => D0.nx (σ.set j (some v)) H') (P := λ _ s' => SP X pins D0 .next s') I hc S hi hg ht he (show tCmp' wi g tc te src σ H λ v H' => D0.nx (σ.set j (some v)) H' from h) hs λ D C s3 s' H3 H' σ' ex I3 eC f3 J q => ?_) (λ _ s' hq => wpAny_pure (wpAny_pure hq)) λ _ _ e => e)
  subst eC
  show wpAny _ X.A (assign (.Name y py) X.env (.ref D)) _ _ s'
  have I4 : Inv X pins σ H' s' := cmp_back I3 f3 J (h'' := s'.heap) (Heap.SameBut.refl ..)
  obtain ⟨mC, hnC, _⟩ := id J.loc
  have hnC : s'.heap.Ns s3.heap.objs.size mC := hnC
  have hHC : H' s3.heap.objs.size = none := J.free
  have FC : FpOk X pins H' s3.heap.objs.size := I3.fpOk (Nat.le_refl _) hHC
  refine wpAny_assign_Name (store_ok2 (v := .ref D) I4 hN hj (.inl hy) rfl (λ s5 I5 ⟨a, hs5, ha⟩ => ?_) (.inr hy))
  have hCa : s3.heap.objs.size ≠ a := by
    rcases ha with z | z
    . rw [z]; exact FC.2.1
    . exact Ne.symm (FC.2.2.2.2.1 _ a z)
  refine ⟨mC, hnC.sameBut hs5 hCa, λ h6 hs6 => ⟨_, H', I5.turned (t' := s5.toks) (it := s3.heap.objs.size) (λ b o hb e => (hs6.2 b hb).trans e) hHC FC.2.1 FC.2.2.2.1 FC.2.2.2.2.1 FC.2.2.2.2.2, q⟩⟩
end
theorem cmp_list {K : PySem.W.Frag} {a D : Addr} {xs : List V} {g : TG} {tc : TT} {te : TE} {σ0 : St} {H0 : Hp} {Q : VK} (Pv : Nat -> List V -> St -> Hp -> Prop) (h0 : Pv 0 [] σ0 H0) (hl : ∀ i ys σ H, i <= xs.length -> Pv i ys σ H -> SqL K H a xs)
    (hs : ∀ i x ys σ H, xs[i]? = some x -> Pv i ys σ H -> g x σ H λ σ3 H3 => tc σ3 H3 λ b H4 => if b = true then te σ3 H4 (rAcc D ys (Pv (i + 1)) σ3) else Pv (i + 1) ys σ3 H4) (hd : ∀ ys σ H, Pv xs.length ys σ H -> Q (.ref D) H) :
    ∃ W : Nat -> Nat -> List V -> St -> Hp -> Prop, (∃ m, W 0 m [] σ0 H0) /\ ∀ i m ys σ' H', W i m ys σ' H' ->
      ((Itl K a).stop i H' /\ Q (.ref D) H') \/ ((Itl K a).go i H' /\ ∃ N : List V -> St -> Hp -> Prop, (∀ ys σ2 H2, N ys σ2 H2 -> ∃ m', m' < m /\ W (i + 1) m' ys σ2 H2) /\ ∀ x H2, (Itl K a).yld i H' x H2 -> g x σ' H2 λ σ3 H3 => tc σ3 H3 λ b H4 => if b = true then te σ3 H4 (rAcc D ys N σ3) else N ys σ3 H4) := by
  refine ⟨λ i m ys σ H => m = xs.length - i /\ i <= xs.length /\ Pv i ys σ H, ⟨xs.length, by simp, Nat.zero_le _, h0⟩, ?_⟩
  rintro i m ys σ H ⟨rfl, hi, p⟩
  have q := hl i ys σ H hi p
  by_cases hlt : i < xs.length
  . refine .inr ⟨⟨xs, xs[i], q, by simp [hlt]⟩, Pv (i + 1), λ ys' σ' H' p' => ⟨xs.length - (i + 1), by omega, rfl, hlt, p'⟩, λ x H' y => ?_⟩
    obtain ⟨e, y⟩ := y
    subst e
    exact hs i x ys σ _ (y xs q) p
  . have e : i = xs.length := by omega
    subst e
    exact .inl ⟨⟨xs, q, Nat.le_refl _⟩, hd ys σ H p⟩
end L2
namespace L2
open PySem PySem.Spec PyProof.Rows
section
variable {X : Cx} {pins : List (Addr × Obj)} {σ : St} {H : Hp} {s : Shared} {h' : Heap}
theorem Inv.turnedNew {ch : List Addr} {T : Addr} {o : HO} {t' : Nat} (I : Inv X pins σ H s) (hch : ∀ b ∈ ch, FpOk X pins H b) (k : ∀ b u, b ∉ ch -> s.heap.get? b = some u -> h'.get? b = some u) (hT : s.heap.objs.size <= T) (hTc : T ∉ ch)
    (new : ObjOk X.prog X.w (upd H T o) h' T o) : Inv X pins σ (upd H T o) { s with heap := h', toks := t' } := by
  have fT : H T = none := I.hok.fresh hT
  have neT : ∀ b u, s.heap.get? b = some u -> b ≠ T := λ b u e => Nat.ne_of_lt (Nat.lt_of_lt_of_le (Heap.lt_size e) hT)
  have nch : ∀ b u, H b = some u -> b ∉ ch := λ b u e hb => by
    have := (hch b hb).1
    rw [e] at this; cases this
  refine I.step (g' := s.gens) (d' := s.drawn) (ch := ch) (λ b hb => ⟨(hch b hb).2.2.2.1, (hch b hb).2.1, (hch b hb).2.2.2.2.1, (hch b hb).2.2.2.2.2⟩) (λ b o _ _ hc e _ => k b o hc e) (λ b o _ _ hc e _ => ⟨o.slots, k b o hc e⟩)
    (λ b u hc e n => by rw [upd_ne (neT b u e)]; exact n) (λ b o hc e => ⟨o, k b o hc e⟩) (λ b xs e => by rw [upd_ne (ne_of_none e fT)]; exact e) (λ b u z e => by rw [upd_ne (ne_of_none e fT)]; exact e)
    (λ b ps e => ⟨#[], by rw [upd_ne (ne_of_none e fT), e]; simp⟩) (λ m hm => ?_) (λ b u e => ?_) I.bare
  . obtain ⟨oL, es, ep, ho, r⟩ := hm
    exact ⟨oL, es, ep, k _ oL (λ z => (hch _ z).2.1 rfl) ho, r⟩
  . by_cases hb : b = T
    . subst hb
      rw [upd_same] at e; cases e
      exact new
    . rw [upd_ne hb] at e
      refine (I.hok b u e).stay (λ c v hc q => k c v ?_ q) (λ c z => by rw [upd_ne (ne_of_none z fT)]; exact z) λ c xs z => by rw [upd_ne (ne_of_none z fT)]; exact z
      rcases hc with z | z
      . rw [z]; exact nch b u e
      . exact nch c _ z
end
def Ite (K : PySem.W.Frag) (a : Addr) : It :=
  ⟨λ i H => ∃ xs x, SqL K H a xs /\ xs[i]? = some x, λ i H x H' => ∃ t y, H t = none /\ x = .ref t /\ H' = upd H t (.tup [.int (i : Nat), y]) /\ ∀ xs, SqL K H a xs -> xs[i]? = some y, λ i H => ∃ xs, SqL K H a xs /\ xs.length <= i⟩
theorem turn_enum {P : Program} {w : World} {K : PySem.W.Frag} {elts : List Expr} {k : Nat} {pos : Pos} (a e it : Addr) (hei : e ≠ it) : Turn P w K (.Tuple elts k pos) (Ite K a) [e, it] e (λ i h => (∃ old, IsEnum h e it i old) /\ h.IsListIter it a i) where
  mem := by simp
  obj := λ i h st b hb => by
    obtain ⟨⟨old, he⟩, hit⟩ := st
    rcases List.mem_cons.mp hb with z | hb
    . subst z; exact ⟨_, he, λ v z => by cases z⟩
    . have z : b = it := by simpa using hb
      subst z
      obtain ⟨o, e, c, d⟩ := hit
      exact ⟨o, e, λ v z => by rw [d] at z; cases z⟩
  keep := λ i h h' st k => by
    obtain ⟨⟨old, he⟩, hit⟩ := st
    exact ⟨⟨old, k e (by simp) _ he⟩, hit.at λ o q => k it (by simp) o q⟩
  item := by
    intro X hP hw hK hc i pins s σ H E I hf st hg
    subst hP hw hK
    obtain ⟨xs, x, hq, hx⟩ := hg
    obtain ⟨⟨old, he⟩, hit⟩ := st
    obtain ⟨its, rv, p, hz⟩ := I.list hq
    obtain ⟨u, hu, ru⟩ := rv.get hx
    refine wpAny_pyNext_enum_item he hit p.isList (x := u) (by simpa using hu) hei λ h' ho hit' hT hsz hk => ?_
    have hTc : s.heap.objs.size ∉ [e, it] := λ z => by
      rcases List.mem_cons.mp z with z | z
      . exact Nat.ne_of_gt (Heap.lt_size he) z
      . obtain ⟨oi, q, _⟩ := hit
        exact Nat.ne_of_gt (Heap.lt_size q) (by simpa using z)
    have I1 : Inv X pins σ (upd H s.heap.objs.size (.tup [.int (i : Nat), x])) { s with heap := h', toks := s.toks + 1 } := by
      refine I.turnedNew (ch := [e, it]) hf (λ b o hb q => hk b o (λ z => hb (by simp [z])) (λ z => hb (by simp [z])) q) (Nat.le_refl _) hTc ?_
      exact ⟨by show 2 <= sizeLine; decide, [.int (i : Nat) s.toks, u], .cons ⟨_, rfl⟩ (.cons ru .nil), _, hT, rfl, _, rfl⟩
    refine ⟨_, rfl, wpAny_letOwnedTupleGo_enum (s := { s with heap := h', toks := s.toks + 1 }) ho λ h'' he'' hs'' => ?_⟩
    have fe : H e = none := (hf e (by simp)).1
    have I2 : Inv X pins σ (upd H s.heap.objs.size (.tup [.int (i : Nat), x])) { s with heap := h'', toks := s.toks + 1 } := by
      obtain ⟨f0, f1, f2, f3, f4, f5⟩ := hf e (by simp)
      exact I1.turned (t' := s.toks + 1) (λ b o hb q => (hs''.2 b hb).trans q) (by rw [upd_ne (λ z => hTc (by simp [z]))]; exact f0) f1 f3 f4 f5
    refine ⟨.ref s.heap.objs.size, _, I2, rfl, ⟨_, x, I.hok.fresh (Nat.le_refl _), rfl, rfl, λ ys hy => by rw [I.list_inj hy hq]; exact hx⟩, ⟨⟨u, by simpa using he''⟩, hit'.at λ o q => (hs''.2 it hei.symm).trans q⟩, λ b hb => ?_⟩
    rw [upd_ne (λ z => hTc (by rw [<- z]; exact hb))]
    exact (hf b hb).1
  done := by
    intro X hP hw hK hc i pins s σ H E I hf st hg
    subst hP hw hK
    obtain ⟨xs, hq, hx⟩ := hg
    obtain ⟨⟨old, he⟩, hit⟩ := st
    obtain ⟨its, rv, p, hz⟩ := I.list hq
    have hl := rv.length
    refine wpAny_pyNext_enum_end (I.ok.hd hc) he hit p.isList (by simp; omega) λ h' eb => ⟨rfl, ?_⟩
    obtain ⟨f0, f1, f2, f3, f4, f5⟩ := hf it (by simp)
    exact I.turned (t' := s.toks) (λ b o hb e => eb b o hb e) f0 f1 f3 f4 f5
  self := λ _ _ _ _ _ st h => by
    obtain ⟨⟨old, he⟩, _⟩ := st
    exact wpAny_pyIter_enum he h
section
variable {X : Cx} {elts : List Expr} {k : Nat} {tpos : Pos}
def iEnum (K : PySem.W.Frag) (ta : TA) : TI := λ σ H R => ta σ H λ vs H1 => ∃ a, vs = [.ref a] /\ (∃ xs, SqL K H1 a xs) /\ R (Ite K a) H1
theorem pi_enum (K : PySem.W.Frag) {a : Expr} {ta : TA} {p pos : Pos} (hg : Gl X "enumerate") (hm : X.mg "enumerate" = none) (ha : PA X [a] ta) (eK : X.K = K := by rfl) (hs : starEach [a] X.env = [(false, eval a X.env)] := by rfl) : PI X (.Tuple elts k tpos) (.Call (.Name "enumerate" p) [a] [] pos) (iEnum K ta) := by
  subst eK
  intro pins s σ H R I h
  refine Call_ (ld_blt I hg hm bt_enumerate (PyProof.Rows.callWith_type1 (thn (ha pos pins s σ H _ I h) λ us s1 ⟨vs, H1, I1, r1, q1⟩ => ?_) hs rfl))
  obtain ⟨l, e, ⟨xs, hq⟩, q⟩ := q1
  subst e
  cases r1 with
  | cons r rr =>
    cases rr
    cases r
    obtain ⟨its, rv, pl, hz⟩ := I1.list hq
    refine call_enumerate_list pl.isList λ h' he hit hsz hk => ?_
    have I2 : Inv X pins σ H1 { s1 with heap := h' } := I1.kept (t' := s1.toks) hk
    refine wpAny_pyIter_enum (s := { s1 with heap := h' }) he ?_
    refine ⟨s1.heap.objs.size + 1, [s1.heap.objs.size + 1, s1.heap.objs.size], _, _, H1, rfl, I2, turn_enum l _ _ (Nat.ne_of_gt (Nat.lt_succ_self _)), ⟨⟨_, he⟩, hit⟩, λ b hb => ?_, q⟩
    rcases List.mem_cons.mp hb with z | hb
    . subst z
      exact I1.fpOk (Nat.le_succ _) (I1.hok.fresh (Nat.le_succ _))
    . have z : b = s1.heap.objs.size := by simpa using hb
      subst z
      exact I1.fpOk (Nat.le_refl _) (I1.hok.fresh (Nat.le_refl _))
end
structure ZA (z TI TO i1 i2 : Addr) : Prop where
  d : [z, TI, TO, i1, i2].Nodup
section
variable {X : Cx} {elts : List Expr} {k : Nat} {tpos : Pos}
end
theorem for_enum {K : PySem.W.Frag} {a : Addr} {xs : List V} {g : TG} {tb : TS} {D : Ends} {σ : St} {H : Hp} (Pv : Nat -> St -> Hp -> Prop) (h0 : Pv 0 σ H) (hl : ∀ i σ H, i <= xs.length -> Pv i σ H -> SqL K H a xs)
    (hs : ∀ i x σ H t, xs[i]? = some x -> Pv i σ H -> H t = none -> g (.ref t) σ (upd H t (.tup [.int (i : Nat), x])) λ σ2 H2 => tb { D with nx := Pv (i + 1), ct := Pv (i + 1), bk := D.nx } σ2 H2) (hd : ∀ σ H, Pv xs.length σ H -> D.nx σ H) :
    ∃ W : Nat -> Nat -> St -> Hp -> Prop, (∃ m, W 0 m σ H) /\ ∀ i m σ H, W i m σ H ->
      ((Ite K a).stop i H /\ D.nx σ H) \/ ((Ite K a).go i H /\ ∃ N : St -> Hp -> Prop, (∀ σ' H', N σ' H' -> ∃ m', m' < m /\ W (i + 1) m' σ' H') /\ ∀ x H', (Ite K a).yld i H x H' -> g x σ H' λ σ2 H2 => tb { D with nx := N, ct := N, bk := D.nx } σ2 H2) := by
  refine ⟨λ i m σ H => m = xs.length - i /\ i <= xs.length /\ Pv i σ H, ⟨xs.length, by simp, Nat.zero_le _, h0⟩, ?_⟩
  rintro i m σ H ⟨rfl, hi, p⟩
  have q := hl i σ H hi p
  by_cases hlt : i < xs.length
  . refine .inr ⟨⟨xs, xs[i], q, by simp [hlt]⟩, Pv (i + 1), λ σ' H' p' => ⟨xs.length - (i + 1), by omega, rfl, hlt, p'⟩, λ x H' y => ?_⟩
    obtain ⟨t, y, ht, rfl, rfl, hy⟩ := y
    exact hs i y σ H t (hy xs q) p ht
  . have e : i = xs.length := by omega
    subst e
    exact .inl ⟨⟨xs, q, Nat.le_refl _⟩, hd σ H p⟩
end L2
namespace L2
open PySem PySem.Spec PyProof.Rows
structure MOk (P : Program) (w : World) (K : PySem.W.Frag) (mg : Str -> Option Value) (base : Heap) (CX : CXT) (k : Nat) (C : Addr) (m : Str) (ps : List Str) (ds : List Value) (sp : Sp) : Prop where
  ex : ∃ (f : Addr) (fd : FuncData), Cls K C /\ Meth K C m f /\ FnOk P w K mg base CX k f fd ps sp /\ Binds K fd ps ds
def tMethD (m : Str) (ok : Addr -> Prop) (sp : Addr -> Sp) (dvs : List V) (E : XK) (ta : TE) (t : TA) : TE := λ σ H Q => ta σ H λ x H1 => ∃ a C dx fs, x = .ref a /\ H1 a = some (.ins C dx fs) /\ ok C /\ fs.lookup m = none /\
  t σ H1 λ vs H2 => sp C (x :: (vs ++ dvs)) H2 Q E
section
variable {X : Cx} {CX : CXT} {k : Nat} {ps : List Str} {ok : Addr -> Prop} {sp : Addr -> Sp} {dvs : List V} {ds : List Value} {E : XK} {m : Str} {pos apos : Pos} {e o : Expr} {es : List Expr} {ta : TE} {t : TA} {pins : List (Addr × Obj)} {σ : St}
theorem pe_methD {pl : Sem Bool} (he : PE X o ta) (hC : ∀ C, ok C -> MOk X.prog X.w X.K X.mg X.base CX k C m ps ds (sp C)) (hr : Room k X.A) (hd : Vals dvs ds) (hx : Passes CX X E) (ha : PA X (e :: es) t)
    (hst : starEach (e :: es) X.env = (false, eval e X.env) :: starEach es X.env := by rfl) (hpl : (backTo pos (starEach es X.env)).any (·.1) = false := by rfl)
    (ht : eval (.Call (.Attribute o m apos) (e :: es) [] pos) X.env = (do
      let ov <- eval o X.env
      standAt apos.atName
      let (f, first) <- holding [ov] (getMethod ov m pl)
      callWith pos f first (backTo pos (starEach (e :: es) X.env)) (backToKw pos (keywordEach [] X.env))) := by rfl) :
    PE X (.Call (.Attribute o m apos) (e :: es) [] pos) (tMethD m ok sp dvs E ta t) := by
  intro pins s σ H Q I h
  refine PySem.W.methodCall_KW (pl := pl) (thn (he pins s σ H _ I h) λ u s1 ⟨x, H1, I1, rx, a, C, dx, fs, ex, ea, okC, l, q⟩ => ?_) ht
  subst ex
  obtain rfl : u = Value.ref a := rx
  obtain ⟨f, fd, c, hm, F, hb⟩ := (hC C okC).ex
  refine getmeth_ok I1 ea c hm l ?_
  refine PySem.W.callWith_K (first := [.ref a]) (h₀ := X.base) I.ok.mod.kin hm.kp (thn (ha pos pins s1 σ H1 _ I1 q) λ us s2 ⟨vs, H2, I2, r, q2⟩ => ⟨I2.kIn, ?_⟩) hst hpl
  exact run_fn (us := .ref a :: us) (vs := .ref a :: vs) F hr hb hd hx I2 (.cons rfl r) q2
theorem pe_methD0 {pl : Sem Bool} (he : PE X o ta) (hC : ∀ C, ok C -> MOk X.prog X.w X.K X.mg X.base CX k C m ps ds (sp C)) (hr : Room k X.A) (hd : Vals dvs ds) (hx : Passes CX X E)
    (ht : eval (.Call (.Attribute o m apos) [] [] pos) X.env = (do
      let ov <- eval o X.env
      standAt apos.atName
      let (f, first) <- holding [ov] (getMethod ov m pl)
      callWith pos f first (backTo pos (starEach [] X.env)) (backToKw pos (keywordEach [] X.env))) := by rfl) :
    PE X (.Call (.Attribute o m apos) [] [] pos) (tMethD m ok sp dvs E ta tNil) := by
  intro pins s σ H Q I h
  refine PySem.W.methodCall_KW (pl := pl) (thn (he pins s σ H _ I h) λ u s1 ⟨x, H1, I1, rx, a, C, dx, fs, ex, ea, okC, l, q⟩ => ?_) ht
  subst ex
  obtain rfl : u = Value.ref a := rx
  obtain ⟨f, fd, c, hm, F, hb⟩ := (hC C okC).ex
  refine getmeth_ok I1 ea c hm l ?_
  exact PySem.W.callWith_K0 (first := [.ref a]) I1.kIn hm.kp (run_fn (us := [.ref a]) (vs := [.ref a]) F hr hb hd hx I1 (.cons rfl .nil) q)
theorem pe_methDAt {pl : Sem Bool} (he : PE X o ta) (hC : ∀ C, ok C -> MOk X.prog X.w X.K X.mg X.base CX k C m ps ds (sp C)) (hr : Room k X.A) (hd : Vals dvs ds) (hx : PassesAt CX X pins σ E) (ha : PA X (e :: es) t)
    (hst : starEach (e :: es) X.env = (false, eval e X.env) :: starEach es X.env := by rfl) (hpl : (backTo pos (starEach es X.env)).any (·.1) = false := by rfl)
    (ht : eval (.Call (.Attribute o m apos) (e :: es) [] pos) X.env = (do
      let ov <- eval o X.env
      standAt apos.atName
      let (f, first) <- holding [ov] (getMethod ov m pl)
      callWith pos f first (backTo pos (starEach (e :: es) X.env)) (backToKw pos (keywordEach [] X.env))) := by rfl) :
    PEat X pins σ (.Call (.Attribute o m apos) (e :: es) [] pos) (tMethD m ok sp dvs E ta t) := by
  intro s H Q I h
  refine PySem.W.methodCall_KW (pl := pl) (thn (he pins s σ H _ I h) λ u s1 ⟨x, H1, I1, rx, a, C, dx, fs, ex, ea, okC, l, q⟩ => ?_) ht
  subst ex
  obtain rfl : u = Value.ref a := rx
  obtain ⟨f, fd, c, hm, F, hb⟩ := (hC C okC).ex
  refine getmeth_ok I1 ea c hm l ?_
  refine PySem.W.callWith_K (first := [.ref a]) (h₀ := X.base) I.ok.mod.kin hm.kp (thn (ha pos pins s1 σ H1 _ I1 q) λ us s2 ⟨vs, H2, I2, r, q2⟩ => ⟨I2.kIn, ?_⟩) hst hpl
  exact run_fnAt (us := .ref a :: us) (vs := .ref a :: vs) F hr hb hd hx I2 (.cons rfl r) q2
theorem pe_methD0At {pl : Sem Bool} (he : PE X o ta) (hC : ∀ C, ok C -> MOk X.prog X.w X.K X.mg X.base CX k C m ps ds (sp C)) (hr : Room k X.A) (hd : Vals dvs ds) (hx : PassesAt CX X pins σ E)
    (ht : eval (.Call (.Attribute o m apos) [] [] pos) X.env = (do
      let ov <- eval o X.env
      standAt apos.atName
      let (f, first) <- holding [ov] (getMethod ov m pl)
      callWith pos f first (backTo pos (starEach [] X.env)) (backToKw pos (keywordEach [] X.env))) := by rfl) :
    PEat X pins σ (.Call (.Attribute o m apos) [] [] pos) (tMethD m ok sp dvs E ta tNil) := by
  intro s H Q I h
  refine PySem.W.methodCall_KW (pl := pl) (thn (he pins s σ H _ I h) λ u s1 ⟨x, H1, I1, rx, a, C, dx, fs, ex, ea, okC, l, q⟩ => ?_) ht
  subst ex
  obtain rfl : u = Value.ref a := rx
  obtain ⟨f, fd, c, hm, F, hb⟩ := (hC C okC).ex
  refine getmeth_ok I1 ea c hm l ?_
  exact PySem.W.callWith_K0 (first := [.ref a]) I1.kIn hm.kp (run_fnAt (us := [.ref a]) (vs := [.ref a]) F hr hb hd hx I1 (.cons rfl .nil) q)
end
structure FunD (K : PySem.W.Frag) (x qual : Str) (st : Stmt) (f : Addr) (fd : FuncData) (dv : List Value) : Prop where
  ex : ∃ (oc : Value) (od : Option Addr) (T : Addr) (kV doc pm : Value) (an : Option Addr) (cdv ct : Value) (osl : Array (Option Value)) (o : Obj) (n : Nat),
    fd = PySem.W.fnOf x qual (defArgs st) (defBody st) (defScope st) (.ref T) kV doc pm an cdv ct /\ K.lookup f = some ⟨oc, od, .func fd, osl⟩ /\ PySem.W.codeIn K cdv qual = true /\ K.lookup T = some o /\ o.data = .seq dv.toArray n
  kp : PySem.W.keepIn K (.ref f) = true
section
variable {P : Program} {w : World} {K : PySem.W.Frag} {mg : Str -> Option Value} {base : Heap} {x qual : Str} {st : Stmt} {f : Addr} {fd : FuncData} {dv : List Value}
theorem FunD.okX {N ps : List Str} {k : Nat} {sp : Sp} (F : FunD K x qual st f fd dv) (S : FnScope N ps (defScope st)) (len : ∀ vs H Q E, sp vs H Q E -> vs.length = ps.length)
    (hbody : ∀ (cdv : Value) (A : Around) (outer : List Env) (s : Shared) (H : Hp) (vs : List V) (Q : VK) (E : XK), Room k (A.deeper (envOfC qual (defScope st) s.heap.objs.size f cdv)) -> sp vs H Q E ->
      ∃ t, PSs (cxX P w K mg base N qual (defScope st) f cdv A outer s H E) (defBody st) t /\ t { nx := λ _ H' => Q .non H', rt := Q } (start N vs) H) : FnOk P w K mg base (CXE P w) (k + 1) f fd ps sp := by
  obtain ⟨oc, od, T, kV, doc, pm, an, cdv, ct, osl, o, n, rfl, lk, hcd, _, _⟩ := F.ex
  exact fn_of lk hcd S len λ A outer s H vs Q E hr hsp => hbody cdv A outer s H vs Q E hr hsp
theorem FunD.binds {ps : List Str} {ds : List Value} (F : FunD K x qual st f fd dv)
    (h : ∀ (T : Addr) (kV doc pm : Value) (an : Option Addr) (cdv ct : Value) (us : List Value), (us ++ ds).length = ps.length ->
      ∃ k, bindArgs (PySem.W.fnOf x qual (defArgs st) (defBody st) (defScope st) (.ref T) kV doc pm an cdv ct) ⟨us, []⟩ = (seqItems? (.ref T) >>= k) /\ k (some dv.toArray) = pure (ps.zip (us ++ ds))) : Binds K fd ps ds := by
  obtain ⟨oc, od, T, kV, doc, pm, an, cdv, ct, osl, o, n, rfl, lk, hcd, hT, hd⟩ := F.ex
  intro s us KI hl
  obtain ⟨k, e1, e2⟩ := h T kV doc pm an cdv ct us hl
  exact BindsTo.of_defaults rfl (KI _ _ hT) hd e1 e2
end
end L2
namespace L2
open PySem PySem.Spec PyProof.Rows
theorem hu_k {k n : Nat} {A : Around} (hr : Room k A) (h : n <= 64) : A.units + n < cLine := Nat.lt_of_le_of_lt (Nat.add_le_add_left h _) hr.units
theorem hu_0 {k : Nat} {A : Around} (hr : Room k A) : A.units < cLine := hr.units0
def cmpB (fs : Scope) (fN : List Str) (sc : Scope) (x : Str) (cap : List Str) (src : List Nat) : Bool :=
  (sc.kind == .function) && (sc.names.all λ y => y.2 != .cell) && (sc.names.all λ y => y.2 != .local || (sc.names.lookup y.1 == some .local)) && (sc.names.all λ y => y.2 != .local || !(sc.names.contains (y.1, NameKind.free)))
  && (sc.names.lookup x == some .local) && (sc.names.all λ y => y.2 != .free || (fs.names.lookup y.1 == some .cell)) && (src.length == cap.length) && ((cap.zip src).all λ z => (fN[z.2]? == some z.1) && sc.names.contains (z.1, NameKind.free))
theorem CmpSc.of {X : Cx} {fs : Scope} {fN : List Str} {sc : Scope} {x : Str} {cap : List Str} {src : List Nat} (e1 : X.env.scope = fs) (e2 : X.N = fN) (h : cmpB fs fN sc x cap src = true) : CmpSc X sc x (x :: cap) cap src := by
  unfold cmpB at h
  simp only [Bool.and_eq_true, beq_iff_eq, List.all_eq_true, Bool.or_eq_true, bne_iff_ne, ne_eq, Bool.not_eq_true'] at h
  obtain ⟨⟨⟨⟨⟨⟨⟨h1, h2⟩, h3⟩, h4⟩, h5⟩, h6⟩, h7⟩, h8⟩ := h
  refine ⟨h1, λ y hy => h2 y hy, λ y hy hl => ?_, λ y hy hl => ?_, h5, λ y hy hf => ?_, rfl, h7, λ j y i hj hi => ?_⟩
  . rcases h3 y hy with z | z
    . exact absurd hl z
    . exact z
  . rcases h4 y hy with z | z
    . exact absurd hl z
    . intro hm
      rw [List.contains_iff_mem.mpr hm] at z
      cases z
  . rcases h6 y hy with z | z
    . exact absurd hf z
    . rw [e1]; exact z
  . have hm : (y, i) ∈ cap.zip src := by
      refine List.mem_of_getElem? (i := j) ?_
      rw [List.getElem?_zip_eq_some]
      exact ⟨hj, hi⟩
    obtain ⟨z1, z2⟩ := h8 (y, i) hm
    rw [e2]
    exact ⟨z1, List.contains_iff_mem.mp z2⟩
section
variable {X : Cx} (K : PySem.W.Frag) {o e : Expr} {es : List Expr} {to : TE} {t : TA} {name : Str} {apos cpos : Pos} {T id : String} {r : V -> List V -> Hp -> VK -> Prop}
theorem pe_bm0K (pa : PlainAttrs T) (slot : Slot T name id) (hty : typeOf (.builtin id) = pure (.type "method_descriptor")) (hm : MtM X id r) (ho : PE X o to) (eK : X.K = K := by rfl)
    (hbase : attributeBase o name X.env (eval o X.env) = eval o X.env := by rfl) (hline : (apos.endLine == cpos.line) = true := by rfl) : PE X (.Call (.Attribute o name apos) [] [] cpos) (tBM0 K T r to) := by
  subst eK; exact pe_bm0 pa slot hty hm ho hbase hline
theorem pe_bmK (pa : PlainAttrs T) (slot : Slot T name id) (hty : typeOf (.builtin id) = pure (.type "method_descriptor")) (hm : MtM X id r) (ho : PE X o to) (ha : PA X (e :: es) t) (eK : X.K = K := by rfl)
    (hbase : attributeBase o name X.env (eval o X.env) = eval o X.env := by rfl)
    (hfew : ((backTo cpos (starEach (e :: es) X.env)).all (λ x => !x.1) && (backToKw cpos (keywordEach [] X.env)).all (λ x => x.1.isSome)
      && decide ((e :: es).length + ([] : List Keyword).length + (if ([] : List Keyword).isEmpty then 0 else 1) < 30)) = true := by rfl)
    (hline : (apos.endLine == cpos.line) = true := by rfl) (hs : starEach (e :: es) X.env = (false, eval e X.env) :: starEach es X.env := by rfl) (hplain : (backTo cpos (starEach es X.env)).any (·.1) = false := by rfl) :
    PE X (.Call (.Attribute o name apos) (e :: es) [] cpos) (tBM K T r to t) := by
  subst eK; exact pe_bm pa slot hty hm ho ha hbase hfew hline hs hplain
end
end L2
namespace L2
open PySem PySem.Spec PyProof.Rows
section
variable {σ : St} {H : Hp} {Q : VK} {D : Ends} {ta tb tv : TE} {t : TA} {K : PySem.W.Frag} {f m : Str}
theorem rd_methD {ok : Addr -> Prop} {sp : Addr -> Sp} {dvs : List V} {E : XK} (h : ta σ H λ x H1 => ∃ a C dx fs, x = .ref a /\ H1 a = some (.ins C dx fs) /\ ok C /\ fs.lookup m = none /\ t σ H1 λ vs H2 => sp C (x :: (vs ++ dvs)) H2 Q E) : tMethD m ok sp dvs E ta t σ H Q := h
theorem rd_fld (h : ta σ H λ x H1 => ∃ a C dx fs v, x = .ref a /\ H1 a = some (.ins C dx fs) /\ Cls K C /\ NoAttr K C f /\ fs.lookup f = some v /\ Q v H1) : tFld K ta f σ H Q := h
theorem rd_fldS (h : tv σ H λ y H1 => ta σ H1 λ x H2 => ∃ a C dx fs, x = .ref a /\ H2 a = some (.ins C dx fs) /\ Cls K C /\ NoAttr K C f /\ fs.length < 1000 /\ D.nx σ (upd H2 a (.ins C dx (putF f y fs)))) : sFld K ta tv f D σ H := h
theorem rd_bm0 {T : String} {r : V -> List V -> Hp -> VK -> Prop} (h : ta σ H λ x H1 => tyV K T x H1 /\ r x [] H1 Q) : tBM0 K T r ta σ H Q := h
theorem rd_bm {T : String} {r : V -> List V -> Hp -> VK -> Prop} (h : ta σ H λ x H1 => tyV K T x H1 /\ t σ H1 λ xs H2 => r x xs H2 Q) : tBM K T r ta t σ H Q := h
theorem rd_for {wi : TI} {g : TG} {tbd : TS} (h : wi σ H λ J H1 => ∃ W : Nat -> Nat -> St -> Hp -> Prop, (∃ m, W 0 m σ H1) /\ ∀ i m σ H, W i m σ H ->
    (J.stop i H /\ D.nx σ H) \/ (J.go i H /\ ∃ N : St -> Hp -> Prop, (∀ σ' H', N σ' H' -> ∃ m', m' < m /\ W (i + 1) m' σ' H') /\ ∀ x H', J.yld i H x H' -> g x σ H' λ σ2 H2 => tbd { D with nx := N, ct := N, bk := D.nx } σ2 H2)) : tFor wi g tbd D σ H := h
theorem rd_rng1 {R : It -> Hp -> Prop} (h : t σ H λ vs H1 => ∃ j : Int, vs = [.int j] /\ -(2 ^ 62) <= j /\ j < 2 ^ 62 /\ R (Itr 0 j.toNat) H1) : iRng1 t σ H R := h
theorem rd_iL {R : It -> Hp -> Prop} (h : ta σ H λ x H1 => ∃ a, x = .ref a /\ (∃ xs, SqL K H1 a xs) /\ R (Itl K a) H1) : iList K ta σ H R := h
theorem rd_iE {R : It -> Hp -> Prop} (h : t σ H λ vs H1 => ∃ a, vs = [.ref a] /\ (∃ xs, SqL K H1 a xs) /\ R (Ite K a) H1) : iEnum K t σ H R := h
theorem rd_sub {ti : TE} {ts : TSet} {v : V} {R : St -> Hp -> Prop} (h : ta σ H λ o H1 => ti σ H1 λ i H2 => ts o i v H2 λ H3 => R σ H3) : gSub ta ti ts v σ H R := h
theorem rd_dput {td ty : TE} (h : tv σ H λ v H1 => td σ H1 λ x H2 => ty σ H2 λ y H3 => ∃ a H4, x = .ref a /\ DPut H3 a y v H4 /\ D.nx σ H4) : sDPut td ty tv D σ H := h
theorem rd_dget {td ty : TE} (h : td σ H λ x H1 => ty σ H1 λ y H2 => ∃ a v, x = .ref a /\ DGet H2 a y (some v) /\ Q v H2) : tDGet td ty σ H Q := h
theorem rd_din {td ty : TE} (h : ty σ H λ y H1 => td σ H1 λ x H2 => ∃ a o, x = .ref a /\ DGet H2 a y o /\ Q (.bl o.isSome) H2) : tDIn ty td σ H Q := h
theorem rd_dnin {td ty : TE} (h : ty σ H λ y H1 => td σ H1 λ x H2 => ∃ a o, x = .ref a /\ DGet H2 a y o /\ Q (.bl (!o.isSome)) H2) : tDNotIn ty td σ H Q := h
theorem rd_dpop {td ty : TE} (h : td σ H λ x H1 => ∃ a, x = .ref a /\ IsD H1 a /\ ty σ H1 λ y H2 => ∃ kvs k v, H2 a = some (.dK kvs) /\ y = kV k /\ valV kvs k = some v /\ Q v (upd H2 a (.dK (dropK kvs k)))) : tDPop1 td ty σ H Q := h
theorem rd_mk {C : Addr} {sp : Sp} {dvs : List V} {E : XK} (h : t σ H λ vs H1 => ∀ x dx, H1 x = none -> H1 dx = none -> dx ≠ x -> sp (.ref x :: (vs ++ dvs)) (upd (upd H1 dx (.own x)) x (.ins C dx [])) (λ v H2 => v = .non /\ Q (.ref x) H2) E) : tMake C sp dvs E t σ H Q := h
end
abbrev Th := Int × Int
def ahd (tn : Bool) (a b : Th) : Bool := if tn = true then pLt b a else pLt a b
def ahP (tn : Bool) (a b : Th) : Prop := ahd tn a b = true
theorem ahP_ord (tn : Bool) : Hm.Ord (ahP tn) := by
  cases tn
  . exact ⟨λ a h => by have := pLt_irr a; unfold ahP ahd at h; simp_all, λ a b c h g => by unfold ahP ahd at *; simp at *; exact pLt_tr h g, λ a b => by unfold ahP ahd; simp; exact pLt_tri a b⟩
  . exact ⟨λ a h => by have := pLt_irr a; unfold ahP ahd at h; simp_all, λ a b c h g => by unfold ahP ahd at *; simp at *; exact pLt_tr g h, λ a b => by unfold ahP ahd; simp; rcases pLt_tri a b with h | h | h <;> simp [h]⟩
structure Fr (F F' : List Addr) (H H' : Hp) : Prop where
  keep : ∀ b o, b ∉ F -> H b = some o -> H' b = some o
  tup : ∀ b xs, H b = some (.tup xs) -> H' b = some (.tup xs)
  grow : ∀ b, b ∈ F' -> b ∈ F \/ H b = none
theorem Fr.of_same {F : List Addr} {H H' : Hp} (s : Same H H') : Fr F F H H' := ⟨λ b o _ h => s b o h, λ b xs h => s b _ h, λ b h => .inl h⟩
theorem Fr.trans {F F1 F2 : List Addr} {H H1 H2 : Hp} (a : Fr F F1 H H1) (b : Fr F1 F2 H1 H2) : Fr F F2 H H2 := by
  refine ⟨λ c o hc h => ?_, λ c xs h => b.tup c xs (a.tup c xs h), λ c hc => ?_⟩
  . refine b.keep c o (λ z => ?_) (a.keep c o hc h)
    rcases a.grow c z with z | z
    . exact hc z
    . rw [z] at h; cases h
  . rcases b.grow c hc with z | z
    . exact a.grow c z
    . by_cases hF : c ∈ F
      . exact .inl hF
      . refine .inr ?_
        cases e : H c with
        | none => rfl
        | some o => rw [a.keep c o hF e] at z; cases z
def Out (F : List Addr) (H : Hp) (b : Addr) (o : HO) : Prop := b ∉ F /\ H b = some o
theorem Fr.out {F F' : List Addr} {H H' : Hp} {b : Addr} {o : HO} (a : Fr F F' H H') (h : Out F H b o) : Out F' H' b o :=
  ⟨λ z => (a.grow b z).elim h.1 (λ z => by rw [h.2] at z; cases z), a.keep b o h.1 h.2⟩
theorem Same.out {F : List Addr} {H H' : Hp} {b : Addr} {o : HO} (s : Same H H') (h : Out F H b o) : Out F H' b o := ⟨h.1, s b o h.2⟩
theorem pairs_tup {H H' : Hp} (ht : ∀ b xs, H b = some (.tup xs) -> H' b = some (.tup xs)) {x : V} {p : Th} (h : kPair.R H x p) : kPair.R H' x p := by
  obtain ⟨a, rfl, q⟩ := kPair_at h
  exact kPair_of (ht _ _ q)
theorem pairs_keep {H H' : Hp} (ht : ∀ b xs, H b = some (.tup xs) -> H' b = some (.tup xs)) {xs : List V} {ps : List Th} (h : Paired (kPair.R H) xs ps) : Paired (kPair.R H') xs ps := h.map' λ _ _ q => pairs_tup ht q
theorem Same.tup {H H' : Hp} (s : Same H H') : ∀ b xs, H b = some (.tup xs) -> H' b = some (.tup xs) := λ b xs h => s b _ h
structure ThO (F : List Addr) (H : Hp) (l : Addr) (ps : List Th) : Prop where
  ex : ∃ xs, Out F H l (.lst xs) /\ Paired (kPair.R H) xs ps
def Scr (K : PySem.W.Frag) (F : List Addr) (H : Hp) (a : Addr) (xs : List V) : Prop := (∀ H', SqL K H' a xs) \/ ((∃ o, Out F H a o) /\ SqL K H a xs)
theorem Scr.sq {K : PySem.W.Frag} {F : List Addr} {H : Hp} {a : Addr} {xs : List V} (h : Scr K F H a xs) : SqL K H a xs := h.elim (λ h => h H) λ h => h.2
theorem Scr.of {K : PySem.W.Frag} {H : Hp} {a : Addr} {xs : List V} (h : SqL K H a xs) : Scr K [] H a xs := by
  rcases h with (h | ⟨o, h⟩) | h
  . exact .inr ⟨⟨_, by simp, h⟩, .inl (.inl h)⟩
  . exact .inr ⟨⟨_, by simp, h⟩, .inl (.inr ⟨o, h⟩)⟩
  . exact .inl λ _ => .inr h
theorem Scr.fr {K : PySem.W.Frag} {F F' : List Addr} {H H' : Hp} {a : Addr} {xs : List V} (h : Scr K F H a xs) (f : Fr F F' H H') : Scr K F' H' a xs := by
  rcases h with h | ⟨⟨o, ho⟩, h⟩
  . exact .inl h
  . refine .inr ⟨⟨o, f.out ho⟩, ?_⟩
    rcases h with (h | ⟨u, h⟩) | h
    . exact .inl (.inl (f.keep _ _ ho.1 h))
    . exact .inl (.inr ⟨u, f.keep _ _ ho.1 h⟩)
    . exact .inr h
theorem out_new {F : List Addr} {H : Hp} {b : Addr} {o : HO} (hF : ∀ c ∈ F, H c ≠ none) (h : H b = none) : Out F (upd H b o) b o := ⟨λ z => hF b z h, upd_same⟩
theorem perm_sorted {l r : List Th} (h : l.Perm r) {l' r' : List Th} (hl : l'.Perm l) (hr : r'.Perm r) (sl : l'.Pairwise (λ a b => pLt b a = false)) (sr : r'.Pairwise (λ a b => pLt b a = false)) : l' = r' :=
  sorted_unique (hl.trans (h.trans hr.symm)) sl sr
section
variable {K : PySem.W.Frag} {H : Hp} {Q : VK} {x y : V} {a b : Th}
theorem rd_ixP0 (h : kPair.R H x a) (q : Q (.int a.1) H) : rIxT K x (.int 0) H Q := by
  obtain ⟨t, rfl, e⟩ := kPair_at h
  exact rd_ixT (SqT.of e) rfl q
theorem rd_ixP1 (h : kPair.R H x a) (q : Q (.int a.2) H) : rIxT K x (.int 1) H Q := by
  obtain ⟨t, rfl, e⟩ := kPair_at h
  exact rd_ixT (SqT.of e) rfl q
theorem rd_lenP (h : kPair.R H x a) (q : Q (.int 2) H) : rLen K [x] H Q := by
  obtain ⟨t, rfl, e⟩ := kPair_at h
  exact rd_lenT (SqT.of e) q
theorem rd_ltP (h : kPair.R H x a) (g : kPair.R H y b) (q : Q (.bl (pLt a b)) H) : rLtT K x y H Q := by
  obtain ⟨t, rfl, e⟩ := kPair_at h
  obtain ⟨u, rfl, f⟩ := kPair_at g
  exact ⟨t, u, [a.1, a.2], [b.1, b.2], rfl, rfl, SqT.of e, SqT.of f, by rw [lexLt_pair]; exact q⟩
theorem rd_neP' (h : kPair.R H x a) (g : kPair.R H y b) (e : a = b) (q : Q (.bl false) H) : rNeD kPair x y H Q := ⟨a, b, h, g, by rw [decide_eq_true e]; exact q⟩
theorem rd_neL' {l r : Addr} {xs ys : List V} {ps qs : List Th} (hl : H l = some (.lst xs)) (hp : Paired (kPair.R H) xs ps) (hr : H r = some (.lst ys)) (hq : Paired (kPair.R H) ys qs) (e : ps = qs) (q : Q (.bl false) H) : rNeD (kLst kPair) (.ref l) (.ref r) H Q := ⟨ps, qs, ⟨l, xs, rfl, hl, hp⟩, ⟨r, ys, rfl, hr, hq⟩, by rw [decide_eq_true e]; exact q⟩
theorem ty_pair (h : kPair.R H x a) : TyE K H x (.type "tuple") := by
  obtain ⟨t, rfl, e⟩ := kPair_at h
  exact .ty (.tup e)
theorem rd_ixLP {l : Addr} {xs : List V} {ps : List Th} {i : Nat} (hl : SqL K H l xs) (hp : Paired (kPair.R H) xs ps) (hi : ps[i]? = some a) (q : ∀ x, kPair.R H x a -> Q x H) : rIxL K (.ref l) (.int (i : Nat)) H Q := by
  obtain ⟨x, hx, r⟩ := hp.get' hi
  exact rd_ixL hl (atI_nat hx) (q x r)
end
theorem perm_sum {l r : List Int} (h : l.Perm r) : l.sum = r.sum := by
  induction h with
  | nil => rfl
  | cons x _ ih => simp [ih]
  | swap x y l => simp; omega
  | trans _ _ h1 h2 => exact h1.trans h2
theorem cutV_ints (ns : List Int) (lo hi : Option Int) : ∃ ms : List Int, cutV (ns.map V.int) lo hi = ms.map V.int /\ ms.length <= ns.length := by
  unfold cutV
  refine ⟨(ns.drop (HT.sIx (ns.map V.int).length 0 lo)).take (HT.sIx (ns.map V.int).length (ns.map V.int).length hi - HT.sIx (ns.map V.int).length 0 lo), ?_, ?_⟩
  . rw [List.map_take, List.map_drop]
  . rw [List.length_take, List.length_drop]; omega
theorem map_get {ms : List Int} {i : Nat} {x : V} (h : (ms.map V.int)[i]? = some x) : ∃ c, x = .int c /\ ms[i]? = some c := by
  rw [List.getElem?_map] at h
  cases e : ms[i]? with
  | none => rw [e] at h; cases h
  | some c => rw [e] at h; cases h; exact ⟨c, rfl, rfl⟩
theorem idx_in (c : Int) {n : Nat} (h : 0 < n) : ∃ j : Nat, j < n /\ c % (n : Int) = (j : Nat) := by
  have h1 := Int.emod_nonneg c (show (n : Int) ≠ 0 by omega)
  have h2 := Int.emod_lt_of_pos c (show (0 : Int) < n by omega)
  exact ⟨(c % (n : Int)).toNat, by omega, by omega⟩
theorem seqIndex_nat {j n : Nat} (h : j < n) : seqIndex? (j : Int) n = some j := by
  have e : ixN n (j : Int) = some j := by
    unfold ixN
    simp only [Int.natCast_nonneg, if_true, Int.toNat_natCast]
    first | rw [if_pos h] | simp [h]
  exact (ixN_seq e).1
theorem popat_ok {l : Addr} {xs : List V} {j : Nat} {y : V} {H : Hp} {Q : VK} (h : H l = some (.lst xs)) (hz : xs.length <= sizeLine) (hj : xs[j]? = some y) (q : Q y (upd H l (.lst (xs.eraseIdx j)))) : rPopAt (.ref l) [.int (j : Nat)] H Q := by
  have h1 : j < xs.length := (List.getElem?_eq_some_iff.mp hj).1
  have h2 : sizeLine < 2 ^ 63 := by decide
  exact ⟨l, xs, _, j, y, rfl, rfl, h, by omega, by omega, seqIndex_nat h1, hj, q⟩
theorem Paired.erase {α β : Type} {F : α -> β -> Prop} : ∀ {xs : List α} {ds : List β} (j : Nat), Paired F xs ds -> Paired F (xs.eraseIdx j) (ds.eraseIdx j)
  | _, _, _, .nil => by simpa using .nil
  | _, _, 0, .cons _ t => by simpa using t
  | _, _, j + 1, .cons r t => by simpa using .cons r (Paired.erase j t)
theorem erase_perm {α : Type} : ∀ {xs : List α} {j : Nat} {y : α}, xs[j]? = some y -> xs.Perm (y :: xs.eraseIdx j)
  | [], _, _, h => by cases h
  | x :: xs, 0, y, h => by simp at h; subst h; simp
  | x :: xs, j + 1, y, h => by
    have := erase_perm (xs := xs) (j := j) (y := y) (by simpa using h)
    simp only [List.eraseIdx_cons_succ]
    exact (this.cons x).trans (.swap y x _)
theorem rd_eqN {D : Type} [DecidableEq D] {k : Kd D} {H : Hp} {Q : VK} {l e : Addr} {xs : List V} {ps : List D} (hl : H l = some (.lst xs)) (hp : Paired (k.R H) xs ps) (he : H e = some (.lst [])) (q1 : ps = [] -> Q (.bl true) H) (q2 : ps ≠ [] -> Q (.bl false) H) : rEqD (kLst k) (.ref l) (.ref e) H Q := by
  refine ⟨ps, [], ⟨l, xs, rfl, hl, hp⟩, ⟨e, [], rfl, he, .nil⟩, ?_⟩
  by_cases h : ps = []
  . rw [decide_eq_true h]; exact q1 h
  . rw [decide_eq_false h]; exact q2 h
theorem rd_neN {D : Type} [DecidableEq D] {k : Kd D} {H : Hp} {Q : VK} {l e : Addr} {xs : List V} {ps : List D} (hl : H l = some (.lst xs)) (hp : Paired (k.R H) xs ps) (he : H e = some (.lst [])) (q1 : ps = [] -> Q (.bl false) H) (q2 : ps ≠ [] -> Q (.bl true) H) : rNeD (kLst k) (.ref l) (.ref e) H Q := by
  refine ⟨ps, [], ⟨l, xs, rfl, hl, hp⟩, ⟨e, [], rfl, he, .nil⟩, ?_⟩
  by_cases h : ps = []
  . rw [decide_eq_true h]; exact q1 h
  . rw [decide_eq_false h]; exact q2 h
theorem Fr.cons {F F' : List Addr} {H H' : Hp} (f : Fr F F' H H') (k : Addr) : Fr (k :: F) (k :: F') H H' := by
  refine ⟨λ b o hb h => f.keep b o (λ z => hb (List.mem_cons_of_mem _ z)) h, f.tup, λ b hb => ?_⟩
  rcases List.mem_cons.mp hb with z | z
  . exact .inl (by rw [z]; exact List.mem_cons_self)
  . exact (f.grow b z).imp (λ z => List.mem_cons_of_mem _ z) id
theorem Fr.write {F : List Addr} {H : Hp} {b : Addr} {xs ys : List V} (hb : b ∈ F) (h : H b = some (.lst xs)) : Fr F F H (L2.upd H b (.lst ys)) :=
  ⟨λ c o hc q => by rw [upd_ne (λ e => hc (by rw [e]; exact hb))]; exact q, λ c zs q => by rw [upd_ne (ne_of q h (by simp))]; exact q, λ c hc => .inl hc⟩
theorem nodup_inj {α β : Type} {f : α -> β} : ∀ {l : List α}, (l.map f).Nodup -> ∀ {a b : α}, a ∈ l -> b ∈ l -> f a = f b -> a = b
  | [], _, _, _, ha, _, _ => by cases ha
  | x :: l, nd, a, b, ha, hb, e => by
    rw [List.map_cons, List.nodup_cons] at nd
    rcases List.mem_cons.mp ha with rfl | ha' <;> rcases List.mem_cons.mp hb with rfl | hb'
    . rfl
    . exact absurd (e ▸ List.mem_map_of_mem hb') nd.1
    . exact absurd (e ▸ List.mem_map_of_mem ha') nd.1
    . exact nodup_inj nd.2 ha' hb' e
theorem Out.cons {F : List Addr} {H : Hp} {b k : Addr} {o : HO} (h : Out F H b o) (ne : b ≠ k) : Out (k :: F) H b o := ⟨λ z => (List.mem_cons.mp z).elim ne h.1, h.2⟩
theorem first_index {α : Type} [DecidableEq α] : ∀ {l : List α} {a : α}, a ∈ l -> ∃ j : Nat, l[j]? = some a /\ ∀ i : Nat, i < j -> l[i]? ≠ some a
  | [], _, h => by cases h
  | x :: l, a, h => by
    by_cases e : x = a
    . exact ⟨0, by simp [e], λ i hi => by omega⟩
    . obtain ⟨j, h1, h2⟩ := first_index (l := l) (a := a) ((List.mem_cons.mp h).resolve_left (Ne.symm e))
      refine ⟨j + 1, by simpa using h1, λ i hi => ?_⟩
      cases i with
      | zero => simpa using e
      | succ i => simpa using h2 i (by omega)
theorem rd_compNone {K : PySem.W.Frag} {H : Hp} {Q : VK} {σ : St} {j : Nat} {kl : Addr} {xs : List V} {tc : TT} {te : TE} {src : List Nat} (hσ : σ[j]? = some (some (.ref kl))) (hl : H kl = some (.lst xs))
    (he : ∀ x rest H1 (B : Bool -> Hp -> Prop), x ∈ xs -> Same H H1 -> B false H1 -> tc (some x :: rest) H1 B) (q : ∀ D, H D = none -> Q (.ref D) (upd H D (.lst []))) : tComp (iList K (tVar j)) (gName 0) tc te src σ H Q := by
  refine ⟨_, hσ, kl, rfl, ⟨xs, SqL.of hl⟩, λ D hD => ?_⟩
  have sm : Same H (upd H D (.lst [])) := same_new hD _
  refine cmp_list (xs := xs) (λ i ys σ' H' => H' = upd H D (.lst []) /\ ys = [] /\ ∃ o, σ' = o :: src.map (λ i => (σ[i]?).join)) ⟨rfl, rfl, none, rfl⟩ ?_ ?_ ?_
  . rintro i ys σ' _ _ ⟨rfl, _, _⟩
    exact SqL.of (sm _ _ hl)
  . rintro i x ys _ _ hx ⟨rfl, rfl, o, rfl⟩
    exact he x _ _ _ (List.mem_of_getElem? hx) sm (iteF ⟨rfl, rfl, some x, rfl⟩)
  . rintro ys σ' _ ⟨rfl, rfl, _⟩
    exact q D hD
theorem Scr.new {K : PySem.W.Frag} {F : List Addr} {H : Hp} {a b : Addr} {xs : List V} {o : HO} (h : Scr K F H a xs) (hb : H b = none) : Scr K (b :: F) (upd H b o) a xs := by
  have s := same_new hb o
  rcases h with h | ⟨⟨u, hu⟩, h⟩
  . exact .inl h
  . exact .inr ⟨⟨u, (s.out hu).cons (ne_of_none hu.2 hb)⟩, s.seq h⟩
def bits (n : Nat) : Nat := if n = 0 then 0 else Nat.log2 n + 1
theorem nodup_len : ∀ {n : Nat} {l : List Int}, l.Nodup -> (∀ c ∈ l, 1 <= c /\ c <= (n : Int)) -> l.length <= n
  | 0, [], _, _ => Nat.le_refl _
  | 0, c :: _, _, h => by have := h c (by simp); omega
  | n + 1, l, nd, h => by
    by_cases hm : ((n + 1 : Nat) : Int) ∈ l
    . have pm := List.perm_cons_erase hm
      have nd' := List.nodup_cons.mp (pm.nodup_iff.mp nd)
      have := nodup_len (n := n) nd'.2 λ c hc => by
        have h1 := h c (List.mem_of_mem_erase hc)
        have h2 : c ≠ ((n + 1 : Nat) : Int) := λ e => by rw [e] at hc; exact nd'.1 hc
        omega
      have e := pm.length_eq
      rw [List.length_cons] at e
      omega
    . have := nodup_len (n := n) nd λ c hc => by
        have h1 := h c hc
        have h2 : c ≠ ((n + 1 : Nat) : Int) := λ e => hm (by rw [<- e]; exact hc)
        omega
      omega
end L2
namespace L2
open PySem PySem.Spec PyProof.Rows
section
variable {X : Cx} (K : PySem.W.Frag)
theorem ps_fldaugK {o value : Expr} {f : Str} {pos tpos : Pos} {ta tv : TE} {op : Operator} {rd : V -> V -> Hp -> VK -> Prop} (ha : PE X o ta) (hv : PE X value tv) (hop : InOp X op rd) (eK : X.K = K := by rfl) : PS X (.AugAssign (.Attribute o f tpos) op value pos) (sFldAug K ta tv rd f) := by
  subst eK; exact ps_fldaug ha hv hop
end
theorem rd_fldaug {K : PySem.W.Frag} {ta tv : TE} {rd : V -> V -> Hp -> VK -> Prop} {f : Str} {D : Ends} {σ : St} {H : Hp} (h : ta σ H λ x H1 => ∃ a C dx fs v, x = .ref a /\ H1 a = some (.ins C dx fs) /\ Cls K C /\ NoAttr K C f /\ fs.lookup f = some v /\
  tv σ H1 λ y H2 => rd v y H2 λ z H3 => ∃ dx' fs', H3 a = some (.ins C dx' fs') /\ fs'.length < 1000 /\ D.nx σ (upd H3 a (.ins C dx' (putF f z fs')))) : sFldAug K ta tv rd f D σ H := h
theorem rd_add {i j : Int} {H : Hp} {Q : VK} (q : Q (.int (i + j)) H) : rAdd (.int i) (.int j) H Q := ⟨i, j, rfl, rfl, q⟩
theorem rd_subI {i j : Int} {H : Hp} {Q : VK} (q : Q (.int (i - j)) H) : rSub (.int i) (.int j) H Q := ⟨i, j, rfl, rfl, q⟩
theorem rd_while {c : TT} {tb : TS} {D : Ends} {σ : St} {H : Hp} (W : Nat -> St -> Hp -> Prop) (m : Nat) (h0 : W m σ H) (hs : ∀ m σ H, W m σ H -> c σ H λ b H1 => if b = true then ∃ N : St -> Hp -> Prop, (∀ σ' H', N σ' H' -> ∃ m', m' < m /\ W m' σ' H') /\ tb { D with nx := N, ct := N, bk := D.nx } σ H1 else D.nx σ H1) : tWhile c tb D σ H :=
  ⟨W, ⟨m, h0⟩, hs⟩
section
variable {κ : Type} [DecidableEq κ]
theorem keys_putK {kvs : List (κ × V)} {k : κ} {v : V} : ∀ q ∈ (putK kvs k v).map (·.1), q = k \/ q ∈ kvs.map (·.1) := by
  intro q hq
  unfold putK at hq
  split at hq
  . rw [List.map_map] at hq
    obtain ⟨x, hx, e⟩ := List.mem_map.mp hq
    refine .inr (List.mem_map.mpr ⟨x, hx, ?_⟩)
    rw [<- e]
    simp only [Function.comp]
    split <;> rfl
  . rw [List.map_append] at hq
    rcases List.mem_append.mp hq with z | z
    . exact .inr z
    . exact .inl (by simpa using z)
theorem nd_putK' {kvs : List (κ × V)} {k : κ} (v : V) (hn : (kvs.map (·.1)).Nodup) : ((putK kvs k v).map (·.1)).Nodup := by
  cases e : valV kvs k with
  | none => exact nd_putK v hn e
  | some u =>
    unfold putK
    rw [valV_any, e]
    rw [if_pos (by rfl), List.map_map]
    have : ((λ x : κ × V => x.1) ∘ λ kv : κ × V => if kv.1 = k then (kv.1, v) else kv) = (·.1) := by
      funext x; simp only [Function.comp]; split <;> rfl
    rw [this]; exact hn
theorem valV_drop (kvs : List (κ × V)) (k j : κ) : valV (dropK kvs k) j = if j = k then none else valV kvs j := by
  induction kvs with
  | nil => split <;> rfl
  | cons p r ih =>
    by_cases e : p.1 = k
    . rw [dropK_pos e, ih]
      by_cases ej : j = k
      . rw [if_pos ej, if_pos ej]
      . rw [if_neg ej, if_neg ej, valV_neg (λ z => ej (by rw [<- z, e]))]
    . rw [dropK_neg e]
      by_cases ep : p.1 = j
      . rw [valV_pos ep, valV_pos ep, if_neg (λ z => e (by rw [ep, z]))]
      . rw [valV_neg ep, valV_neg ep, ih]
theorem keys_dropK {kvs : List (κ × V)} {k : κ} : ∀ q ∈ (dropK kvs k).map (·.1), q ≠ k /\ q ∈ kvs.map (·.1) := by
  intro q hq
  obtain ⟨x, hx, e⟩ := List.mem_map.mp hq
  refine ⟨?_, List.mem_map.mpr ⟨x, dropK_mem hx, e⟩⟩
  have := (List.mem_filter.mp hx).2
  simp at this
  rw [<- e]; exact this
end
theorem nodup_sub {α : Type} [DecidableEq α] : ∀ {l r : List α}, l.Nodup -> (∀ a ∈ l, a ∈ r) -> l.length <= r.length
  | [], _, _, _ => Nat.zero_le _
  | a :: l, r, nd, h => by
    obtain ⟨h1, h2⟩ := List.nodup_cons.mp nd
    have pm := List.perm_cons_erase (h a (by simp))
    have := nodup_sub (r := r.erase a) h2 λ b hb => by
      have hb' : b ∈ a :: r.erase a := pm.mem_iff.mp (h b (List.mem_cons_of_mem _ hb))
      rcases List.mem_cons.mp hb' with z | z
      . subst z; exact absurd hb h1
      . exact z
    have e := pm.length_eq
    rw [List.length_cons] at e ⊢
    omega
theorem eraseIdx_set_same {α : Type} : ∀ (xs : List α) (i : Nat) (b : α), (xs.set i b).eraseIdx i = xs.eraseIdx i
  | [], _, _ => rfl
  | _ :: _, 0, _ => rfl
  | x :: xs, i + 1, b => by simp [eraseIdx_set_same xs i b]
theorem set_perm {α : Type} {xs : List α} {i : Nat} {b : α} (h : i < xs.length) : (xs.set i b).Perm (b :: xs.eraseIdx i) := by
  have := erase_perm (xs := xs.set i b) (j := i) (y := b) (by rw [List.getElem?_set_self h])
  rw [eraseIdx_set_same] at this
  exact this
theorem swap_perm {α : Type} {xs : List α} {i j : Nat} {a b : α} (hi : xs[i]? = some a) (hj : xs[j]? = some b) (hn : i ≠ j) : (Hm.swap xs i j a b).Perm xs := by
  have h1 : i < xs.length := (List.getElem?_eq_some_iff.mp hi).1
  have h2 : j < xs.length := (List.getElem?_eq_some_iff.mp hj).1
  unfold Hm.swap
  have p1 : ((xs.set i b).set j a).Perm (a :: (xs.set i b).eraseIdx j) := set_perm (by simpa using h2)
  have p2 : (xs.set i b).Perm (b :: (xs.set i b).eraseIdx j) := erase_perm (by rw [List.getElem?_set_ne hn]; exact hj)
  have p3 : (xs.set i b).Perm (b :: xs.eraseIdx i) := set_perm h1
  have p4 : ((xs.set i b).eraseIdx j).Perm (xs.eraseIdx i) := (p2.symm.trans p3).cons_inv
  exact p1.trans ((p4.cons a).trans (erase_perm hi).symm)
theorem set_same {α : Type} : ∀ {xs : List α} {i : Nat} {a : α}, xs[i]? = some a -> xs.set i a = xs
  | [], _, _, h => by cases h
  | x :: xs, 0, a, h => by simp at h; subst h; rfl
  | x :: xs, i + 1, a, h => by rw [List.set_cons_succ, set_same (by simpa using h)]
theorem Paired.set {α β : Type} {F : α -> β -> Prop} : ∀ {xs : List α} {ds : List β} (j : Nat) {x : α} {d : β}, Paired F xs ds -> F x d -> Paired F (xs.set j x) (ds.set j d)
  | _, _, _, _, _, .nil, _ => by simpa using .nil
  | _, _, 0, _, _, .cons _ t, h => .cons h t
  | _, _, j + 1, _, _, .cons r t, h => .cons r (Paired.set j t h)
theorem Paired.dropLast {α β : Type} {F : α -> β -> Prop} : ∀ {xs : List α} {ds : List β}, Paired F xs ds -> Paired F xs.dropLast ds.dropLast
  | _, _, .nil => .nil
  | _, _, .cons _ .nil => .nil
  | _, _, .cons r (.cons s t) => .cons r (Paired.dropLast (.cons s t))
structure SpotsAt (kvs : List (Key × V)) (vs : List Th) (k : Nat) : Prop where
  nd : (kvs.map (·.1)).Nodup
  sub : ∀ q ∈ kvs.map (·.1), ∃ t ∈ vs, q = .inl t.2
  val : ∀ i t, i ≠ k -> vs[i]? = some t -> valV kvs (.inl t.2) = some (.int (i : Nat))
structure SpotsOk (kvs : List (Key × V)) (vs : List Th) : Prop where
  nd : (kvs.map (·.1)).Nodup
  sub : ∀ q ∈ kvs.map (·.1), ∃ t ∈ vs, q = .inl t.2
  val : ∀ i t, vs[i]? = some t -> valV kvs (.inl t.2) = some (.int (i : Nat))
theorem spots_len {kvs : List (Key × V)} {vs : List Th} (nd : (kvs.map (·.1)).Nodup) (sub : ∀ q ∈ kvs.map (·.1), ∃ t ∈ vs, q = .inl t.2) : kvs.length <= vs.length := by
  have := nodup_sub (r := vs.map λ t => (Sum.inl t.2 : Key)) nd λ q hq => by
    obtain ⟨t, ht, e⟩ := sub q hq
    rw [e]
    exact List.mem_map.mpr ⟨t, ht, rfl⟩
  simpa using this
theorem SpotsAt.len {kvs : List (Key × V)} {vs : List Th} {k : Nat} (S : SpotsAt kvs vs k) : kvs.length <= vs.length := spots_len S.nd S.sub
theorem SpotsOk.hasNot {kvs : List (Key × V)} {vs : List Th} (S : SpotsOk kvs vs) {c : Int} (h : ∀ t ∈ vs, t.2 ≠ c) : valV kvs (.inl c) = none := by
  cases e : valV kvs (.inl c) with
  | none => rfl
  | some v =>
    obtain ⟨t, ht, q⟩ := S.sub _ (valV_in e)
    cases q
    exact absurd rfl (h t ht)
theorem SpotsOk.has {kvs : List (Key × V)} {vs : List Th} (S : SpotsOk kvs vs) {t : Th} (h : t ∈ vs) : ∃ i : Nat, vs[i]? = some t /\ valV kvs (.inl t.2) = some (.int (i : Nat)) := by
  obtain ⟨i, hi⟩ := List.getElem?_of_mem h
  exact ⟨i, hi, S.val i t hi⟩
theorem nod_ne {vs : List Th} (nd : (vs.map (·.2)).Nodup) {i j : Nat} {a b : Th} (hi : vs[i]? = some a) (hj : vs[j]? = some b) (hn : i ≠ j) : a.2 ≠ b.2 := by
  intro e
  have h1 : (vs.map (·.2))[i]? = some a.2 := by rw [List.getElem?_map, hi]; rfl
  have h2 : (vs.map (·.2))[j]? = some b.2 := by rw [List.getElem?_map, hj]; rfl
  have l1 : i < (vs.map (·.2)).length := (List.getElem?_eq_some_iff.mp h1).1
  exact hn ((List.getElem?_inj l1 nd).mp (by rw [h1, h2, e]))
theorem SpotsAt.lay {kvs : List (Key × V)} {vs : List Th} {k : Nat} {t : Th} (S : SpotsAt kvs vs k) (nd : (vs.map (·.2)).Nodup) (h : vs[k]? = some t) : SpotsOk (putK kvs (.inl t.2) (.int (k : Nat))) vs := by
  refine ⟨nd_putK' _ S.nd, λ q hq => ?_, λ i u hi => ?_⟩
  . rcases keys_putK q hq with z | z
    . exact ⟨t, List.mem_of_getElem? h, z⟩
    . exact S.sub q z
  . rw [valV_put]
    by_cases e : i = k
    . subst e
      rw [h] at hi; cases hi
      rw [if_pos rfl]
    . rw [if_neg (λ z => nod_ne nd hi h e (Sum.inl.inj z))]
      exact S.val i u e hi
theorem SpotsAt.move {kvs : List (Key × V)} {vs : List Th} {k j : Nat} {a b : Th} (S : SpotsAt kvs vs k) (nd : (vs.map (·.2)).Nodup) (hk : vs[k]? = some a) (hj : vs[j]? = some b) (hn : k ≠ j) : SpotsAt (putK kvs (.inl b.2) (.int (k : Nat))) (Hm.swap vs k j a b) j := by
  have g := Hm.swap_get hk hj
  refine ⟨nd_putK' _ S.nd, λ q hq => ?_, λ i u hi hu => ?_⟩
  . have hm : ∀ t, t ∈ Hm.swap vs k j a b ↔ t ∈ vs := λ t => (swap_perm hk hj hn).mem_iff
    rcases keys_putK q hq with z | z
    . exact ⟨b, (hm b).mpr (List.mem_of_getElem? hj), z⟩
    . obtain ⟨t, ht, e⟩ := S.sub q z
      exact ⟨t, (hm t).mpr ht, e⟩
  . rw [g, if_neg hi] at hu
    rw [valV_put]
    by_cases e : i = k
    . subst e
      rw [if_pos rfl] at hu; cases hu
      rw [if_pos rfl]
    . rw [if_neg e] at hu
      rw [if_neg (λ z => nod_ne nd hu hj hi (Sum.inl.inj z))]
      exact S.val i u e hu
theorem SpotsOk.push {kvs : List (Key × V)} {vs : List Th} (S : SpotsOk kvs vs) (t : Th) : SpotsAt kvs (vs ++ [t]) vs.length := by
  refine ⟨S.nd, λ q hq => ?_, λ i u hi hu => ?_⟩
  . obtain ⟨u, hu, e⟩ := S.sub q hq
    exact ⟨u, List.mem_append_left _ hu, e⟩
  . have : i < (vs ++ [t]).length := (List.getElem?_eq_some_iff.mp hu).1
    simp at this
    rw [List.getElem?_append_left (by omega)] at hu
    exact S.val i u hu
theorem SpotsOk.take {kvs : List (Key × V)} {vs : List Th} (S : SpotsOk kvs vs) (nd : (vs.map (·.2)).Nodup) {k : Nat} {t u : Th} (hk : vs[k]? = some t) (hu : vs[vs.length - 1]? = some u) (hl : k < vs.length - 1) : SpotsAt (dropK kvs (.inl t.2)) (vs.dropLast.set k u) k := by
  have gd : ∀ i, i < vs.length - 1 -> vs.dropLast[i]? = vs[i]? := λ i hi => by
    rw [List.getElem?_dropLast, if_pos hi]
  have ld : vs.dropLast.length = vs.length - 1 := List.length_dropLast
  refine ⟨nd_dropK S.nd, λ q hq => ?_, λ i w hi hw => ?_⟩
  . obtain ⟨hne, hin⟩ := keys_dropK q hq
    obtain ⟨w, hw, e⟩ := S.sub q hin
    obtain ⟨i, hi⟩ := List.getElem?_of_mem hw
    have hli : i < vs.length := (List.getElem?_eq_some_iff.mp hi).1
    by_cases e1 : i = k
    . subst e1
      rw [hk] at hi; cases hi
      exact absurd e hne
    . by_cases e2 : i = vs.length - 1
      . rw [e2, hu] at hi; cases hi
        exact ⟨u, List.mem_of_getElem? (i := k) (by rw [List.getElem?_set_self (by omega)]), e⟩
      . exact ⟨w, List.mem_of_getElem? (i := i) (by rw [List.getElem?_set_ne (Ne.symm e1), gd i (by omega)]; exact hi), e⟩
  . rw [List.getElem?_set_ne (Ne.symm hi)] at hw
    have hli : i < vs.dropLast.length := (List.getElem?_eq_some_iff.mp hw).1
    rw [gd i (by omega)] at hw
    rw [valV_drop, if_neg (λ z => nod_ne nd hw hk hi (Sum.inl.inj z))]
    exact S.val i w hw
theorem SpotsOk.takeLast {kvs : List (Key × V)} {vs : List Th} (S : SpotsOk kvs vs) (nd : (vs.map (·.2)).Nodup) {t : Th} (hk : vs[vs.length - 1]? = some t) : SpotsOk (dropK kvs (.inl t.2)) vs.dropLast := by
  have gd : ∀ i, i < vs.length - 1 -> vs.dropLast[i]? = vs[i]? := λ i hi => by
    rw [List.getElem?_dropLast, if_pos hi]
  have ld : vs.dropLast.length = vs.length - 1 := List.length_dropLast
  refine ⟨nd_dropK S.nd, λ q hq => ?_, λ i w hw => ?_⟩
  . obtain ⟨hne, hin⟩ := keys_dropK q hq
    obtain ⟨w, hw, e⟩ := S.sub q hin
    obtain ⟨i, hi⟩ := List.getElem?_of_mem hw
    have hli : i < vs.length := (List.getElem?_eq_some_iff.mp hi).1
    by_cases e2 : i = vs.length - 1
    . rw [e2, hk] at hi; cases hi
      exact absurd e hne
    . exact ⟨w, List.mem_of_getElem? (i := i) (by rw [gd i (by omega)]; exact hi), e⟩
  . have hli : i < vs.dropLast.length := (List.getElem?_eq_some_iff.mp hw).1
    rw [gd i (by omega)] at hw
    rw [valV_drop, if_neg (λ z => nod_ne nd hw hk (by omega) (Sum.inl.inj z))]
    exact S.val i w hw
theorem nod_perm {vs us : List Th} (p : vs.Perm us) (h : (us.map (·.2)).Nodup) : (vs.map (·.2)).Nodup := (p.map (·.2)).nodup_iff.mpr h
theorem sum_perm {vs us : List Th} (p : vs.Perm us) : (vs.map (·.1)).sum = (us.map (·.1)).sum := perm_sum (p.map (·.1))
theorem take_perm {vs : List Th} {k : Nat} {t u : Th} (hk : vs[k]? = some t) (hu : vs[vs.length - 1]? = some u) (hl : k < vs.length - 1) : vs.Perm (t :: vs.dropLast.set k u) := by
  have e : vs = vs.dropLast ++ [u] := by
    have hne : vs ≠ [] := by rintro rfl; cases hk
    have := (List.dropLast_concat_getLast hne).symm
    rw [List.getLast_eq_getElem] at this
    rw [List.getElem?_eq_getElem (by omega)] at hu
    cases hu
    exact this
  have hk' : vs.dropLast[k]? = some t := by rw [List.getElem?_dropLast, if_pos hl]; exact hk
  have p1 : (vs.dropLast.set k u).Perm (u :: vs.dropLast.eraseIdx k) := set_perm (by rw [List.length_dropLast]; exact hl)
  have p2 : vs.dropLast.Perm (t :: vs.dropLast.eraseIdx k) := erase_perm hk'
  have p3 : vs.Perm (u :: vs.dropLast) := by
    have : (vs.dropLast ++ [u]).Perm (u :: vs.dropLast) := List.perm_append_singleton _ _
    rw [<- e] at this; exact this
  refine p3.trans ((p2.cons u).trans ((List.Perm.swap t u _).trans (p1.symm.cons t)))
theorem last_perm {vs : List Th} {t : Th} (hk : vs[vs.length - 1]? = some t) : vs.Perm (t :: vs.dropLast) := by
  have hne : vs ≠ [] := by rintro rfl; cases hk
  have hl : vs.length ≠ 0 := by simpa using hne
  have e := (List.dropLast_concat_getLast hne).symm
  rw [List.getLast_eq_getElem] at e
  rw [List.getElem?_eq_getElem (by omega)] at hk
  cases hk
  have : (vs.dropLast ++ [vs[vs.length - 1]]).Perm (vs[vs.length - 1] :: vs.dropLast) := List.perm_append_singleton _ _
  rw [<- e] at this; exact this
theorem chg_put {ts ts' : List Th} {t : Th} (h : ∀ i a b, (ts ++ [t])[i]? = some a -> ts'[i]? = some b -> a ≠ b -> i ∈ Hm.path ts.length) : Hm.chg ts ts' <= bits ts.length := by
  by_cases e : ts.length = 0
  . rw [List.eq_nil_of_length_eq_zero e]; simp [Hm.chg]
  . unfold bits
    rw [if_neg e]
    refine Hm.chg_path (e := (ts.length - 1) / 2) (by omega) λ i a b ha hb hn => ?_
    have hi : i < ts.length := (List.getElem?_eq_some_iff.mp ha).1
    have := h i a b (by rw [List.getElem?_append_left hi]; exact ha) hb hn
    rw [Hm.path_pos (by omega)] at this
    rcases List.mem_cons.mp this with z | z
    . omega
    . exact z
theorem chg_takeP {ts ts' : List Th} {e : Nat} (he : e < ts.length) (h : ∀ i a b, ts[i]? = some a -> ts'[i]? = some b -> a ≠ b -> i ∈ Hm.path e) : Hm.chg ts ts' <= bits ts.length := by
  unfold bits
  rw [if_neg (by omega)]
  exact Hm.chg_path he h
end L2
namespace Mp
def placeF (m p w : Int) : Int := if m = 0 then 0 else if 1 < (m * p + w - 1) / w then (m * p + w - 1) / w else 1
theorem quot (x y : Int) : x = y * (x / y) + x % y := by
  rw [Int.emod_def]
  omega
theorem lt_of_mul {w a b : Int} (hw : 0 < w) (h : a * w < b * w) : a < b := Int.lt_of_mul_lt_mul_right h (Int.le_of_lt hw)
theorem up (x w : Int) (hw : 0 < w) : x <= ((x + w - 1) / w) * w /\ ((x + w - 1) / w - 1) * w < x := by
  have e := quot (x + w - 1) w
  have r0 := Int.emod_nonneg (x + w - 1) (show w ≠ 0 by omega)
  have r1 := Int.emod_lt_of_pos (x + w - 1) hw
  have c : w * ((x + w - 1) / w) = ((x + w - 1) / w) * w := Int.mul_comm _ _
  have s : ((x + w - 1) / w - 1) * w = ((x + w - 1) / w) * w - w := by rw [Int.sub_mul, Int.one_mul]
  omega
structure PlaceIs (m p w k : Int) : Prop where
  none : m = 0 -> k = 0
  lo : m ≠ 0 -> 1 <= k
  hi : k <= m
  enough : m ≠ 0 -> m * p <= k * w
  least : m ≠ 0 -> k = 1 \/ (k - 1) * w < m * p
theorem placeF_is {m p w : Int} (hm : 0 <= m) (hw : 1 <= w) (hp : 0 <= p) (hpw : p <= w) : PlaceIs m p w (placeF m p w) := by
  have u := up (m * p) w (by omega)
  have mp : m * p <= m * w := Int.mul_le_mul_of_nonneg_left hpw hm
  have mp0 : 0 <= m * p := Int.mul_nonneg hm hp
  unfold placeF
  generalize (m * p + w - 1) / w = q at u
  by_cases h0 : m = 0
  . rw [if_pos h0]
    exact ⟨λ _ => rfl, λ h => absurd h0 h, by omega, λ h => absurd h0 h, λ h => absurd h0 h⟩
  . rw [if_neg h0]
    have le : q - 1 < m := lt_of_mul (w := w) (by omega) (by omega)
    by_cases h1 : 1 < q
    . rw [if_pos h1]
      exact ⟨λ h => absurd h h0, λ _ => by omega, by omega, λ _ => u.1, λ _ => Or.inr u.2⟩
    . rw [if_neg h1]
      have : q * w <= 1 * w := Int.mul_le_mul_of_nonneg_right (by omega) (by omega)
      exact ⟨λ h => absurd h h0, λ _ => by omega, by omega, λ _ => by omega, λ _ => Or.inl rfl⟩
theorem placeF_next {m p w : Int} (hm : 0 <= m) (hw : 1 <= w) (hp : 0 <= p) (hpw : p <= w) : placeF m p w <= placeF (m + 1) p w /\ placeF (m + 1) p w <= placeF m p w + 1 := by
  have a := placeF_is hm hw hp hpw
  have b := placeF_is (m := m + 1) (by omega) hw hp hpw
  generalize placeF m p w = k at a
  generalize placeF (m + 1) p w = l at b
  have n : (m + 1) * p = m * p + p := by rw [Int.add_mul, Int.one_mul]
  have b1 := b.lo (by omega)
  have b2 := b.hi
  have b3 := b.enough (by omega)
  have b4 := b.least (by omega)
  by_cases h0 : m = 0
  . have := a.none h0; omega
  . have a1 := a.lo h0
    have a3 := a.enough h0
    have a4 := a.least h0
    constructor
    . rcases a4 with a4 | a4
      . omega
      . have : k - 1 < l := lt_of_mul (w := w) (by omega) (by omega)
        omega
    . rcases b4 with b4 | b4
      . omega
      . have e : (k + 1) * w = k * w + w := by rw [Int.add_mul, Int.one_mul]
        have : l - 1 < k + 1 := lt_of_mul (w := w) (by omega) (by omega)
        omega
end Mp
namespace L2
open PySem PySem.Spec PyProof.Rows
def rminD : List V -> Hp -> VK -> Prop := λ vs H Q => ∃ (d : Addr) (kvs : List (Key × V)), vs = [.ref d] /\ H d = some (.dK kvs) /\ kvs ≠ [] /\ (∀ q ∈ kvs.map (·.1), ∃ c : Int, q = .inl c) /\
  ∀ c : Int, (.inl c : Key) ∈ kvs.map (·.1) -> (∀ c' : Int, (.inl c' : Key) ∈ kvs.map (·.1) -> c <= c') -> Q (.int c) H
theorem pLt_fst (a b : Int) : pLt (a, 0) (b, 0) = decide (a < b) := by
  by_cases h : a < b
  . rw [decide_eq_true h, pLt_iff]; exact .inl h
  . rw [decide_eq_false h, pLt_no]; simp; omega
theorem call_minD {X : Cx} (hc : X.calm = true) : CallR X (.builtin "min") rminD := by
  intro pins s σ H xs us Q I r h
  obtain ⟨d, kvs, rfl, hd, hne, hint, q⟩ := h
  obtain ⟨u, rfl, ru⟩ := vals1 r
  cases ru
  obtain ⟨hz, hsm, vs, rel, dd⟩ := dk_of I.hok hd
  obtain ⟨o, es, ep, ho, hx, hdat, hk, hpp, hnd⟩ := dd
  have hat : s.heap.DictAt (mixKind X.prog X.w) d vs ep := ⟨o, es, ho, hx, hdat, hk, hpp, hnd⟩
  have hl := rel.length
  have hps : 0 < vs.length := by
    rw [<- hl]
    cases kvs with
    | nil => exact absurd rfl hne
    | cons _ _ => simp
  have ks : ∃ cs : List Int, kvs.map (·.1) = cs.map (λ c => (.inl c : Key)) := by
    clear q rel hne hd hz hl
    induction kvs with
    | nil => exact ⟨[], rfl⟩
    | cons p r ih =>
      obtain ⟨cs, e⟩ := ih λ q hq => hint q (by rw [List.map_cons]; exact List.mem_cons_of_mem _ hq)
      obtain ⟨c, ec⟩ := hint p.1 (by rw [List.map_cons]; exact List.mem_cons_self)
      exact ⟨c :: cs, by rw [List.map_cons, List.map_cons, e, ec]⟩
  obtain ⟨cs, ecs⟩ := ks
  have evs : vs.map (·.1) = kvs.map (·.1) := by
    clear q hne hd hz hl hint ecs hat hpp hnd hps
    unfold KV at rel
    induction rel with
    | nil => rfl
    | cons p _ ih => rw [List.map_cons, List.map_cons, ih, p.1]
  have lcs : cs.length = vs.length := by
    have := congrArg List.length ecs
    simpa [hl] using this.symm
  have good : ∀ (j : Nat) v, (∃ k x, vs[j]? = some (k, x) /\ (mixKind X.prog X.w).is k v = true) -> ∃ (c : Int) (t : Tok), v = Value.int c t /\ cs[j]? = some c := λ j v ⟨k, x, e, hi⟩ => by
    have e1 : (vs.map (·.1))[j]? = some k := by rw [List.getElem?_map, e]; rfl
    rw [evs, ecs, List.getElem?_map] at e1
    cases ec : cs[j]? with
    | none => rw [ec] at e1; cases e1
    | some c =>
      rw [ec] at e1
      have e2 : (Sum.inl c : Key) = k := Option.some.inj e1
      subst e2
      rcases keyIs_shape ((mixKind_is X.prog X.w _ v).symm.trans hi) with ⟨i, t, z, zz⟩ | ⟨_, _, z, _⟩
      . cases z; exact ⟨c, t, zz, rfl⟩
      . cases z
  refine call_min_in (wpAny_pyIter_dict hsm hat ?_)
  have keepP : ∀ b o, s.heap.get? b = some o -> (s.heap.push { cls := .type "dict_keyiterator", data := .fields #[.ref d, .int 0 0, .int vs.length 0, .int ep 0] }).get? b = some o := λ b o e => Heap.get?_push_of_some _ e
  have hdI : d ≠ s.heap.objs.size := Nat.ne_of_lt (Heap.lt_size ho)
  refine ⟨s.heap.objs.size, [s.heap.objs.size, d], [s.heap.objs.size], vs.length, _, _, λ i j => pLt (cs.getD i 0, 0) (cs.getD j 0, 0), rfl, Walks.dictKeys (A := X.A.in1) (I.ok.hd hc) _ d hdI vs ep, ⟨⟨_, Heap.get?_push_size _ rfl, rfl, rfl⟩, hat.at' λ o e => keepP _ _ e⟩, λ b hb => ?_, hps, ?_, ?_⟩
  . show b < (s.heap.push _).objs.size
    rw [Heap.size_push]
    rcases List.mem_cons.mp hb with z | hb
    . rw [z]; exact Nat.lt_succ_self _
    . have z : b = d := by simpa using hb
      rw [z]; exact Nat.lt_succ_of_lt (Heap.lt_size ho)
  . intro i j vi vj s' Q' E' kp hi hj hq
    obtain ⟨a, ta, rfl, ea⟩ := good i vi hi
    obtain ⟨b, tb, rfl, eb⟩ := good j vj hj
    have e : pLt (cs.getD i 0, 0) (cs.getD j 0, 0) = decide (a < b) := by rw [List.getD_eq_getElem?_getD, List.getD_eq_getElem?_getD, ea, eb, Option.getD_some, Option.getD_some, pLt_fst]
    exact lt_int (by rw [<- e]; exact hq)
  . intro v h' tk hv kp
    obtain ⟨c, t, rfl, ec⟩ := good _ v hv
    have I2 : Inv X pins σ H { s with heap := h', toks := tk } := I.kept λ b o e => kp b o (λ z => by
        have z : b = s.heap.objs.size := by simpa using z
        exact Nat.ne_of_lt (Heap.lt_size e) z) (λ z => by
        have := Heap.lt_size (keepP b o e)
        exact Nat.ne_of_lt this z) (keepP b o e)
    refine ⟨.int c, H, I2, ⟨t, rfl⟩, q c (by rw [ecs]; exact List.mem_map.mpr ⟨c, List.mem_of_getElem? ec, rfl⟩) λ c' hc' => ?_⟩
    rw [ecs] at hc'
    obtain ⟨c2, hm, e2⟩ := List.mem_map.mp hc'
    cases e2
    obtain ⟨j, hj⟩ := List.getElem?_of_mem hm
    have hjl : j < cs.length := (List.getElem?_eq_some_iff.mp hj).1
    have best := best_of (bt := pLt) pLt_irr (λ _ _ _ h g => pLt_ntr h g) pLt_asym (λ i => (cs.getD i 0, 0)) (vs.length - 1) j (by omega)
    have eb : pLt (cs.getD j 0, 0) (cs.getD (argBest (λ i j => pLt (cs.getD i 0, 0) (cs.getD j 0, 0)) (vs.length - 1)) 0, 0) = decide (c' < c) := by
      rw [List.getD_eq_getElem?_getD, List.getD_eq_getElem?_getD (l := cs) (i := argBest _ _), ec, hj, Option.getD_some, Option.getD_some, pLt_fst]
    have := eb.symm.trans best
    simp at this
    omega
end L2
namespace L2
open PySem Hm
def Share (p w : Int) : Prop := 1 <= w /\ 0 <= p /\ p <= w
structure RSt where
  part : Int
  whole : Int
  came : Nat
  lo : List Th
  hi : List Th
abbrev RSt.all (s : RSt) : List Th := s.lo ++ s.hi
structure ROk0 (s : RSt) : Prop where
  sh : Share s.part s.whole
  rng : ∀ u ∈ s.all, 1 <= u.2 /\ u.2 <= (s.came : Nat)
  nod : (s.all.map (·.2)).Nodup
  flo : Form (ahP true) s.lo
  fhi : Form (ahP false) s.hi
  ord : ∀ a ∈ s.lo, ∀ b ∈ s.hi, pLt a b = true
  wb : s.whole < 2 ^ 250
structure ROk (s : RSt) : Prop extends ROk0 s where
  cnt : (s.lo.length : Int) = Mp.placeF (s.all.length : Nat) s.part s.whole
structure NumOk (kvs : List (Key × V)) (ts : List Th) : Prop where
  nd : (kvs.map (·.1)).Nodup
  sub : ∀ q ∈ kvs.map (·.1), ∃ t ∈ ts, q = .inl t.2
  val : ∀ t ∈ ts, valV kvs (.inl t.2) = some (.int t.1)
theorem NumOk.perm {kvs : List (Key × V)} {ts us : List Th} (N : NumOk kvs ts) (p : us.Perm ts) : NumOk kvs us :=
  ⟨N.nd, λ q hq => by obtain ⟨t, ht, e⟩ := N.sub q hq; exact ⟨t, p.mem_iff.mpr ht, e⟩, λ t ht => N.val t (p.mem_iff.mp ht)⟩
theorem NumOk.len {kvs : List (Key × V)} {ts : List Th} (N : NumOk kvs ts) (nd : (ts.map (·.2)).Nodup) : kvs.length = ts.length := by
  have h1 : kvs.length <= ts.length := spots_len N.nd N.sub
  have h2 := nodup_sub (l := ts.map (·.2)) (r := kvs.map λ kv => match kv.1 with | .inl c => c | .inr _ => 0) nd λ c hc => by
    obtain ⟨t, ht, rfl⟩ := List.mem_map.mp hc
    obtain ⟨x, hx, e⟩ := List.mem_map.mp (valV_in (N.val t ht))
    exact List.mem_map.mpr ⟨x, hx, by simp only [e]⟩
  simp only [List.length_map] at h2
  omega
theorem NumOk.none {kvs : List (Key × V)} {ts : List Th} (N : NumOk kvs ts) {c : Int} (h : ∀ t ∈ ts, t.2 ≠ c) : valV kvs (.inl c) = Option.none := by
  cases e : valV kvs (.inl c) with
  | none => rfl
  | some v =>
    obtain ⟨t, ht, q⟩ := N.sub _ (valV_in e)
    exact absurd (Sum.inl.inj q).symm (h t ht)
theorem NumOk.put {kvs : List (Key × V)} {ts : List Th} (N : NumOk kvs ts) {n c : Int} (h : ∀ t ∈ ts, t.2 ≠ c) : NumOk (putK kvs (.inl c) (.int n)) ((n, c) :: ts) := by
  refine ⟨nd_putK' _ N.nd, λ q hq => ?_, λ t ht => ?_⟩
  . rcases keys_putK q hq with z | z
    . exact ⟨_, List.mem_cons_self, z⟩
    . obtain ⟨t, ht, e⟩ := N.sub q z
      exact ⟨t, List.mem_cons_of_mem _ ht, e⟩
  . rw [valV_put]
    rcases List.mem_cons.mp ht with rfl | ht
    . rw [if_pos rfl]
    . rw [if_neg λ z => h t ht (Sum.inl.inj z)]
      exact N.val t ht
theorem NumOk.drop {kvs : List (Key × V)} {ts us : List Th} {t : Th} (N : NumOk kvs ts) (p : ts.Perm (t :: us)) (nd : (ts.map (·.2)).Nodup) : NumOk (dropK kvs (.inl t.2)) us := by
  have nd' := nod_perm p.symm nd
  rw [List.map_cons, List.nodup_cons] at nd'
  refine ⟨nd_dropK N.nd, λ q hq => ?_, λ u hu => ?_⟩
  . obtain ⟨hne, hin⟩ := keys_dropK q hq
    obtain ⟨u, hu, e⟩ := N.sub q hin
    rcases List.mem_cons.mp (p.mem_iff.mp hu) with rfl | hu
    . exact absurd e hne
    . exact ⟨u, hu, e⟩
  . rw [valV_drop, if_neg λ z => nd'.1 (List.mem_map.mpr ⟨u, hu, Sum.inl.inj z⟩)]
    exact N.val u (p.mem_iff.mpr (List.mem_cons_of_mem _ hu))
theorem chg_le_min {α : Type} [DecidableEq α] : ∀ (xs zs : List α), chg xs zs <= min xs.length zs.length
  | [], _ => by simp [chg]
  | _ :: _, [] => by simp [chg]
  | x :: xs, z :: zs => by
    have := chg_le_min xs zs
    unfold chg
    simp only [List.length_cons]
    split <;> omega
theorem chg_tri {α : Type} [DecidableEq α] : ∀ (xs ys zs : List α), chg xs zs <= chg xs ys + chg ys zs + (min xs.length zs.length - ys.length)
  | [], _, _ => by simp [chg]
  | _ :: _, _, [] => by simp [chg]
  | x :: xs, [], z :: zs => by
    have := chg_le_min (x :: xs) (z :: zs)
    simp only [chg, List.length_nil] at *
    omega
  | x :: xs, y :: ys, z :: zs => by
    have ih := chg_tri xs ys zs
    simp only [chg, List.length_cons]
    have e : min (xs.length + 1) (zs.length + 1) - (ys.length + 1) = min xs.length zs.length - ys.length := by omega
    rw [e]
    by_cases h1 : x = z
    . rw [if_pos h1]; omega
    . rw [if_neg h1]
      by_cases h2 : x = y
      . subst h2
        rw [if_pos rfl, if_neg h1]; omega
      . rw [if_neg h2]; omega
theorem bits_mono {a b : Nat} (h : a <= b) : bits a <= bits b := by
  unfold bits
  by_cases ha : a = 0
  . rw [if_pos ha]; omega
  . rw [if_neg ha, if_neg (by omega)]
    rcases Nat.lt_or_ge (Nat.log2 b) (Nat.log2 a) with z | z
    . have h1 : 2 ^ Nat.log2 a <= a := Nat.log2_self_le ha
      have h2 : b < 2 ^ Nat.log2 a := (Nat.log2_lt (by omega)).mp z
      omega
    . omega
theorem bits_pos {n : Nat} (h : 0 < n) : 1 <= bits n := by unfold bits; rw [if_neg (by omega)]; omega
theorem bits_succ (n : Nat) : bits (n + 1) <= bits n + 1 := by
  unfold bits
  rw [if_neg (by omega)]
  by_cases h : n = 0
  . subst h; decide
  . rw [if_neg h]
    have h1 : n < 2 ^ (Nat.log2 n + 1) := Nat.lt_log2_self
    rcases Nat.lt_or_ge (Nat.log2 n + 1) (Nat.log2 (n + 1)) with z | z
    . have h2 : 2 ^ Nat.log2 (n + 1) <= n + 1 := Nat.log2_self_le (by omega)
      have h3 : 2 ^ (Nat.log2 n + 2) <= 2 ^ Nat.log2 (n + 1) := Nat.pow_le_pow_right (by decide) (by omega)
      have h4 : 2 ^ (Nat.log2 n + 2) = 2 * 2 ^ (Nat.log2 n + 1) := by rw [Nat.pow_succ 2 (Nat.log2 n + 1), Nat.mul_comm]
      omega
    . omega
def Few (lo hi lo' hi' : List Th) : Prop := (lo.length = lo'.length -> lo' = lo /\ hi' = hi) /\ (lo.length = lo'.length + 1 \/ lo.length + 1 = lo'.length -> chg lo lo' <= bits lo.length /\ chg hi hi' <= bits hi.length)
theorem top_lo {ts : List Th} {t : Th} (hF : Form (ahP true) ts) (h0 : ts[0]? = some t) : ∀ a ∈ ts, a = t \/ pLt a t = true := λ a ha => by
  obtain ⟨k, hk⟩ := List.getElem?_of_mem ha
  have := form_top (ahP_ord true) hF h0 k a hk
  rcases pLt_tri a t with h | h | h
  . exact .inr h
  . exact .inl h
  . exact absurd h this
theorem top_hi {ts : List Th} {t : Th} (hF : Form (ahP false) ts) (h0 : ts[0]? = some t) : ∀ a ∈ ts, a = t \/ pLt t a = true := λ a ha => by
  obtain ⟨k, hk⟩ := List.getElem?_of_mem ha
  have := form_top (ahP_ord false) hF h0 k a hk
  rcases pLt_tri a t with h | h | h
  . exact absurd h this
  . exact .inl h
  . exact .inr h
theorem ROk0.down {s : RSt} {lo' hi' : List Th} {t : Th} (O : ROk0 s) (h0 : s.lo[0]? = some t) (pl : s.lo.Perm (t :: lo')) (ph : hi'.Perm (t :: s.hi)) (fl : Form (ahP true) lo') (fh : Form (ahP false) hi') : ROk0 { s with lo := lo', hi := hi' } /\ (lo' ++ hi').Perm s.all := by
  have pm : (lo' ++ hi').Perm s.all := by
    refine (List.Perm.append_left lo' ph).trans (List.perm_middle.trans ?_)
    exact (pl.append_right s.hi).symm
  refine ⟨⟨O.sh, λ u hu => O.rng u (pm.mem_iff.mp hu), nod_perm pm O.nod, fl, fh, λ a ha b hb => ?_, O.wb⟩, pm⟩
  have ha' : a ∈ s.lo := pl.mem_iff.mpr (List.mem_cons_of_mem _ ha)
  rcases List.mem_cons.mp (ph.mem_iff.mp hb) with rfl | hb'
  . rcases top_lo O.flo h0 a ha' with rfl | h
    . have nd : ((a :: lo').map (·.2)).Nodup := by
        have : (s.lo.map (·.2)).Nodup := by
          have := O.nod; rw [RSt.all, List.map_append] at this
          exact (List.nodup_append.mp this).1
        exact nod_perm pl.symm this
      rw [List.map_cons, List.nodup_cons] at nd
      exact absurd (List.mem_map_of_mem ha) nd.1
    . exact h
  . exact O.ord a ha' b hb'
theorem ROk0.up {s : RSt} {lo' hi' : List Th} {t : Th} (O : ROk0 s) (h0 : s.hi[0]? = some t) (ph : s.hi.Perm (t :: hi')) (pl : lo'.Perm (t :: s.lo)) (fl : Form (ahP true) lo') (fh : Form (ahP false) hi') : ROk0 { s with lo := lo', hi := hi' } /\ (lo' ++ hi').Perm s.all := by
  have pm : (lo' ++ hi').Perm s.all := by
    refine (pl.append_right hi').trans ?_
    refine List.Perm.trans ?_ (List.Perm.append_left s.lo ph.symm)
    exact List.perm_middle.symm
  refine ⟨⟨O.sh, λ u hu => O.rng u (pm.mem_iff.mp hu), nod_perm pm O.nod, fl, fh, λ a ha b hb => ?_, O.wb⟩, pm⟩
  have hb' : b ∈ s.hi := ph.mem_iff.mpr (List.mem_cons_of_mem _ hb)
  rcases List.mem_cons.mp (pl.mem_iff.mp ha) with rfl | ha'
  . rcases top_hi O.fhi h0 b hb' with rfl | h
    . have nd : ((b :: hi').map (·.2)).Nodup := by
        have : (s.hi.map (·.2)).Nodup := by
          have := O.nod; rw [RSt.all, List.map_append] at this
          exact (List.nodup_append.mp this).2.1
        exact nod_perm ph.symm this
      rw [List.map_cons, List.nodup_cons] at nd
      exact absurd (List.mem_map_of_mem hb) nd.1
    . exact h
  . exact O.ord a ha' b hb'
theorem ROk0.nlo {s : RSt} (O : ROk0 s) : (s.lo.map (·.2)).Nodup := by
  have := O.nod; rw [RSt.all, List.map_append] at this
  exact (List.nodup_append.mp this).1
theorem ROk0.nhi {s : RSt} (O : ROk0 s) : (s.hi.map (·.2)).Nodup := by
  have := O.nod; rw [RSt.all, List.map_append] at this
  exact (List.nodup_append.mp this).2.1
theorem ROk0.ndj {s : RSt} (O : ROk0 s) : ∀ a ∈ s.lo, ∀ b ∈ s.hi, a.2 ≠ b.2 := λ a ha b hb e => by
  have := O.nod; rw [RSt.all, List.map_append] at this
  exact (List.nodup_append.mp this).2.2 a.2 (List.mem_map_of_mem ha) b.2 (List.mem_map_of_mem hb) e
theorem place_in {m : Nat} {p w : Int} (h : Share p w) : 0 <= Mp.placeF m p w /\ Mp.placeF m p w <= m := by
  have I := Mp.placeF_is (m := (m : Int)) (by omega) h.1 h.2.1 h.2.2
  by_cases e : (m : Int) = 0
  . rw [I.none e]; omega
  . have := I.lo e; have := I.hi; omega
theorem place_pos {m : Nat} {p w : Int} (h : Share p w) (hm : 0 < m) : 1 <= Mp.placeF m p w := (Mp.placeF_is (m := (m : Int)) (by omega) h.1 h.2.1 h.2.2).lo (by omega)
theorem place_next {m : Nat} {p w : Int} (h : Share p w) : Mp.placeF m p w <= Mp.placeF ((m + 1 : Nat) : Int) p w /\ Mp.placeF ((m + 1 : Nat) : Int) p w <= Mp.placeF m p w + 1 := by
  have := Mp.placeF_next (m := (m : Int)) (by omega) h.1 h.2.1 h.2.2
  simpa using this
theorem ROk.lo_nil {s : RSt} (O : ROk s) (h : s.lo = []) : s.all = [] := by
  by_cases e : s.all.length = 0
  . exact List.eq_nil_of_length_eq_zero e
  . have := place_pos O.sh (m := s.all.length) (by omega)
    have c := O.cnt
    rw [h] at c
    simp only [List.length_nil] at c
    omega
theorem few_sum {n : Nat} {a b c : Nat} {xs ys zs : List Th} (h1 : chg xs ys <= bits a) (h2 : chg ys zs <= bits b) (ha : a <= n) (hb : b <= n + 1) (hn : 0 < n) (hl : min xs.length zs.length <= ys.length + 1) : chg xs zs <= 4 * bits n := by
  have := chg_tri xs ys zs
  have := bits_mono ha
  have := bits_mono hb
  have := bits_succ n
  have := bits_pos hn
  omega
def PilO (lo : List Th) (t : Th) (b : Bool) : Prop := (b = true -> ∃ u, lo[0]? = some u /\ pLt u t = true) /\ (b = false -> lo = [] \/ ∃ u, lo[0]? = some u /\ pLt u t = false)
theorem chg_nil {α : Type} [DecidableEq α] (zs : List α) : chg ([] : List α) zs = 0 := by simp [chg]
theorem few_end {n a b : Nat} {xs ys zs : List Th} (h1 : chg xs ys <= bits a) (h2 : chg ys zs <= bits b) (hx : xs.length <= n) (ha : a <= n) (hb : b <= n + 1) (hl : min xs.length zs.length <= ys.length + 1) : chg xs zs <= 4 * bits n := by
  by_cases hn : n = 0
  . rw [List.eq_nil_of_length_eq_zero (show xs.length = 0 by omega), chg_nil]; omega
  . exact few_sum (c := 0) h1 h2 ha hb (by omega) hl
theorem few_put_lo {s : RSt} {lo2 lo' hi' : List Th} (O : ROk s) (l2 : lo2.length = s.lo.length + 1) (c1 : chg s.lo lo2 <= bits s.lo.length) (F : Few lo2 s.hi lo' hi') (c : (lo'.length : Int) = Mp.placeF ((s.all.length + 1 : Nat) : Int) s.part s.whole) (ll : lo'.length + hi'.length = s.all.length + 1) : chg s.lo lo' <= 4 * bits s.all.length /\ chg s.hi hi' <= 4 * bits s.all.length := by
  have nx := place_next (m := s.all.length) O.sh
  have c0 := O.cnt
  have e : s.all.length = s.lo.length + s.hi.length := List.length_append
  by_cases h : lo2.length = lo'.length
  . obtain ⟨rfl, rfl⟩ := F.1 h
    rw [chg_self]
    have := bits_mono (show s.lo.length <= s.all.length by omega)
    omega
  . obtain ⟨d1, d2⟩ := F.2 (by omega)
    refine ⟨few_end c1 d1 (by omega) (by omega) (by omega) (by omega), ?_⟩
    have := bits_mono (show s.hi.length <= s.all.length by omega)
    omega
theorem few_put_hi {s : RSt} {hi2 lo' hi' : List Th} (O : ROk s) (l2 : hi2.length = s.hi.length + 1) (c1 : chg s.hi hi2 <= bits s.hi.length) (F : Few s.lo hi2 lo' hi') (c : (lo'.length : Int) = Mp.placeF ((s.all.length + 1 : Nat) : Int) s.part s.whole) (ll : lo'.length + hi'.length = s.all.length + 1) : chg s.lo lo' <= 4 * bits s.all.length /\ chg s.hi hi' <= 4 * bits s.all.length := by
  have nx := place_next (m := s.all.length) O.sh
  have c0 := O.cnt
  have e : s.all.length = s.lo.length + s.hi.length := List.length_append
  by_cases h : s.lo.length = lo'.length
  . obtain ⟨rfl, rfl⟩ := F.1 h
    rw [chg_self]
    have := bits_mono (show s.hi.length <= s.all.length by omega)
    omega
  . obtain ⟨d1, d2⟩ := F.2 (by omega)
    refine ⟨?_, few_end c1 d2 (by omega) (by omega) (by omega) (by omega)⟩
    have := bits_mono (show s.lo.length <= s.all.length by omega)
    omega
theorem few_take_lo {s : RSt} {lo2 lo' hi' : List Th} {n : Nat} (O : ROk s) (hn : s.all.length = n + 1) (l2 : lo2.length + 1 = s.lo.length) (c1 : chg s.lo lo2 <= bits s.lo.length) (F : Few lo2 s.hi lo' hi') (c : (lo'.length : Int) = Mp.placeF (n : Nat) s.part s.whole) (ll : lo'.length + hi'.length = n) : chg s.lo lo' <= 4 * bits s.all.length /\ chg s.hi hi' <= 4 * bits s.all.length := by
  have nx := place_next (m := n) O.sh
  have c0 := O.cnt
  rw [<- hn] at nx
  have e : s.all.length = s.lo.length + s.hi.length := List.length_append
  by_cases h : lo2.length = lo'.length
  . obtain ⟨rfl, rfl⟩ := F.1 h
    rw [chg_self]
    have := bits_mono (show s.lo.length <= s.all.length by omega)
    omega
  . obtain ⟨d1, d2⟩ := F.2 (by omega)
    refine ⟨few_end c1 d1 (by omega) (by omega) (by omega) (by omega), ?_⟩
    have := bits_mono (show s.hi.length <= s.all.length by omega)
    omega
theorem few_take_hi {s : RSt} {hi2 lo' hi' : List Th} {n : Nat} (O : ROk s) (hn : s.all.length = n + 1) (l2 : hi2.length + 1 = s.hi.length) (c1 : chg s.hi hi2 <= bits s.hi.length) (F : Few s.lo hi2 lo' hi') (c : (lo'.length : Int) = Mp.placeF (n : Nat) s.part s.whole) (ll : lo'.length + hi'.length = n) : chg s.lo lo' <= 4 * bits s.all.length /\ chg s.hi hi' <= 4 * bits s.all.length := by
  have nx := place_next (m := n) O.sh
  have c0 := O.cnt
  rw [<- hn] at nx
  have e : s.all.length = s.lo.length + s.hi.length := List.length_append
  by_cases h : s.lo.length = lo'.length
  . obtain ⟨rfl, rfl⟩ := F.1 h
    rw [chg_self]
    have := bits_mono (show s.hi.length <= s.all.length by omega)
    omega
  . obtain ⟨d1, d2⟩ := F.2 (by omega)
    refine ⟨?_, few_end c1 d2 (by omega) (by omega) (by omega) (by omega)⟩
    have := bits_mono (show s.lo.length <= s.all.length by omega)
    omega
theorem ROk0.len {s : RSt} (O : ROk0 s) : s.all.length <= s.came := by
  have := nodup_len (n := s.came) O.nod λ c hc => by
    obtain ⟨t, ht, rfl⟩ := List.mem_map.mp hc
    exact O.rng t ht
  simpa using this
theorem ROk.putLo {s : RSt} {t : Th} {lo2 : List Th} (O : ROk s) (ht : t.2 = ((s.came + 1 : Nat) : Int)) (hp : PilO s.lo t false) (pm : lo2.Perm (t :: s.lo)) (fl : Form (ahP true) lo2) : ROk0 { s with came := s.came + 1, lo := lo2 } /\ (lo2 ++ s.hi).Perm (t :: s.all) := by
  have pm2 : (lo2 ++ s.hi).Perm (t :: s.all) := pm.append_right s.hi
  have nf : ∀ u ∈ s.all, u.2 ≠ t.2 := λ u hu e => by have := O.rng u hu; omega
  refine ⟨⟨O.sh, λ u hu => ?_, nod_perm pm2 ?_, fl, O.fhi, λ a ha b hb => ?_, O.wb⟩, pm2⟩
  . rcases List.mem_cons.mp (pm2.mem_iff.mp hu) with rfl | h
    . show 1 <= u.2 /\ u.2 <= ((s.came + 1 : Nat) : Int); omega
    . have := O.rng u h
      show 1 <= u.2 /\ u.2 <= ((s.came + 1 : Nat) : Int); omega
  . rw [List.map_cons, List.nodup_cons]
    exact ⟨λ z => by obtain ⟨u, hu, e⟩ := List.mem_map.mp z; exact nf u hu e, O.nod⟩
  . rcases List.mem_cons.mp (pm.mem_iff.mp ha) with rfl | h
    . rcases hp.2 rfl with z | ⟨u, h0, hu⟩
      . have := O.lo_nil z
        have hb' : b ∈ s.all := List.mem_append_right _ hb
        rw [this] at hb'; cases hb'
      . have hum : u ∈ s.lo := List.mem_of_getElem? h0
        have hub := O.ord u hum b hb
        rcases pLt_tri a u with h | h | h
        . exact pLt_tr h hub
        . subst h; exact hub
        . rw [hu] at h; cases h
    . exact O.ord a h b hb
theorem ROk.putHi {s : RSt} {t : Th} {hi2 : List Th} (O : ROk s) (ht : t.2 = ((s.came + 1 : Nat) : Int)) (hp : PilO s.lo t true) (pm : hi2.Perm (t :: s.hi)) (fh : Form (ahP false) hi2) : ROk0 { s with came := s.came + 1, hi := hi2 } /\ (s.lo ++ hi2).Perm (t :: s.all) := by
  have pm2 : (s.lo ++ hi2).Perm (t :: s.all) := (List.Perm.append_left s.lo pm).trans List.perm_middle
  have nf : ∀ u ∈ s.all, u.2 ≠ t.2 := λ u hu e => by have := O.rng u hu; omega
  refine ⟨⟨O.sh, λ u hu => ?_, nod_perm pm2 ?_, O.flo, fh, λ a ha b hb => ?_, O.wb⟩, pm2⟩
  . rcases List.mem_cons.mp (pm2.mem_iff.mp hu) with rfl | h
    . show 1 <= u.2 /\ u.2 <= ((s.came + 1 : Nat) : Int); omega
    . have := O.rng u h
      show 1 <= u.2 /\ u.2 <= ((s.came + 1 : Nat) : Int); omega
  . rw [List.map_cons, List.nodup_cons]
    exact ⟨λ z => by obtain ⟨u, hu, e⟩ := List.mem_map.mp z; exact nf u hu e, O.nod⟩
  . rcases List.mem_cons.mp (pm.mem_iff.mp hb) with rfl | h
    . obtain ⟨u, h0, hu⟩ := hp.1 rfl
      rcases top_lo O.flo h0 a ha with rfl | h
      . exact hu
      . exact pLt_tr h hu
    . exact O.ord a ha b h
theorem ROk.isLo {s : RSt} {t : Th} (O : ROk s) (ht : t ∈ s.all) (hp : PilO s.lo t false) : t ∈ s.lo := by
  rcases List.mem_append.mp ht with h | h
  . exact h
  . rcases hp.2 rfl with z | ⟨u, h0, hu⟩
    . rw [O.lo_nil z] at ht; cases ht
    . rw [O.ord u (List.mem_of_getElem? h0) t h] at hu; cases hu
theorem ROk.isHi {s : RSt} {t : Th} (O : ROk s) (ht : t ∈ s.all) (hp : PilO s.lo t true) : t ∈ s.hi := by
  rcases List.mem_append.mp ht with h | h
  . obtain ⟨u, h0, hu⟩ := hp.1 rfl
    rcases top_lo O.flo h0 t h with rfl | g
    . rw [pLt_irr] at hu; cases hu
    . rw [pLt_asym _ _ g] at hu; cases hu
  . exact h
theorem ROk.takeLo {s : RSt} {t : Th} {lo2 : List Th} (O : ROk s) (pm : s.lo.Perm (t :: lo2)) (fl : Form (ahP true) lo2) : ROk0 { s with lo := lo2 } /\ s.all.Perm (t :: (lo2 ++ s.hi)) := by
  have pm2 : s.all.Perm (t :: (lo2 ++ s.hi)) := pm.append_right s.hi
  have nd := nod_perm pm2.symm O.nod
  rw [List.map_cons, List.nodup_cons] at nd
  exact ⟨⟨O.sh, λ u hu => O.rng u (pm2.mem_iff.mpr (List.mem_cons_of_mem _ hu)), nd.2, fl, O.fhi, λ a ha b hb => O.ord a (pm.mem_iff.mpr (List.mem_cons_of_mem _ ha)) b hb, O.wb⟩, pm2⟩
theorem ROk.takeHi {s : RSt} {t : Th} {hi2 : List Th} (O : ROk s) (pm : s.hi.Perm (t :: hi2)) (fh : Form (ahP false) hi2) : ROk0 { s with hi := hi2 } /\ s.all.Perm (t :: (s.lo ++ hi2)) := by
  have pm2 : s.all.Perm (t :: (s.lo ++ hi2)) := (List.Perm.append_left s.lo pm).trans List.perm_middle
  have nd := nod_perm pm2.symm O.nod
  rw [List.map_cons, List.nodup_cons] at nd
  exact ⟨⟨O.sh, λ u hu => O.rng u (pm2.mem_iff.mpr (List.mem_cons_of_mem _ hu)), nd.2, O.flo, fh, λ a ha b hb => O.ord a ha b (pm.mem_iff.mpr (List.mem_cons_of_mem _ hb)), O.wb⟩, pm2⟩
end L2
local macro_rules | `(tactic| wtm_at "side") => `(tactic| first | ((with_unfolding_all show (0 : Int) < _); omega) | ((with_unfolding_all refine ⟨⟨?_, ?_⟩, ?_, ?_⟩) <;> omega) | ((with_unfolding_all refine ⟨?_, ?_⟩) <;> omega))
local macro_rules | `(tactic| wtm_at "ite") => `(tactic| first | (refine L2.rd_iteP ?_ ?_; (omega)) | (refine L2.rd_iteN ?_ ?_; (omega)) | refine L2.rd_ite (λ _ => ?_) (λ _ => ?_))
local macro_rules | `(tactic| wtm_at "rd1") => `(tactic| with_reducible first
  | refine L2.rd_seq ?_ | refine L2.rd_asg ?_ | refine L2.rd_op ?_ | refine L2.rd_var (by with_unfolding_all exact rfl) ?_ | refine L2.rd_c ?_
  | refine L2.rd_I0 ?_ | (refine L2.rd_I ?_ ?_; (wtm_at "side")) | refine L2.rd_eqI ?_ | refine L2.rd_neI ?_ | refine L2.rd_U ?_ | refine L2.rd_un ?_ | refine L2.rd_eqB ?_ | refine L2.rd_neB ?_
  | refine L2.rd_ifS ?_ | refine L2.rd_test ?_ | refine L2.rd_tB ?_ | refine L2.rd_and ?_ | refine L2.rd_or ?_ | refine L2.rd_not ?_ | refine L2.rd_andV ?_ | refine L2.rd_orV ?_ | refine L2.rd_notV ?_ | refine L2.rd_if ?_ | refine L2.rd_chain ?_
  | refine L2.rd_k ?_ | refine L2.iteT ?_ | refine L2.iteF ?_ | refine L2.rd_iteTn ?_ | refine L2.rd_iteFn ?_ | refine L2.rd_nnite ?_ | refine L2.rd_nite ?_
  | refine L2.rd_set (by simp only [List.set_cons_succ, List.set_cons_zero]; with_unfolding_all rfl) ?_ | refine L2.rd_drop ?_ | refine L2.rd_ret ?_ | refine L2.rd_retN ?_ | refine L2.rd_next ?_
  | refine L2.rd_methD ?_ | refine L2.rd_fld ?_ | refine L2.rd_fldS ?_ | refine L2.rd_fldaug ?_ | refine L2.rd_add ?_ | refine L2.rd_subI ?_ | refine L2.rd_mk ?_ | refine L2.rd_bm0 ?_ | refine L2.rd_bm ?_
  | refine L2.rd_sub ?_ | refine L2.rd_dput ?_ | refine L2.rd_dget ?_ | refine L2.rd_din ?_ | refine L2.rd_dnin ?_ | refine L2.rd_dpop ?_ | refine L2.rd_for ?_ | refine L2.rd_rng1 ?_ | refine L2.rd_rng2 ?_ | refine L2.rd_iL ?_ | refine L2.rd_iE ?_ | refine L2.rd_iZ ?_
  | refine L2.rd_cons ?_ | refine L2.rd_nil ?_ | refine L2.rd_call ?_ | refine L2.rd_cb ?_ | refine L2.rd_lst ?_ | refine L2.rd_tup ?_
  | wtm_at "ite")
local macro_rules | `(tactic| wtm_at "rd") => `(tactic| repeat' (wtm_at "rd1"))
namespace K06
open PySem L2 Hm
def top (i : Nat) : Stmt := PySem.Challenge.pw_midpile_k06_whole_share_told.main.body.getD i (.Pass ⟨0, 0, 0, 0⟩)
abbrev s_Pile___init__ : Stmt := inClass (top 9) 0
abbrev s_Pile_ahead : Stmt := inClass (top 9) 1
abbrev s_Pile_many : Stmt := inClass (top 9) 2
abbrev s_Pile_told : Stmt := inClass (top 9) 3
abbrev s_Pile_top : Stmt := inClass (top 9) 4
abbrev s_Pile_put : Stmt := inClass (top 9) 6
abbrev s_Pile_take : Stmt := inClass (top 9) 7
abbrev s_Pile_fill : Stmt := inClass (top 9) 8
abbrev s_Pile_rise : Stmt := inClass (top 9) 9
abbrev s_Pile_is_ahead_of_upper : Stmt := inClass (top 9) 10
abbrev s_Pile_sink : Stmt := inClass (top 9) 11
abbrev s_Pile_place_under : Stmt := inClass (top 9) 12
abbrev s_Pile_lay : Stmt := inClass (top 9) 13
abbrev s_Turned_ahead : Stmt := inClass (top 10) 0
abbrev s_check_share : Stmt := top 12
abbrev s_place : Stmt := top 13
abbrev s_move_top : Stmt := top 15
abbrev s_Midrow___init__ : Stmt := inClass (top 16) 0
abbrev s_Midrow_many : Stmt := inClass (top 16) 1
abbrev s_Midrow_put : Stmt := inClass (top 16) 2
abbrev s_Midrow_take : Stmt := inClass (top 16) 3
abbrev s_Midrow_number_of : Stmt := inClass (top 16) 4
abbrev s_Midrow_oldest : Stmt := inClass (top 16) 5
abbrev s_Midrow_share : Stmt := inClass (top 16) 6
abbrev s_Midrow_piles : Stmt := inClass (top 16) 7
abbrev s_Midrow_turn : Stmt := inClass (top 16) 8
abbrev s_Midrow_pile_of : Stmt := inClass (top 16) 10
abbrev s_Midrow_settle : Stmt := inClass (top 16) 11
abbrev s__law_at : Stmt := top 18
abbrev s__law_is : Stmt := top 19
abbrev s__law_number : Stmt := top 20
abbrev s__law_numbers : Stmt := top 21
abbrev s__law_thing : Stmt := top 22
abbrev s__law_form : Stmt := top 23
abbrev s__law_empty : Stmt := top 24
abbrev s__law_no_share : Stmt := top 25
abbrev s__law_no_row : Stmt := top 26
abbrev s__law_made : Stmt := top 27
abbrev s__law_no_thing : Stmt := top 28
abbrev s__law_put : Stmt := top 29
abbrev s__law_taken : Stmt := top 30
abbrev s__law_taken_here : Stmt := top 31
abbrev s__law_asked : Stmt := top 32
abbrev s__law_turned : Stmt := top 33
abbrev s__law_deed : Stmt := top 34
abbrev s__law_at_place : Stmt := top 35
abbrev s__law_look : Stmt := top 36
abbrev s_law : Stmt := top 37
theorem sc_Pile___init__ : FnScope ["self"] ["self"] (defScope s_Pile___init__) := ⟨rfl, rfl, rfl, by decide +kernel, rfl, by decide +kernel, by decide +kernel⟩
theorem sc_Pile_ahead : FnScope ["self", "one", "other"] ["self", "one", "other"] (defScope s_Pile_ahead) := ⟨rfl, rfl, rfl, by decide +kernel, rfl, by decide +kernel, by decide +kernel⟩
theorem sc_Pile_many : FnScope ["self"] ["self"] (defScope s_Pile_many) := ⟨rfl, rfl, rfl, by decide +kernel, rfl, by decide +kernel, by decide +kernel⟩
theorem sc_Pile_told : FnScope ["self"] ["self"] (defScope s_Pile_told) := ⟨rfl, rfl, rfl, by decide +kernel, rfl, by decide +kernel, by decide +kernel⟩
theorem sc_Pile_top : FnScope ["self"] ["self"] (defScope s_Pile_top) := ⟨rfl, rfl, rfl, by decide +kernel, rfl, by decide +kernel, by decide +kernel⟩
theorem sc_Pile_put : FnScope ["self", "thing"] ["self", "thing"] (defScope s_Pile_put) := ⟨rfl, rfl, rfl, by decide +kernel, rfl, by decide +kernel, by decide +kernel⟩
theorem sc_Pile_take : FnScope ["self", "coming", "at", "thing", "last"] ["self", "coming"] (defScope s_Pile_take) := ⟨rfl, rfl, rfl, by decide +kernel, rfl, by decide +kernel, by decide +kernel⟩
theorem sc_Pile_fill : FnScope ["self", "thing", "at"] ["self", "thing", "at"] (defScope s_Pile_fill) := ⟨rfl, rfl, rfl, by decide +kernel, rfl, by decide +kernel, by decide +kernel⟩
theorem sc_Pile_rise : FnScope ["self", "thing", "at", "upper"] ["self", "thing", "at"] (defScope s_Pile_rise) := ⟨rfl, rfl, rfl, by decide +kernel, rfl, by decide +kernel, by decide +kernel⟩
theorem sc_Pile_is_ahead_of_upper : FnScope ["self", "thing", "at"] ["self", "thing", "at"] (defScope s_Pile_is_ahead_of_upper) := ⟨rfl, rfl, rfl, by decide +kernel, rfl, by decide +kernel, by decide +kernel⟩
theorem sc_Pile_sink : FnScope ["self", "thing", "at", "under"] ["self", "thing", "at"] (defScope s_Pile_sink) := ⟨rfl, rfl, rfl, by decide +kernel, rfl, by decide +kernel, by decide +kernel⟩
theorem sc_Pile_place_under : FnScope ["self", "at", "left", "right"] ["self", "at"] (defScope s_Pile_place_under) := ⟨rfl, rfl, rfl, by decide +kernel, rfl, by decide +kernel, by decide +kernel⟩
theorem sc_Pile_lay : FnScope ["self", "thing", "at"] ["self", "thing", "at"] (defScope s_Pile_lay) := ⟨rfl, rfl, rfl, by decide +kernel, rfl, by decide +kernel, by decide +kernel⟩
theorem sc_Turned_ahead : FnScope ["self", "one", "other"] ["self", "one", "other"] (defScope s_Turned_ahead) := ⟨rfl, rfl, rfl, by decide +kernel, rfl, by decide +kernel, by decide +kernel⟩
theorem sc_check_share : FnScope ["part", "whole"] ["part", "whole"] (defScope s_check_share) := ⟨rfl, rfl, rfl, by decide +kernel, rfl, by decide +kernel, by decide +kernel⟩
theorem sc_place : FnScope ["many", "part", "whole", "rounded_up"] ["many", "part", "whole"] (defScope s_place) := ⟨rfl, rfl, rfl, by decide +kernel, rfl, by decide +kernel, by decide +kernel⟩
theorem sc_move_top : FnScope ["source", "target"] ["source", "target"] (defScope s_move_top) := ⟨rfl, rfl, rfl, by decide +kernel, rfl, by decide +kernel, by decide +kernel⟩
theorem sc_Midrow___init__ : FnScope ["self", "part", "whole"] ["self", "part", "whole"] (defScope s_Midrow___init__) := ⟨rfl, rfl, rfl, by decide +kernel, rfl, by decide +kernel, by decide +kernel⟩
theorem sc_Midrow_many : FnScope ["self"] ["self"] (defScope s_Midrow_many) := ⟨rfl, rfl, rfl, by decide +kernel, rfl, by decide +kernel, by decide +kernel⟩
theorem sc_Midrow_put : FnScope ["self", "number", "coming", "thing"] ["self", "number"] (defScope s_Midrow_put) := ⟨rfl, rfl, rfl, by decide +kernel, rfl, by decide +kernel, by decide +kernel⟩
theorem sc_Midrow_take : FnScope ["self", "coming", "number"] ["self", "coming"] (defScope s_Midrow_take) := ⟨rfl, rfl, rfl, by decide +kernel, rfl, by decide +kernel, by decide +kernel⟩
theorem sc_Midrow_number_of : FnScope ["self", "coming"] ["self", "coming"] (defScope s_Midrow_number_of) := ⟨rfl, rfl, rfl, by decide +kernel, rfl, by decide +kernel, by decide +kernel⟩
theorem sc_Midrow_oldest : FnScope ["self"] ["self"] (defScope s_Midrow_oldest) := ⟨rfl, rfl, rfl, by decide +kernel, rfl, by decide +kernel, by decide +kernel⟩
theorem sc_Midrow_share : FnScope ["self"] ["self"] (defScope s_Midrow_share) := ⟨rfl, rfl, rfl, by decide +kernel, rfl, by decide +kernel, by decide +kernel⟩
theorem sc_Midrow_piles : FnScope ["self"] ["self"] (defScope s_Midrow_piles) := ⟨rfl, rfl, rfl, by decide +kernel, rfl, by decide +kernel, by decide +kernel⟩
theorem sc_Midrow_turn : FnScope ["self", "part", "whole"] ["self", "part", "whole"] (defScope s_Midrow_turn) := ⟨rfl, rfl, rfl, by decide +kernel, rfl, by decide +kernel, by decide +kernel⟩
theorem sc_Midrow_pile_of : FnScope ["self", "thing"] ["self", "thing"] (defScope s_Midrow_pile_of) := ⟨rfl, rfl, rfl, by decide +kernel, rfl, by decide +kernel, by decide +kernel⟩
theorem sc_Midrow_settle : FnScope ["self", "wanted"] ["self"] (defScope s_Midrow_settle) := ⟨rfl, rfl, rfl, by decide +kernel, rfl, by decide +kernel, by decide +kernel⟩
theorem sc__law_at : FnScope ["_law_script", "_law_k"] ["_law_script", "_law_k"] (defScope s__law_at) := ⟨rfl, rfl, rfl, by decide +kernel, rfl, by decide +kernel, by decide +kernel⟩
theorem sc__law_is : FnScope ["_law_found", "_law_due"] ["_law_found", "_law_due"] (defScope s__law_is) := ⟨rfl, rfl, rfl, by decide +kernel, rfl, by decide +kernel, by decide +kernel⟩
theorem sc__law_number : FnScope ["_law_load", "_law_rest"] ["_law_load"] (defScope s__law_number) := ⟨rfl, rfl, rfl, by decide +kernel, rfl, by decide +kernel, by decide +kernel⟩
theorem sc__law_numbers : FnScope ["_law_cell", "_law_many", "_law_kind", "_law_now", "_law_found", "_law_k"] ["_law_cell", "_law_many"] (defScope s__law_numbers) := ⟨rfl, rfl, rfl, by decide +kernel, rfl, by decide +kernel, by decide +kernel⟩
theorem sc__law_thing : FnScope ["_law_found"] ["_law_found"] (defScope s__law_thing) := ⟨rfl, rfl, rfl, by decide +kernel, rfl, by decide +kernel, by decide +kernel⟩
theorem sc__law_form : FnScope ["_law_told", "_law_turned_here", "_law_k", "_law_above"] ["_law_told", "_law_turned_here"] (defScope s__law_form) := ⟨rfl, rfl, rfl, by decide +kernel, rfl, by decide +kernel, by decide +kernel⟩
theorem sc__law_empty : FnScope ["_law_row", "e", "_law_others"] ["_law_row"] (defScope s__law_empty) := ⟨rfl, rfl, rfl, by decide +kernel, rfl, by decide +kernel, by decide +kernel⟩
theorem sc__law_no_share : FnScope ["_law_row", "_law_part", "_law_whole", "e", "_law_others"] ["_law_row", "_law_part", "_law_whole"] (defScope s__law_no_share) := ⟨rfl, rfl, rfl, by decide +kernel, rfl, by decide +kernel, by decide +kernel⟩
theorem sc__law_no_row : FnScope ["_law_part", "_law_whole", "e", "_law_others"] ["_law_part", "_law_whole"] (defScope s__law_no_row) := ⟨rfl, rfl, rfl, by decide +kernel, rfl, by decide +kernel, by decide +kernel⟩
theorem sc__law_made : FnScope ["_law_cell", "_law_part", "_law_whole"] ["_law_cell", "_law_part", "_law_whole"] (defScope s__law_made) := ⟨rfl, rfl, rfl, by decide +kernel, rfl, by decide +kernel, by decide +kernel⟩
theorem sc__law_no_thing : FnScope ["_law_row", "_law_coming"] ["_law_row", "_law_coming"] (defScope s__law_no_thing) := ⟨rfl, rfl, rfl, by decide +kernel, rfl, by decide +kernel, by decide +kernel⟩
theorem sc__law_put : FnScope ["_law_row", "_law_kept", "_law_state", "_law_number_here"] ["_law_row", "_law_kept", "_law_state", "_law_number_here"] (defScope s__law_put) := ⟨rfl, rfl, rfl, by decide +kernel, rfl, by decide +kernel, by decide +kernel⟩
theorem sc__law_taken : FnScope ["_law_row", "_law_kept", "_law_at_here", "_law_thing_here"] ["_law_row", "_law_kept", "_law_at_here"] (defScope s__law_taken) := ⟨rfl, rfl, rfl, by decide +kernel, rfl, by decide +kernel, by decide +kernel⟩
theorem sc__law_taken_here : FnScope ["_law_row", "_law_kept", "_law_thing_here"] ["_law_row", "_law_kept", "_law_thing_here"] (defScope s__law_taken_here) := ⟨rfl, rfl, rfl, by decide +kernel, rfl, by decide +kernel, by decide +kernel⟩
theorem sc__law_asked : FnScope ["_law_row", "_law_kept", "_law_coming", "_law_some"] ["_law_row", "_law_kept", "_law_coming"] (defScope s__law_asked) := ⟨rfl, rfl, rfl, by decide +kernel, rfl, by decide +kernel, by decide +kernel⟩
theorem sc__law_turned : FnScope ["_law_row", "_law_state", "_law_load", "_law_whole", "_law_part", "_law_bad"] ["_law_row", "_law_state", "_law_load"] (defScope s__law_turned) := ⟨rfl, rfl, rfl, by decide +kernel, rfl, by decide +kernel, by decide +kernel⟩
theorem sc__law_deed : FnScope ["_law_row", "_law_kept", "_law_state", "_law_cell", "_law_way", "_law_load", "_law_near"] ["_law_row", "_law_kept", "_law_state", "_law_cell"] (defScope s__law_deed) := ⟨rfl, rfl, rfl, by decide +kernel, rfl, by decide +kernel, by decide +kernel⟩
theorem sc__law_at_place : FnScope ["_law_before", "_law_kept", "_law_state", "_law_place_due"] ["_law_before", "_law_kept", "_law_state"] (defScope s__law_at_place) := ⟨rfl, rfl, rfl, by decide +kernel, rfl, by decide +kernel, by decide +kernel⟩
theorem sc__law_look : FnScope ["_law_row", "_law_kept", "_law_state", "_law_flip", "_law_held", "_law_both", "_law_one", "_law_told", "_law_before"] ["_law_row", "_law_kept", "_law_state", "_law_flip", "_law_held"] (defScope s__law_look) := ⟨rfl, rfl, rfl, by decide +kernel, rfl, by decide +kernel, by decide +kernel⟩
theorem sc_law : FnScope ["_law_script", "_law_whole", "_law_part", "_law_bad", "_law_made_here", "_law_row", "_law_kept", "_law_state", "_law_held", "_law_many", "_law_number_here", "_law_k", "_law_cell"] ["_law_script"] (defScope s_law) := ⟨rfl, rfl, rfl, by decide +kernel, rfl, by decide +kernel, by decide +kernel⟩
structure Lk where
  MidError : Addr
  NoShare : Addr
  NoThing : Addr
  Empty : Addr
  Twice : Addr
  NoWidth : Addr
  Pile : Addr
  Turned : Addr
  Midrow : Addr
  a_Pile___init__ : Addr
  d_Pile___init__ : FuncData
  a_Pile_ahead : Addr
  d_Pile_ahead : FuncData
  a_Pile_many : Addr
  d_Pile_many : FuncData
  a_Pile_told : Addr
  d_Pile_told : FuncData
  a_Pile_top : Addr
  d_Pile_top : FuncData
  a_Pile_put : Addr
  d_Pile_put : FuncData
  a_Pile_take : Addr
  d_Pile_take : FuncData
  a_Pile_fill : Addr
  d_Pile_fill : FuncData
  a_Pile_rise : Addr
  d_Pile_rise : FuncData
  a_Pile_is_ahead_of_upper : Addr
  d_Pile_is_ahead_of_upper : FuncData
  a_Pile_sink : Addr
  d_Pile_sink : FuncData
  a_Pile_place_under : Addr
  d_Pile_place_under : FuncData
  a_Pile_lay : Addr
  d_Pile_lay : FuncData
  a_Turned_ahead : Addr
  d_Turned_ahead : FuncData
  a_check_share : Addr
  d_check_share : FuncData
  a_place : Addr
  d_place : FuncData
  a_move_top : Addr
  d_move_top : FuncData
  a_Midrow___init__ : Addr
  d_Midrow___init__ : FuncData
  v_Midrow___init__ : List Value
  a_Midrow_many : Addr
  d_Midrow_many : FuncData
  a_Midrow_put : Addr
  d_Midrow_put : FuncData
  a_Midrow_take : Addr
  d_Midrow_take : FuncData
  a_Midrow_number_of : Addr
  d_Midrow_number_of : FuncData
  a_Midrow_oldest : Addr
  d_Midrow_oldest : FuncData
  a_Midrow_share : Addr
  d_Midrow_share : FuncData
  a_Midrow_piles : Addr
  d_Midrow_piles : FuncData
  a_Midrow_turn : Addr
  d_Midrow_turn : FuncData
  a_Midrow_pile_of : Addr
  d_Midrow_pile_of : FuncData
  a_Midrow_settle : Addr
  d_Midrow_settle : FuncData
  a__law_at : Addr
  d__law_at : FuncData
  a__law_is : Addr
  d__law_is : FuncData
  a__law_number : Addr
  d__law_number : FuncData
  a__law_numbers : Addr
  d__law_numbers : FuncData
  a__law_thing : Addr
  d__law_thing : FuncData
  a__law_form : Addr
  d__law_form : FuncData
  a__law_empty : Addr
  d__law_empty : FuncData
  a__law_no_share : Addr
  d__law_no_share : FuncData
  a__law_no_row : Addr
  d__law_no_row : FuncData
  a__law_made : Addr
  d__law_made : FuncData
  a__law_no_thing : Addr
  d__law_no_thing : FuncData
  a__law_put : Addr
  d__law_put : FuncData
  a__law_taken : Addr
  d__law_taken : FuncData
  a__law_taken_here : Addr
  d__law_taken_here : FuncData
  a__law_asked : Addr
  d__law_asked : FuncData
  a__law_turned : Addr
  d__law_turned : FuncData
  a__law_deed : Addr
  d__law_deed : FuncData
  a__law_at_place : Addr
  d__law_at_place : FuncData
  a__law_look : Addr
  d__law_look : FuncData
  a_law : Addr
  d_law : FuncData
structure Txt (K : PySem.W.Frag) (mg : Str -> Option Value) (L : Lk) : Prop where
  z_len : mg "len" = none
  z_max : mg "max" = none
  z_min : mg "min" = none
  z_sorted : mg "sorted" = none
  z_isinstance : mg "isinstance" = none
  z_list : mg "list" = none
  z_tuple : mg "tuple" = none
  z_int : mg "int" = none
  z_bool : mg "bool" = none
  z_range : mg "range" = none
  z_enumerate : mg "enumerate" = none
  z_ValueError : mg "ValueError" = none
  m_MidError : mg "MidError" = some (.ref L.MidError)
  m_NoShare : mg "NoShare" = some (.ref L.NoShare)
  m_NoThing : mg "NoThing" = some (.ref L.NoThing)
  m_Empty : mg "Empty" = some (.ref L.Empty)
  m_Twice : mg "Twice" = some (.ref L.Twice)
  m_NoWidth : mg "NoWidth" = some (.ref L.NoWidth)
  m_Pile : mg "Pile" = some (.ref L.Pile)
  m_Turned : mg "Turned" = some (.ref L.Turned)
  m_Midrow : mg "Midrow" = some (.ref L.Midrow)
  x_NoShare : ExcC K L.NoShare
  e_NoShare : ExcK K L.NoShare
  x_NoThing : ExcC K L.NoThing
  e_NoThing : ExcK K L.NoThing
  x_Empty : ExcC K L.Empty
  e_Empty : ExcK K L.Empty
  x_Twice : ExcC K L.Twice
  e_Twice : ExcK K L.Twice
  ka_Empty : PySem.W.kitAny K (.ref L.Empty) ([L.NoShare, L.NoThing, L.NoWidth, L.Twice].map Value.ref) = some false
  ks_Empty : PySem.W.kitOne K (.ref L.Empty) (.ref L.Empty) = some true
  kv_Empty : PySem.W.kitOne K (.ref L.Empty) (.type "ValueError") = some true
  tk_Empty : Takes K L.Empty L.MidError
  ka_NoShare : PySem.W.kitAny K (.ref L.NoShare) ([L.Empty, L.NoThing, L.NoWidth, L.Twice].map Value.ref) = some false
  ks_NoShare : PySem.W.kitOne K (.ref L.NoShare) (.ref L.NoShare) = some true
  kv_NoShare : PySem.W.kitOne K (.ref L.NoShare) (.type "ValueError") = some true
  tk_NoShare : Takes K L.NoShare L.MidError
  ts_NoThing : Takes K L.NoThing L.NoThing
  cl_Pile : Cls K L.Pile
  na_Pile_held : NoAttr K L.Pile "held"
  na_Pile_spots : NoAttr K L.Pile "spots"
  na_Pile_total : NoAttr K L.Pile "total"
  cl_Turned : Cls K L.Turned
  na_Turned_held : NoAttr K L.Turned "held"
  na_Turned_spots : NoAttr K L.Turned "spots"
  na_Turned_total : NoAttr K L.Turned "total"
  cl_Midrow : Cls K L.Midrow
  na_Midrow_high : NoAttr K L.Midrow "high"
  na_Midrow_last_coming : NoAttr K L.Midrow "last_coming"
  na_Midrow_low : NoAttr K L.Midrow "low"
  na_Midrow_numbers : NoAttr K L.Midrow "numbers"
  na_Midrow_part : NoAttr K L.Midrow "part"
  na_Midrow_whole : NoAttr K L.Midrow "whole"
  ne_Pile_Turned : L.Pile ≠ L.Turned
  k_Pile___init__ : PySem.W.keepIn K (.ref L.a_Pile___init__) = true
  b_Pile___init__ : Binds K L.d_Pile___init__ ["self"] []
  f_Pile___init__ : Fun K "__init__" "Pile.__init__" s_Pile___init__ L.a_Pile___init__ L.d_Pile___init__
  k_Pile_ahead : PySem.W.keepIn K (.ref L.a_Pile_ahead) = true
  b_Pile_ahead : Binds K L.d_Pile_ahead ["self", "one", "other"] []
  f_Pile_ahead : Fun K "ahead" "Pile.ahead" s_Pile_ahead L.a_Pile_ahead L.d_Pile_ahead
  k_Pile_many : PySem.W.keepIn K (.ref L.a_Pile_many) = true
  b_Pile_many : Binds K L.d_Pile_many ["self"] []
  f_Pile_many : Fun K "many" "Pile.many" s_Pile_many L.a_Pile_many L.d_Pile_many
  k_Pile_told : PySem.W.keepIn K (.ref L.a_Pile_told) = true
  b_Pile_told : Binds K L.d_Pile_told ["self"] []
  f_Pile_told : Fun K "told" "Pile.told" s_Pile_told L.a_Pile_told L.d_Pile_told
  k_Pile_top : PySem.W.keepIn K (.ref L.a_Pile_top) = true
  b_Pile_top : Binds K L.d_Pile_top ["self"] []
  f_Pile_top : Fun K "top" "Pile.top" s_Pile_top L.a_Pile_top L.d_Pile_top
  k_Pile_put : PySem.W.keepIn K (.ref L.a_Pile_put) = true
  b_Pile_put : Binds K L.d_Pile_put ["self", "thing"] []
  f_Pile_put : Fun K "put" "Pile.put" s_Pile_put L.a_Pile_put L.d_Pile_put
  k_Pile_take : PySem.W.keepIn K (.ref L.a_Pile_take) = true
  b_Pile_take : Binds K L.d_Pile_take ["self", "coming"] []
  f_Pile_take : Fun K "take" "Pile.take" s_Pile_take L.a_Pile_take L.d_Pile_take
  k_Pile_fill : PySem.W.keepIn K (.ref L.a_Pile_fill) = true
  b_Pile_fill : Binds K L.d_Pile_fill ["self", "thing", "at"] []
  f_Pile_fill : Fun K "fill" "Pile.fill" s_Pile_fill L.a_Pile_fill L.d_Pile_fill
  k_Pile_rise : PySem.W.keepIn K (.ref L.a_Pile_rise) = true
  b_Pile_rise : Binds K L.d_Pile_rise ["self", "thing", "at"] []
  f_Pile_rise : Fun K "rise" "Pile.rise" s_Pile_rise L.a_Pile_rise L.d_Pile_rise
  k_Pile_is_ahead_of_upper : PySem.W.keepIn K (.ref L.a_Pile_is_ahead_of_upper) = true
  b_Pile_is_ahead_of_upper : Binds K L.d_Pile_is_ahead_of_upper ["self", "thing", "at"] []
  f_Pile_is_ahead_of_upper : Fun K "is_ahead_of_upper" "Pile.is_ahead_of_upper" s_Pile_is_ahead_of_upper L.a_Pile_is_ahead_of_upper L.d_Pile_is_ahead_of_upper
  k_Pile_sink : PySem.W.keepIn K (.ref L.a_Pile_sink) = true
  b_Pile_sink : Binds K L.d_Pile_sink ["self", "thing", "at"] []
  f_Pile_sink : Fun K "sink" "Pile.sink" s_Pile_sink L.a_Pile_sink L.d_Pile_sink
  k_Pile_place_under : PySem.W.keepIn K (.ref L.a_Pile_place_under) = true
  b_Pile_place_under : Binds K L.d_Pile_place_under ["self", "at"] []
  f_Pile_place_under : Fun K "place_under" "Pile.place_under" s_Pile_place_under L.a_Pile_place_under L.d_Pile_place_under
  k_Pile_lay : PySem.W.keepIn K (.ref L.a_Pile_lay) = true
  b_Pile_lay : Binds K L.d_Pile_lay ["self", "thing", "at"] []
  f_Pile_lay : Fun K "lay" "Pile.lay" s_Pile_lay L.a_Pile_lay L.d_Pile_lay
  k_Turned_ahead : PySem.W.keepIn K (.ref L.a_Turned_ahead) = true
  b_Turned_ahead : Binds K L.d_Turned_ahead ["self", "one", "other"] []
  f_Turned_ahead : Fun K "ahead" "Turned.ahead" s_Turned_ahead L.a_Turned_ahead L.d_Turned_ahead
  m_check_share : mg "check_share" = some (.ref L.a_check_share)
  k_check_share : PySem.W.keepIn K (.ref L.a_check_share) = true
  b_check_share : Binds K L.d_check_share ["part", "whole"] []
  f_check_share : Fun K "check_share" "check_share" s_check_share L.a_check_share L.d_check_share
  m_place : mg "place" = some (.ref L.a_place)
  k_place : PySem.W.keepIn K (.ref L.a_place) = true
  b_place : Binds K L.d_place ["many", "part", "whole"] []
  f_place : Fun K "place" "place" s_place L.a_place L.d_place
  m_move_top : mg "move_top" = some (.ref L.a_move_top)
  k_move_top : PySem.W.keepIn K (.ref L.a_move_top) = true
  b_move_top : Binds K L.d_move_top ["source", "target"] []
  f_move_top : Fun K "move_top" "move_top" s_move_top L.a_move_top L.d_move_top
  k_Midrow___init__ : PySem.W.keepIn K (.ref L.a_Midrow___init__) = true
  b_Midrow___init__ : Binds K L.d_Midrow___init__ ["self", "part", "whole"] []
  f_Midrow___init__ : FunD K "__init__" "Midrow.__init__" s_Midrow___init__ L.a_Midrow___init__ L.d_Midrow___init__ L.v_Midrow___init__
  b_Midrow___init___1 : Binds K L.d_Midrow___init__ ["self", "part", "whole"] (L.v_Midrow___init__.drop 1)
  v_Midrow___init___1 : Vals [.int 2] (L.v_Midrow___init__.drop 1)
  b_Midrow___init___2 : Binds K L.d_Midrow___init__ ["self", "part", "whole"] (L.v_Midrow___init__.drop 0)
  v_Midrow___init___2 : Vals [.int 1, .int 2] (L.v_Midrow___init__.drop 0)
  k_Midrow_many : PySem.W.keepIn K (.ref L.a_Midrow_many) = true
  b_Midrow_many : Binds K L.d_Midrow_many ["self"] []
  f_Midrow_many : Fun K "many" "Midrow.many" s_Midrow_many L.a_Midrow_many L.d_Midrow_many
  k_Midrow_put : PySem.W.keepIn K (.ref L.a_Midrow_put) = true
  b_Midrow_put : Binds K L.d_Midrow_put ["self", "number"] []
  f_Midrow_put : Fun K "put" "Midrow.put" s_Midrow_put L.a_Midrow_put L.d_Midrow_put
  k_Midrow_take : PySem.W.keepIn K (.ref L.a_Midrow_take) = true
  b_Midrow_take : Binds K L.d_Midrow_take ["self", "coming"] []
  f_Midrow_take : Fun K "take" "Midrow.take" s_Midrow_take L.a_Midrow_take L.d_Midrow_take
  k_Midrow_number_of : PySem.W.keepIn K (.ref L.a_Midrow_number_of) = true
  b_Midrow_number_of : Binds K L.d_Midrow_number_of ["self", "coming"] []
  f_Midrow_number_of : Fun K "number_of" "Midrow.number_of" s_Midrow_number_of L.a_Midrow_number_of L.d_Midrow_number_of
  k_Midrow_oldest : PySem.W.keepIn K (.ref L.a_Midrow_oldest) = true
  b_Midrow_oldest : Binds K L.d_Midrow_oldest ["self"] []
  f_Midrow_oldest : Fun K "oldest" "Midrow.oldest" s_Midrow_oldest L.a_Midrow_oldest L.d_Midrow_oldest
  k_Midrow_share : PySem.W.keepIn K (.ref L.a_Midrow_share) = true
  b_Midrow_share : Binds K L.d_Midrow_share ["self"] []
  f_Midrow_share : Fun K "share" "Midrow.share" s_Midrow_share L.a_Midrow_share L.d_Midrow_share
  k_Midrow_piles : PySem.W.keepIn K (.ref L.a_Midrow_piles) = true
  b_Midrow_piles : Binds K L.d_Midrow_piles ["self"] []
  f_Midrow_piles : Fun K "piles" "Midrow.piles" s_Midrow_piles L.a_Midrow_piles L.d_Midrow_piles
  k_Midrow_turn : PySem.W.keepIn K (.ref L.a_Midrow_turn) = true
  b_Midrow_turn : Binds K L.d_Midrow_turn ["self", "part", "whole"] []
  f_Midrow_turn : Fun K "turn" "Midrow.turn" s_Midrow_turn L.a_Midrow_turn L.d_Midrow_turn
  k_Midrow_pile_of : PySem.W.keepIn K (.ref L.a_Midrow_pile_of) = true
  b_Midrow_pile_of : Binds K L.d_Midrow_pile_of ["self", "thing"] []
  f_Midrow_pile_of : Fun K "pile_of" "Midrow.pile_of" s_Midrow_pile_of L.a_Midrow_pile_of L.d_Midrow_pile_of
  k_Midrow_settle : PySem.W.keepIn K (.ref L.a_Midrow_settle) = true
  b_Midrow_settle : Binds K L.d_Midrow_settle ["self"] []
  f_Midrow_settle : Fun K "settle" "Midrow.settle" s_Midrow_settle L.a_Midrow_settle L.d_Midrow_settle
  m__law_at : mg "_law_at" = some (.ref L.a__law_at)
  k__law_at : PySem.W.keepIn K (.ref L.a__law_at) = true
  b__law_at : Binds K L.d__law_at ["_law_script", "_law_k"] []
  f__law_at : Fun K "_law_at" "_law_at" s__law_at L.a__law_at L.d__law_at
  m__law_is : mg "_law_is" = some (.ref L.a__law_is)
  k__law_is : PySem.W.keepIn K (.ref L.a__law_is) = true
  b__law_is : Binds K L.d__law_is ["_law_found", "_law_due"] []
  f__law_is : Fun K "_law_is" "_law_is" s__law_is L.a__law_is L.d__law_is
  m__law_number : mg "_law_number" = some (.ref L.a__law_number)
  k__law_number : PySem.W.keepIn K (.ref L.a__law_number) = true
  b__law_number : Binds K L.d__law_number ["_law_load"] []
  f__law_number : Fun K "_law_number" "_law_number" s__law_number L.a__law_number L.d__law_number
  m__law_numbers : mg "_law_numbers" = some (.ref L.a__law_numbers)
  k__law_numbers : PySem.W.keepIn K (.ref L.a__law_numbers) = true
  b__law_numbers : Binds K L.d__law_numbers ["_law_cell", "_law_many"] []
  f__law_numbers : Fun K "_law_numbers" "_law_numbers" s__law_numbers L.a__law_numbers L.d__law_numbers
  m__law_thing : mg "_law_thing" = some (.ref L.a__law_thing)
  k__law_thing : PySem.W.keepIn K (.ref L.a__law_thing) = true
  b__law_thing : Binds K L.d__law_thing ["_law_found"] []
  f__law_thing : Fun K "_law_thing" "_law_thing" s__law_thing L.a__law_thing L.d__law_thing
  m__law_form : mg "_law_form" = some (.ref L.a__law_form)
  k__law_form : PySem.W.keepIn K (.ref L.a__law_form) = true
  b__law_form : Binds K L.d__law_form ["_law_told", "_law_turned_here"] []
  f__law_form : Fun K "_law_form" "_law_form" s__law_form L.a__law_form L.d__law_form
  m__law_empty : mg "_law_empty" = some (.ref L.a__law_empty)
  k__law_empty : PySem.W.keepIn K (.ref L.a__law_empty) = true
  b__law_empty : Binds K L.d__law_empty ["_law_row"] []
  f__law_empty : Fun K "_law_empty" "_law_empty" s__law_empty L.a__law_empty L.d__law_empty
  m__law_no_share : mg "_law_no_share" = some (.ref L.a__law_no_share)
  k__law_no_share : PySem.W.keepIn K (.ref L.a__law_no_share) = true
  b__law_no_share : Binds K L.d__law_no_share ["_law_row", "_law_part", "_law_whole"] []
  f__law_no_share : Fun K "_law_no_share" "_law_no_share" s__law_no_share L.a__law_no_share L.d__law_no_share
  m__law_no_row : mg "_law_no_row" = some (.ref L.a__law_no_row)
  k__law_no_row : PySem.W.keepIn K (.ref L.a__law_no_row) = true
  b__law_no_row : Binds K L.d__law_no_row ["_law_part", "_law_whole"] []
  f__law_no_row : Fun K "_law_no_row" "_law_no_row" s__law_no_row L.a__law_no_row L.d__law_no_row
  m__law_made : mg "_law_made" = some (.ref L.a__law_made)
  k__law_made : PySem.W.keepIn K (.ref L.a__law_made) = true
  b__law_made : Binds K L.d__law_made ["_law_cell", "_law_part", "_law_whole"] []
  f__law_made : Fun K "_law_made" "_law_made" s__law_made L.a__law_made L.d__law_made
  m__law_no_thing : mg "_law_no_thing" = some (.ref L.a__law_no_thing)
  k__law_no_thing : PySem.W.keepIn K (.ref L.a__law_no_thing) = true
  b__law_no_thing : Binds K L.d__law_no_thing ["_law_row", "_law_coming"] []
  f__law_no_thing : Fun K "_law_no_thing" "_law_no_thing" s__law_no_thing L.a__law_no_thing L.d__law_no_thing
  m__law_put : mg "_law_put" = some (.ref L.a__law_put)
  k__law_put : PySem.W.keepIn K (.ref L.a__law_put) = true
  b__law_put : Binds K L.d__law_put ["_law_row", "_law_kept", "_law_state", "_law_number_here"] []
  f__law_put : Fun K "_law_put" "_law_put" s__law_put L.a__law_put L.d__law_put
  m__law_taken : mg "_law_taken" = some (.ref L.a__law_taken)
  k__law_taken : PySem.W.keepIn K (.ref L.a__law_taken) = true
  b__law_taken : Binds K L.d__law_taken ["_law_row", "_law_kept", "_law_at_here"] []
  f__law_taken : Fun K "_law_taken" "_law_taken" s__law_taken L.a__law_taken L.d__law_taken
  m__law_taken_here : mg "_law_taken_here" = some (.ref L.a__law_taken_here)
  k__law_taken_here : PySem.W.keepIn K (.ref L.a__law_taken_here) = true
  b__law_taken_here : Binds K L.d__law_taken_here ["_law_row", "_law_kept", "_law_thing_here"] []
  f__law_taken_here : Fun K "_law_taken_here" "_law_taken_here" s__law_taken_here L.a__law_taken_here L.d__law_taken_here
  m__law_asked : mg "_law_asked" = some (.ref L.a__law_asked)
  k__law_asked : PySem.W.keepIn K (.ref L.a__law_asked) = true
  b__law_asked : Binds K L.d__law_asked ["_law_row", "_law_kept", "_law_coming"] []
  f__law_asked : Fun K "_law_asked" "_law_asked" s__law_asked L.a__law_asked L.d__law_asked
  m__law_turned : mg "_law_turned" = some (.ref L.a__law_turned)
  k__law_turned : PySem.W.keepIn K (.ref L.a__law_turned) = true
  b__law_turned : Binds K L.d__law_turned ["_law_row", "_law_state", "_law_load"] []
  f__law_turned : Fun K "_law_turned" "_law_turned" s__law_turned L.a__law_turned L.d__law_turned
  m__law_deed : mg "_law_deed" = some (.ref L.a__law_deed)
  k__law_deed : PySem.W.keepIn K (.ref L.a__law_deed) = true
  b__law_deed : Binds K L.d__law_deed ["_law_row", "_law_kept", "_law_state", "_law_cell"] []
  f__law_deed : Fun K "_law_deed" "_law_deed" s__law_deed L.a__law_deed L.d__law_deed
  m__law_at_place : mg "_law_at_place" = some (.ref L.a__law_at_place)
  k__law_at_place : PySem.W.keepIn K (.ref L.a__law_at_place) = true
  b__law_at_place : Binds K L.d__law_at_place ["_law_before", "_law_kept", "_law_state"] []
  f__law_at_place : Fun K "_law_at_place" "_law_at_place" s__law_at_place L.a__law_at_place L.d__law_at_place
  m__law_look : mg "_law_look" = some (.ref L.a__law_look)
  k__law_look : PySem.W.keepIn K (.ref L.a__law_look) = true
  b__law_look : Binds K L.d__law_look ["_law_row", "_law_kept", "_law_state", "_law_flip", "_law_held"] []
  f__law_look : Fun K "_law_look" "_law_look" s__law_look L.a__law_look L.d__law_look
  m_law : mg "law" = some (.ref L.a_law)
  k_law : PySem.W.keepIn K (.ref L.a_law) = true
  b_law : Binds K L.d_law ["_law_script"] []
  f_law : Fun K "law" "law" s_law L.a_law L.d_law
  mk_Pile : Mk K L.Pile L.a_Pile___init__
  me_Pile_ahead : Meth K L.Pile "ahead" L.a_Pile_ahead
  me_Pile_many : Meth K L.Pile "many" L.a_Pile_many
  me_Pile_told : Meth K L.Pile "told" L.a_Pile_told
  me_Pile_top : Meth K L.Pile "top" L.a_Pile_top
  me_Pile_put : Meth K L.Pile "put" L.a_Pile_put
  me_Pile_take : Meth K L.Pile "take" L.a_Pile_take
  me_Pile_fill : Meth K L.Pile "fill" L.a_Pile_fill
  me_Pile_rise : Meth K L.Pile "rise" L.a_Pile_rise
  me_Pile_is_ahead_of_upper : Meth K L.Pile "is_ahead_of_upper" L.a_Pile_is_ahead_of_upper
  me_Pile_sink : Meth K L.Pile "sink" L.a_Pile_sink
  me_Pile_place_under : Meth K L.Pile "place_under" L.a_Pile_place_under
  me_Pile_lay : Meth K L.Pile "lay" L.a_Pile_lay
  mk_Turned : Mk K L.Turned L.a_Pile___init__
  me_Turned_ahead : Meth K L.Turned "ahead" L.a_Turned_ahead
  me_Turned_many : Meth K L.Turned "many" L.a_Pile_many
  me_Turned_told : Meth K L.Turned "told" L.a_Pile_told
  me_Turned_top : Meth K L.Turned "top" L.a_Pile_top
  me_Turned_put : Meth K L.Turned "put" L.a_Pile_put
  me_Turned_take : Meth K L.Turned "take" L.a_Pile_take
  me_Turned_fill : Meth K L.Turned "fill" L.a_Pile_fill
  me_Turned_rise : Meth K L.Turned "rise" L.a_Pile_rise
  me_Turned_is_ahead_of_upper : Meth K L.Turned "is_ahead_of_upper" L.a_Pile_is_ahead_of_upper
  me_Turned_sink : Meth K L.Turned "sink" L.a_Pile_sink
  me_Turned_place_under : Meth K L.Turned "place_under" L.a_Pile_place_under
  me_Turned_lay : Meth K L.Turned "lay" L.a_Pile_lay
  mk_Midrow : Mk K L.Midrow L.a_Midrow___init__
  me_Midrow_many : Meth K L.Midrow "many" L.a_Midrow_many
  me_Midrow_put : Meth K L.Midrow "put" L.a_Midrow_put
  me_Midrow_take : Meth K L.Midrow "take" L.a_Midrow_take
  me_Midrow_number_of : Meth K L.Midrow "number_of" L.a_Midrow_number_of
  me_Midrow_oldest : Meth K L.Midrow "oldest" L.a_Midrow_oldest
  me_Midrow_share : Meth K L.Midrow "share" L.a_Midrow_share
  me_Midrow_piles : Meth K L.Midrow "piles" L.a_Midrow_piles
  me_Midrow_turn : Meth K L.Midrow "turn" L.a_Midrow_turn
  me_Midrow_pile_of : Meth K L.Midrow "pile_of" L.a_Midrow_pile_of
  me_Midrow_settle : Meth K L.Midrow "settle" L.a_Midrow_settle
def clsOf (L : Lk) (tn : Bool) : Addr := if tn = true then L.Turned else L.Pile
def okP (L : Lk) (C : Addr) : Prop := C = L.Pile \/ C = L.Turned
theorem clsOf_ok (L : Lk) (tn : Bool) : okP L (clsOf L tn) := by cases tn; exact .inl rfl; exact .inr rfl
structure Raw (L : Lk) (H : Hp) (p dx l d : Addr) (tn : Bool) (tot : Int) (us : List Th) (kvs : List (Key × V)) : Prop where
  hp : H p = some (.ins (clsOf L tn) dx [("held", .ref l), ("spots", .ref d), ("total", .int tot)])
  hx : H dx = some (.own p)
  hl : ∃ xs, H l = some (.lst xs) /\ Paired (kPair.R H) xs us
  hd : H d = some (.dK kvs)
theorem Raw.keep {L : Lk} {H H' : Hp} {p dx l d : Addr} {tn : Bool} {tot : Int} {us : List Th} {kvs : List (Key × V)} (R : Raw L H p dx l d tn tot us kvs) (h : ∀ b o, b ∈ [p, dx, l, d] -> H b = some o -> H' b = some o) (ht : ∀ b xs, H b = some (.tup xs) -> H' b = some (.tup xs)) : Raw L H' p dx l d tn tot us kvs := by
  obtain ⟨xs, h3, h4⟩ := R.hl
  exact ⟨h _ _ (by simp) R.hp, h _ _ (by simp) R.hx, ⟨xs, h _ _ (by simp) h3, pairs_keep ht h4⟩, h _ _ (by simp) R.hd⟩
section
variable {L : Lk} {H : Hp} {p dx l d : Addr} {tn : Bool} {tot : Int} {us : List Th} {kvs : List (Key × V)}
theorem fr_set {F : List Addr} {H : Hp} {b : Addr} {o u : HO} (hb : b ∈ F) (h : H b = some u) (hu : ∀ xs, u ≠ .tup xs) : Fr F F H (upd H b o) :=
  ⟨λ c v hc q => by rw [upd_ne (λ e => hc (by rw [e]; exact hb))]; exact q, λ c zs q => by rw [upd_ne (λ e => hu zs (by rw [e] at q; rw [h] at q; exact Option.some.inj q))]; exact q, λ c hc => .inl hc⟩
theorem Raw.setL (R : Raw L H p dx l d tn tot us kvs) {ys : List V} {us' : List Th} (hp : Paired (kPair.R H) ys us') : Raw L (upd H l (.lst ys)) p dx l d tn tot us' kvs /\ Fr [p, dx, l, d] [p, dx, l, d] H (upd H l (.lst ys)) := by
  obtain ⟨xs, h3, h4⟩ := R.hl
  have f : Fr [p, dx, l, d] [p, dx, l, d] H (upd H l (.lst ys)) := fr_set (by simp) h3 (by simp)
  refine ⟨⟨?_, ?_, ⟨ys, upd_same, pairs_keep f.tup hp⟩, ?_⟩, f⟩
  . rw [upd_ne (ne_of R.hp h3 (by simp))]; exact R.hp
  . rw [upd_ne (ne_of R.hx h3 (by simp))]; exact R.hx
  . rw [upd_ne (ne_of R.hd h3 (by simp))]; exact R.hd
theorem Raw.setD (R : Raw L H p dx l d tn tot us kvs) {kvs' : List (Key × V)} : Raw L (upd H d (.dK kvs')) p dx l d tn tot us kvs' /\ Fr [p, dx, l, d] [p, dx, l, d] H (upd H d (.dK kvs')) := by
  obtain ⟨xs, h3, h4⟩ := R.hl
  have f : Fr [p, dx, l, d] [p, dx, l, d] H (upd H d (.dK kvs')) := fr_set (by simp) R.hd (by simp)
  refine ⟨⟨?_, ?_, ⟨xs, ?_, pairs_keep f.tup h4⟩, upd_same⟩, f⟩
  . rw [upd_ne (ne_of R.hp R.hd (by simp))]; exact R.hp
  . rw [upd_ne (ne_of R.hx R.hd (by simp))]; exact R.hx
  . rw [upd_ne (ne_of h3 R.hd (by simp))]; exact h3
theorem Raw.setP (R : Raw L H p dx l d tn tot us kvs) {tot' : Int} : Raw L (upd H p (.ins (clsOf L tn) dx (putF "total" (.int tot') [("held", .ref l), ("spots", .ref d), ("total", .int tot)]))) p dx l d tn tot' us kvs /\ Fr [p, dx, l, d] [p, dx, l, d] H (upd H p (.ins (clsOf L tn) dx (putF "total" (.int tot') [("held", .ref l), ("spots", .ref d), ("total", .int tot)]))) := by
  obtain ⟨xs, h3, h4⟩ := R.hl
  have f : Fr [p, dx, l, d] [p, dx, l, d] H (upd H p (.ins (clsOf L tn) dx (putF "total" (.int tot') [("held", .ref l), ("spots", .ref d), ("total", .int tot)]))) := fr_set (by simp) R.hp (by simp)
  refine ⟨⟨by rw [upd_same]; rfl, ?_, ⟨xs, ?_, pairs_keep f.tup h4⟩, ?_⟩, f⟩
  . rw [upd_ne (ne_of R.hx R.hp (by simp))]; exact R.hx
  . rw [upd_ne (ne_of h3 R.hp (by simp))]; exact h3
  . rw [upd_ne (ne_of R.hd R.hp (by simp))]; exact R.hd
end
structure Rep (L : Lk) (H : Hp) (p : Addr) (tn : Bool) (F : List Addr) (ts : List Th) : Prop where
  ex : ∃ dx l d kvs, F = [p, dx, l, d] /\ Raw L H p dx l d tn (ts.map (·.1)).sum ts kvs /\ SpotsOk kvs ts
  form : Form (ahP tn) ts
  nod : (ts.map (·.2)).Nodup
theorem Rep.dom {L : Lk} {H : Hp} {p : Addr} {tn : Bool} {F : List Addr} {ts : List Th} (R : Rep L H p tn F ts) : ∀ b ∈ F, H b ≠ none := by
  obtain ⟨dx, l, d, kvs, rfl, h, _⟩ := R.ex
  obtain ⟨xs, h3, _⟩ := h.hl
  intro b hb
  simp only [List.mem_cons, List.not_mem_nil, or_false] at hb
  rcases hb with rfl | rfl | rfl | rfl
  . rw [h.hp]; simp
  . rw [h.hx]; simp
  . rw [h3]; simp
  . rw [h.hd]; simp
theorem Rep.keep {L : Lk} {H H' : Hp} {p : Addr} {tn : Bool} {F : List Addr} {ts : List Th} (R : Rep L H p tn F ts) (h : ∀ b o, b ∈ F -> H b = some o -> H' b = some o) (ht : ∀ b xs, H b = some (.tup xs) -> H' b = some (.tup xs)) : Rep L H' p tn F ts := by
  obtain ⟨dx, l, d, kvs, e, h1, h6⟩ := R.ex
  subst e
  exact ⟨⟨dx, l, d, kvs, rfl, h1.keep h ht, h6⟩, R.form, R.nod⟩
theorem Rep.same {L : Lk} {H H' : Hp} {p : Addr} {tn : Bool} {F : List Addr} {ts : List Th} (R : Rep L H p tn F ts) (s : Same H H') : Rep L H' p tn F ts := R.keep (λ b o _ q => s b o q) s.tup
def PlM (m : Str) : Prop := m ≠ "held" /\ m ≠ "spots" /\ m ≠ "total"
theorem Raw.at {L : Lk} {H : Hp} {p dx l d : Addr} {tn : Bool} {tot : Int} {us : List Th} {kvs : List (Key × V)} (R : Raw L H p dx l d tn tot us kvs) : ∃ fs, H p = some (.ins (clsOf L tn) dx fs) /\ ∀ m, PlM m -> fs.lookup m = none :=
  ⟨_, R.hp, λ m hm => by obtain ⟨a, b, c⟩ := hm; simp [List.lookup, beq_eq_false_iff_ne.mpr a, beq_eq_false_iff_ne.mpr b, beq_eq_false_iff_ne.mpr c]⟩
theorem Rep.at {L : Lk} {H : Hp} {p : Addr} {tn : Bool} {F : List Addr} {ts : List Th} (R : Rep L H p tn F ts) : ∃ dx fs, H p = some (.ins (clsOf L tn) dx fs) /\ ∀ m, PlM m -> fs.lookup m = none := by
  obtain ⟨dx, l, d, kvs, rfl, h1, _⟩ := R.ex
  obtain ⟨fs, h⟩ := h1.at
  exact ⟨_, fs, h⟩
def spPInit (L : Lk) : Sp := λ vs H Q _ => ∃ p dx tn, vs = [.ref p] /\ H p = some (.ins (clsOf L tn) dx []) /\ H dx = some (.own p) /\
  ∀ H' F, Rep L H' p tn F [] -> (∀ b o, b ≠ p -> H b = some o -> H' b = some o) -> (∀ b ∈ F, b = p \/ b = dx \/ H b = none) -> Q .non H'
def spAhead (L : Lk) (C : Addr) : Sp := λ vs H Q _ => ∃ p tn x y a b, C = clsOf L tn /\ vs = [.ref p, x, y] /\ kPair.R H x a /\ kPair.R H y b /\ Q (.bl (ahd tn a b)) H
def spMany (L : Lk) : Sp := λ vs H Q _ => ∃ p tn F ts, vs = [.ref p] /\ Rep L H p tn F ts /\ Q (.int (ts.length : Nat)) H
def spTold (L : Lk) : Sp := λ vs H Q _ => ∃ p tn F ts, vs = [.ref p] /\ Rep L H p tn F ts /\ ∀ H' l xs, Same H H' -> H l = none -> H' l = some (.lst xs) -> Paired (kPair.R H') xs ts -> Q (.ref l) H'
def spPut (L : Lk) : Sp := λ vs H Q E => ∃ p x t tn F ts, vs = [.ref p, x] /\ Rep L H p tn F ts /\ kPair.R H x t /\ ts.length < 1000 /\
  ((∃ u ∈ ts, u.2 = t.2) -> ∀ H', Same H H' -> E (.ref L.Twice) none H') /\
  ((∀ u ∈ ts, u.2 ≠ t.2) -> ∀ H' F' ts', Rep L H' p tn F' ts' -> Fr F F' H H' -> ts'.Perm (t :: ts) -> chg ts ts' <= bits ts.length -> Q .non H')
def spTake (L : Lk) : Sp := λ vs H Q E => ∃ p c tn F ts, vs = [.ref p, .int c] /\ Rep L H p tn F ts /\ ts.length < 1000 /\
  ((∀ u ∈ ts, u.2 ≠ c) -> ∀ H', Same H H' -> E (.ref L.NoThing) none H') /\
  (∀ t ∈ ts, t.2 = c -> ∀ H' F' ts' x, Rep L H' p tn F' ts' -> Fr F F' H H' -> ts.Perm (t :: ts') -> chg ts ts' <= bits ts.length -> kPair.R H' x t -> Q x H')
def spTop (L : Lk) : Sp := λ vs H Q E => ∃ p tn F ts, vs = [.ref p] /\ Rep L H p tn F ts /\ (ts = [] -> ∀ H', Same H H' -> E (.ref L.Empty) none H') /\ ∀ x t, ts[0]? = some t -> kPair.R H x t -> Q x H
def rfs (s : RSt) (pl ph nd : Addr) : List (Str × V) := [("part", .int s.part), ("whole", .int s.whole), ("low", .ref pl), ("high", .ref ph), ("numbers", .ref nd), ("last_coming", .int (s.came : Nat))]
structure RRaw (L : Lk) (H : Hp) (r dx pl ph nd : Addr) (Fl Fh : List Addr) (s : RSt) (kvs : List (Key × V)) : Prop where
  hr : H r = some (.ins L.Midrow dx (rfs s pl ph nd))
  hx : H dx = some (.own r)
  hn : H nd = some (.dK kvs)
  lo : Rep L H pl true Fl s.lo
  hi : Rep L H ph false Fh s.hi
  dj : ∀ b ∈ Fl, b ∉ Fh
  nl : ∀ b ∈ Fl, b ≠ r /\ b ≠ dx /\ b ≠ nd
  nh : ∀ b ∈ Fh, b ≠ r /\ b ≠ dx /\ b ≠ nd
abbrev RF (r dx nd : Addr) (Fl Fh : List Addr) : List Addr := r :: dx :: nd :: (Fl ++ Fh)
def RRep (L : Lk) (H : Hp) (r : Addr) (F : List Addr) (s : RSt) : Prop := ∃ dx pl ph nd Fl Fh kvs, F = RF r dx nd Fl Fh /\ RRaw L H r dx pl ph nd Fl Fh s kvs /\ NumOk kvs s.all /\ ROk s
section
variable {L : Lk} {H H' : Hp} {r dx pl ph nd : Addr} {Fl Fh Fl' Fh' : List Addr} {s s' : RSt} {kvs kvs' : List (Key × V)}
theorem RRep.ok {F : List Addr} (R : RRep L H r F s) : ROk s := by
  obtain ⟨_, _, _, _, _, _, _, _, _, _, O⟩ := R
  exact O
theorem RRaw.dom (R : RRaw L H r dx pl ph nd Fl Fh s kvs) : ∀ b ∈ RF r dx nd Fl Fh, H b ≠ none := λ b hb => by
  simp only [List.mem_cons, List.mem_append] at hb
  rcases hb with rfl | rfl | rfl | hb | hb
  . rw [R.hr]; simp
  . rw [R.hx]; simp
  . rw [R.hn]; simp
  . exact R.lo.dom b hb
  . exact R.hi.dom b hb
theorem RRep.dom {F : List Addr} (R : RRep L H r F s) : ∀ b ∈ F, H b ≠ none := by
  obtain ⟨_, _, _, _, _, _, _, rfl, R, _⟩ := R
  exact R.dom
theorem RRaw.keep (R : RRaw L H r dx pl ph nd Fl Fh s kvs) (h : ∀ b o, b ∈ RF r dx nd Fl Fh -> H b = some o -> H' b = some o) (ht : ∀ b xs, H b = some (.tup xs) -> H' b = some (.tup xs)) : RRaw L H' r dx pl ph nd Fl Fh s kvs :=
  ⟨h _ _ (by simp) R.hr, h _ _ (by simp) R.hx, h _ _ (by simp) R.hn, R.lo.keep (λ b o hb => h b o (by simp [hb])) ht, R.hi.keep (λ b o hb => h b o (by simp [hb])) ht, R.dj, R.nl, R.nh⟩
theorem RRep.keep {F : List Addr} (R : RRep L H r F s) (h : ∀ b o, b ∈ F -> H b = some o -> H' b = some o) (ht : ∀ b xs, H b = some (.tup xs) -> H' b = some (.tup xs)) : RRep L H' r F s := by
  obtain ⟨dx, pl, ph, nd, Fl, Fh, kvs, rfl, R, N, O⟩ := R
  exact ⟨dx, pl, ph, nd, Fl, Fh, kvs, rfl, R.keep h ht, N, O⟩
theorem RRaw.low {lo' : List Th} (R : RRaw L H r dx pl ph nd Fl Fh s kvs) (P : Rep L H' pl true Fl' lo') (f : Fr Fl Fl' H H') : RRaw L H' r dx pl ph nd Fl' Fh { s with lo := lo' } kvs /\ Fr (RF r dx nd Fl Fh) (RF r dx nd Fl' Fh) H H' := by
  have n1 : r ∉ Fl := λ z => (R.nl r z).1 rfl
  have n2 : dx ∉ Fl := λ z => (R.nl dx z).2.1 rfl
  have n3 : nd ∉ Fl := λ z => (R.nl nd z).2.2 rfl
  refine ⟨⟨f.keep _ _ n1 R.hr, f.keep _ _ n2 R.hx, f.keep _ _ n3 R.hn, P, R.hi.keep (λ b o hb h => f.keep b o (λ z => R.dj b z hb) h) f.tup, λ b hb hb2 => ?_, λ b hb => ?_, R.nh⟩, ⟨λ b o hb h => f.keep b o (λ z => hb (by simp [z])) h, f.tup, λ b hb => ?_⟩⟩
  . rcases f.grow b hb with z | z
    . exact R.dj b z hb2
    . exact R.hi.dom b hb2 z
  . rcases f.grow b hb with z | z
    . exact R.nl b z
    . exact ⟨λ e => (by rw [e, R.hr] at z; cases z), λ e => (by rw [e, R.hx] at z; cases z), λ e => (by rw [e, R.hn] at z; cases z)⟩
  . simp only [List.mem_cons, List.mem_append] at hb ⊢
    rcases hb with z | z | z | z | z
    . exact .inl (.inl z)
    . exact .inl (.inr (.inl z))
    . exact .inl (.inr (.inr (.inl z)))
    . rcases f.grow b z with y | y
      . exact .inl (.inr (.inr (.inr (.inl y))))
      . exact .inr y
    . exact .inl (.inr (.inr (.inr (.inr z))))
theorem RRaw.high {hi' : List Th} (R : RRaw L H r dx pl ph nd Fl Fh s kvs) (P : Rep L H' ph false Fh' hi') (f : Fr Fh Fh' H H') : RRaw L H' r dx pl ph nd Fl Fh' { s with hi := hi' } kvs /\ Fr (RF r dx nd Fl Fh) (RF r dx nd Fl Fh') H H' := by
  have n1 : r ∉ Fh := λ z => (R.nh r z).1 rfl
  have n2 : dx ∉ Fh := λ z => (R.nh dx z).2.1 rfl
  have n3 : nd ∉ Fh := λ z => (R.nh nd z).2.2 rfl
  refine ⟨⟨f.keep _ _ n1 R.hr, f.keep _ _ n2 R.hx, f.keep _ _ n3 R.hn, R.lo.keep (λ b o hb h => f.keep b o (λ z => R.dj b hb z) h) f.tup, P, λ b hb hb2 => ?_, R.nl, λ b hb => ?_⟩, ⟨λ b o hb h => f.keep b o (λ z => hb (by simp [z])) h, f.tup, λ b hb => ?_⟩⟩
  . rcases f.grow b hb2 with z | z
    . exact R.dj b hb z
    . exact R.lo.dom b hb z
  . rcases f.grow b hb with z | z
    . exact R.nh b z
    . exact ⟨λ e => (by rw [e, R.hr] at z; cases z), λ e => (by rw [e, R.hx] at z; cases z), λ e => (by rw [e, R.hn] at z; cases z)⟩
  . simp only [List.mem_cons, List.mem_append] at hb ⊢
    rcases hb with z | z | z | z | z
    . exact .inl (.inl z)
    . exact .inl (.inr (.inl z))
    . exact .inl (.inr (.inr (.inl z)))
    . exact .inl (.inr (.inr (.inr (.inl z))))
    . rcases f.grow b z with y | y
      . exact .inl (.inr (.inr (.inr (.inr y))))
      . exact .inr y
theorem RRaw.setN (R : RRaw L H r dx pl ph nd Fl Fh s kvs) : RRaw L (upd H nd (.dK kvs')) r dx pl ph nd Fl Fh s kvs' /\ Fr (RF r dx nd Fl Fh) (RF r dx nd Fl Fh) H (upd H nd (.dK kvs')) := by
  have f : Fr (RF r dx nd Fl Fh) (RF r dx nd Fl Fh) H (upd H nd (.dK kvs')) := fr_set (by simp) R.hn (by simp)
  refine ⟨⟨?_, ?_, upd_same, R.lo.keep (λ b o hb h => ?_) f.tup, R.hi.keep (λ b o hb h => ?_) f.tup, R.dj, R.nl, R.nh⟩, f⟩
  . rw [upd_ne (ne_of R.hr R.hn (by simp))]; exact R.hr
  . rw [upd_ne (ne_of R.hx R.hn (by simp))]; exact R.hx
  . rw [upd_ne (R.nl b hb).2.2]; exact h
  . rw [upd_ne (R.nh b hb).2.2]; exact h
theorem RRaw.setR (R : RRaw L H r dx pl ph nd Fl Fh s kvs) (e1 : s'.lo = s.lo) (e2 : s'.hi = s.hi) : RRaw L (upd H r (.ins L.Midrow dx (rfs s' pl ph nd))) r dx pl ph nd Fl Fh s' kvs /\ Fr (RF r dx nd Fl Fh) (RF r dx nd Fl Fh) H (upd H r (.ins L.Midrow dx (rfs s' pl ph nd))) := by
  have f : Fr (RF r dx nd Fl Fh) (RF r dx nd Fl Fh) H (upd H r (.ins L.Midrow dx (rfs s' pl ph nd))) := fr_set (by simp) R.hr (by simp)
  refine ⟨⟨upd_same, ?_, ?_, ?_, ?_, R.dj, R.nl, R.nh⟩, f⟩
  . rw [upd_ne (ne_of R.hx R.hr (by simp))]; exact R.hx
  . rw [upd_ne (ne_of R.hn R.hr (by simp))]; exact R.hn
  . rw [e1]; exact R.lo.keep (λ b o hb h => by rw [upd_ne (R.nl b hb).1]; exact h) f.tup
  . rw [e2]; exact R.hi.keep (λ b o hb h => by rw [upd_ne (R.nh b hb).1]; exact h) f.tup
def RwM (m : Str) : Prop := m ≠ "part" /\ m ≠ "whole" /\ m ≠ "low" /\ m ≠ "high" /\ m ≠ "numbers" /\ m ≠ "last_coming"
theorem RRaw.at (R : RRaw L H r dx pl ph nd Fl Fh s kvs) : ∃ fs, H r = some (.ins L.Midrow dx fs) /\ ∀ m, RwM m -> fs.lookup m = none :=
  ⟨_, R.hr, λ m hm => by
    obtain ⟨a, b, c, d, e, f⟩ := hm
    simp [rfs, List.lookup, beq_eq_false_iff_ne.mpr a, beq_eq_false_iff_ne.mpr b, beq_eq_false_iff_ne.mpr c, beq_eq_false_iff_ne.mpr d, beq_eq_false_iff_ne.mpr e, beq_eq_false_iff_ne.mpr f]⟩
theorem RRep.at {F : List Addr} (R : RRep L H r F s) : ∃ dx fs, H r = some (.ins L.Midrow dx fs) /\ ∀ m, RwM m -> fs.lookup m = none := by
  obtain ⟨dx, pl, ph, nd, Fl, Fh, kvs, rfl, R, N, O⟩ := R
  obtain ⟨fs, h⟩ := R.at
  exact ⟨dx, fs, h⟩
def okR (L : Lk) (C : Addr) : Prop := C = L.Midrow
end
section
variable {P : Program} {w : World} {K : PySem.W.Frag} {mg : Str -> Option Value} {base : Heap} {L : Lk}
theorem cl_of (T : Txt K mg L) (tn : Bool) : Cls K (clsOf L tn) := by cases tn; exact T.cl_Pile; exact T.cl_Turned
theorem na_held (T : Txt K mg L) (tn : Bool) : NoAttr K (clsOf L tn) "held" := by cases tn; exact T.na_Pile_held; exact T.na_Turned_held
theorem na_spots (T : Txt K mg L) (tn : Bool) : NoAttr K (clsOf L tn) "spots" := by cases tn; exact T.na_Pile_spots; exact T.na_Turned_spots
theorem na_total (T : Txt K mg L) (tn : Bool) : NoAttr K (clsOf L tn) "total" := by cases tn; exact T.na_Pile_total; exact T.na_Turned_total
theorem ok_Pile___init__ (T : Txt K mg L) : FnOk P w K mg base (CXE P w) 2 L.a_Pile___init__ L.d_Pile___init__ ["self"] (spPInit L) := by
  refine T.f_Pile___init__.ok0 sc_Pile___init__ (λ vs H Q E h => ?_) (λ cdv A outer s H vs Q E hr h => ?_)
  . obtain ⟨p, dx, tn, rfl, _⟩ := h
    rfl
  . obtain ⟨p, dx, tn, rfl, hp, hx, q⟩ := h
    refine ⟨_, (pss_cons (ps_fldK K (pv 0) (pe_lst pa_nil) rfl)
      (pss_cons (ps_fldK K (pv 0) pe_dnewK rfl)
      (pss_one (ps_fldK K (pv 0) pe_int rfl)))), ?_⟩
    refine rd_start (σ := [some _]) rfl ?_
    wtm_at "rd"
    refine ⟨by decide, λ l hl => ?_⟩
    have npl : p ≠ l := ne_of_none hp hl
    have nxl : dx ≠ l := ne_of_none hx hl
    have nxp : dx ≠ p := ne_of hx hp (by simp)
    wtm_at "rd"
    refine ⟨_, _, _, _, rfl, by rw [upd_ne npl]; exact hp, cl_of T tn, na_held T tn, by decide, ?_⟩
    wtm_at "rd"
    intro d hd
    have npd : p ≠ d := ne_of_none upd_same hd
    rw [upd_ne (Ne.symm npd)] at hd
    have nld : l ≠ d := ne_of_none upd_same hd
    rw [upd_ne (Ne.symm nld)] at hd
    have nxd : dx ≠ d := ne_of_none hx hd
    wtm_at "rd"
    refine ⟨_, _, _, _, rfl, (upd_ne npd).trans upd_same, cl_of T tn, na_spots T tn, (by decide : (1 : Nat) < 1000), ?_⟩
    wtm_at "rd"
    refine ⟨_, _, _, _, rfl, upd_same, cl_of T tn, na_total T tn, (by decide : (2 : Nat) < 1000), ?_⟩
    refine q _ [p, dx, l, d] ⟨⟨dx, l, d, [], rfl, ⟨by rw [upd_same]; rfl, ?_, ⟨[], ?_, .nil⟩, ?_⟩, ⟨.nil, λ _ h => (by cases h), λ i t h => (by cases h)⟩⟩, λ k hk a b h => (by cases h), .nil⟩ (λ b o hb h => ?_) λ b hb => ?_
    . rw [upd_ne nxp, upd_ne nxp, upd_ne nxd, upd_ne nxp, upd_ne nxl]; exact hx
    . rw [upd_ne (Ne.symm npl), upd_ne (Ne.symm npl), upd_ne nld, upd_ne (Ne.symm npl)]; exact upd_same
    . rw [upd_ne (Ne.symm npd), upd_ne (Ne.symm npd)]; exact upd_same
    . have n1 := ne_of_none h hl
      have n2 := ne_of_none h hd
      rw [upd_ne hb, upd_ne hb, upd_ne n2, upd_ne hb, upd_ne n1]; exact h
    . simp only [List.mem_cons, List.not_mem_nil, or_false] at hb
      rcases hb with rfl | rfl | rfl | rfl
      . exact .inl rfl
      . exact .inr (.inl rfl)
      . exact .inr (.inr hl)
      . exact .inr (.inr hd)
def spAh (tn : Bool) : Sp := λ vs H Q _ => ∃ p x y a b, vs = [.ref p, x, y] /\ kPair.R H x a /\ kPair.R H y b /\ Q (.bl (ahd tn a b)) H
theorem ok_Pile_ahead (T : Txt K mg L) : FnOk P w K mg base (CXE P w) 2 L.a_Pile_ahead L.d_Pile_ahead ["self", "one", "other"] (spAh false) := by
  refine T.f_Pile_ahead.ok0 sc_Pile_ahead (λ vs H Q E h => ?_) (λ cdv A outer s H vs Q E hr h => ?_)
  . obtain ⟨p, x, y, a, b, rfl, _⟩ := h
    rfl
  . obtain ⟨p, x, y, a, b, rfl, hx, hy, q⟩ := h
    refine ⟨_, (pss_one (ps_ret (pe_cmpR (op_ltTK K (hu_0 hr)) (pv 1) (pv 2) (nomark _)))), ?_⟩
    refine rd_start (σ := [some _, some _, some _]) rfl ?_
    wtm_at "rd"
    exact rd_ltP hx hy q
theorem ok_Turned_ahead (T : Txt K mg L) : FnOk P w K mg base (CXE P w) 2 L.a_Turned_ahead L.d_Turned_ahead ["self", "one", "other"] (spAh true) := by
  refine T.f_Turned_ahead.ok0 sc_Turned_ahead (λ vs H Q E h => ?_) (λ cdv A outer s H vs Q E hr h => ?_)
  . obtain ⟨p, x, y, a, b, rfl, _⟩ := h
    rfl
  . obtain ⟨p, x, y, a, b, rfl, hx, hy, q⟩ := h
    refine ⟨_, (pss_one (ps_ret (pe_cmpR (op_ltTK K (hu_0 hr)) (pv 2) (pv 1) (nomark _)))), ?_⟩
    refine rd_start (σ := [some _, some _, some _]) rfl ?_
    wtm_at "rd"
    exact rd_ltP hy hx q
theorem mo_pile_ahead (T : Txt K mg L) : ∀ C, okP L C -> MOk P w K mg base (CXE P w) 2 C "ahead" ["self", "one", "other"] [] (spAhead L C) := by
  rintro C (rfl | rfl)
  . refine ⟨_, _, T.cl_Pile, T.me_Pile_ahead, (ok_Pile_ahead T).imp ?_, T.b_Pile_ahead⟩
    rintro vs H Q E ⟨p, tn, x, y, a, b, e, h⟩
    cases tn
    . exact ⟨p, x, y, a, b, h⟩
    . exact absurd e T.ne_Pile_Turned
  . refine ⟨_, _, T.cl_Turned, T.me_Turned_ahead, (ok_Turned_ahead T).imp ?_, T.b_Turned_ahead⟩
    rintro vs H Q E ⟨p, tn, x, y, a, b, e, h⟩
    cases tn
    . exact absurd e.symm T.ne_Pile_Turned
    . exact ⟨p, x, y, a, b, h⟩
def spLay (L : Lk) : Sp := λ vs H Q _ => ∃ p x k t tn dx l d tot us kvs, vs = [.ref p, x, .int (k : Nat)] /\ Raw L H p dx l d tn tot us kvs /\ k < us.length /\ kvs.length < sizeLine /\ kPair.R H x t /\
  ∀ H', Raw L H' p dx l d tn tot (us.set k t) (putK kvs (.inl t.2) (.int (k : Nat))) -> Fr [p, dx, l, d] [p, dx, l, d] H H' -> Q .non H'
theorem ok_Pile_lay (T : Txt K mg L) : FnOk P w K mg base (CXE P w) 2 L.a_Pile_lay L.d_Pile_lay ["self", "thing", "at"] (spLay L) := by
  refine T.f_Pile_lay.ok0 sc_Pile_lay (λ vs H Q E h => ?_) (λ cdv A outer s H vs Q E hr h => ?_)
  . obtain ⟨p, x, k, t, tn, dx, l, d, tot, us, kvs, rfl, _⟩ := h
    rfl
  . obtain ⟨p, x, k, t, tn, dx, l, d, tot, us, kvs, rfl, R, hk, hz, hx, q⟩ := h
    refine ⟨_, (pss_cons (ps_asg (pv 1) (pg_sub (pe_fldK K (pv 0) rfl) (pv 2) set_list))
      (pss_one (ps_dput (hu_of hr) (pe_fldK K (pv 0) rfl) (pe_ix (ix_tupK K) (pv 1) pe_int (λ _ _ => rfl)) (pv 2) rfl))), ?_⟩
    refine rd_start (σ := [some _, some _, some _]) rfl ?_
    obtain ⟨xs, h3, h4⟩ := R.hl
    have lx := h4.len
    have h1 := R.hp
    have h5 := R.hd
    have nld : l ≠ d := ne_of h3 h5 (by simp)
    have npl : p ≠ l := ne_of h1 h3 (by simp)
    have npd : p ≠ d := ne_of h1 h5 (by simp)
    have nxl : dx ≠ l := ne_of R.hx h3 (by simp)
    have nxd : dx ≠ d := ne_of R.hx h5 (by simp)
    have h5' : upd H l (.lst (xs.set k x)) d = some (.dK kvs) := by rw [upd_ne (Ne.symm nld)]; exact h5
    have t' : ∀ b zs, H b = some (.tup zs) -> upd H l (.lst (xs.set k x)) b = some (.tup zs) := λ b zs hb => by rw [upd_ne (ne_of hb h3 (by simp))]; exact hb
    wtm_at "rd"
    refine ⟨_, _, _, _, _, rfl, h1, cl_of T tn, na_held T tn, rfl, ?_⟩
    wtm_at "rd"
    refine ⟨l, xs, _, k, rfl, rfl, h3, ?_, ?_⟩
    . unfold ixN; simp; omega
    wtm_at "rd"
    refine ⟨_, _, _, _, _, rfl, by rw [upd_ne npl]; exact h1, cl_of T tn, na_spots T tn, rfl, ?_⟩
    wtm_at "rd"
    refine rd_ixP1 (pairs_tup t' hx) ?_
    refine ⟨d, _, rfl, DPut.k (k := .inl t.2) h5' hz, q _ ⟨?_, ?_, ⟨xs.set k x, ?_, ?_⟩, upd_same⟩ ⟨λ b o hb ho => ?_, λ b zs hb => ?_, λ b hb => .inl hb⟩⟩
    . rw [upd_ne npd, upd_ne npl]; exact h1
    . rw [upd_ne nxd, upd_ne nxl]; exact R.hx
    . rw [upd_ne nld]; exact upd_same
    . refine pairs_keep (H := H) (λ b zs hb => ?_) (Paired.set k h4 hx)
      rw [upd_ne (ne_of hb h5 (by simp))]; exact t' b zs hb
    . simp only [List.mem_cons, List.not_mem_nil, or_false, not_or] at hb
      rw [upd_ne hb.2.2.2, upd_ne hb.2.2.1]; exact ho
    . rw [upd_ne (ne_of hb h5 (by simp))]; exact t' b zs hb
theorem mo_of (T : Txt K mg L) {n : Nat} {m : Str} {f : Addr} {fd : FuncData} {ps : List Str} {sp : Sp} (h : FnOk P w K mg base (CXE P w) n f fd ps sp) (b : Binds K fd ps []) (m1 : Meth K L.Pile m f) (m2 : Meth K L.Turned m f) : ∀ C, okP L C -> MOk P w K mg base (CXE P w) n C m ps [] sp := by
  rintro C (rfl | rfl)
  . exact ⟨_, _, T.cl_Pile, m1, h, b⟩
  . exact ⟨_, _, T.cl_Turned, m2, h, b⟩
theorem mo_pile_lay (T : Txt K mg L) : ∀ C, okP L C -> MOk P w K mg base (CXE P w) 2 C "lay" ["self", "thing", "at"] [] (spLay L) := mo_of T (ok_Pile_lay T) T.b_Pile_lay T.me_Pile_lay T.me_Turned_lay
theorem use_raw {H : Hp} {p dx l d : Addr} {tn : Bool} {tot : Int} {us : List Th} {kvs : List (Key × V)} {m : Str} {G : Addr -> Prop} (R : Raw L H p dx l d tn tot us kvs) (hm : PlM m) (q : G (clsOf L tn)) : ∃ a C dx fs, V.ref p = V.ref a /\ H a = some (.ins C dx fs) /\ okP L C /\ fs.lookup m = none /\ G C := by
  obtain ⟨fs, hp, h⟩ := R.at
  exact ⟨p, _, dx, fs, rfl, hp, clsOf_ok L tn, h m hm, q⟩
theorem rd_rix {H : Hp} {Q : VK} {p dx l d : Addr} {tn : Bool} {tot : Int} {us : List Th} {kvs : List (Key × V)} {u : Th} {i : Nat} (R : Raw L H p dx l d tn tot us kvs) (hi : us[i]? = some u) (q : ∀ x, kPair.R H x u -> Q x H) : rIxL K (.ref l) (.int (i : Nat)) H Q := by
  obtain ⟨xs, h3, h4⟩ := R.hl
  exact rd_ixLP (SqL.of h3) h4 hi q
def spUpper (L : Lk) : Sp := λ vs H Q _ => ∃ p x k t tn dx l d tot us kvs, vs = [.ref p, x, .int (k : Nat)] /\ Raw L H p dx l d tn tot us kvs /\ kPair.R H x t /\ k < us.length /\
  (k = 0 -> Q (.bl false) H) /\ ∀ u, 0 < k -> us[(k - 1) / 2]? = some u -> Q (.bl (ahd tn t u)) H
theorem ok_Pile_is_ahead_of_upper (T : Txt K mg L) : FnOk P w K mg base (CXE P w) 4 L.a_Pile_is_ahead_of_upper L.d_Pile_is_ahead_of_upper ["self", "thing", "at"] (spUpper L) := by
  refine T.f_Pile_is_ahead_of_upper.ok0 sc_Pile_is_ahead_of_upper (λ vs H Q E h => ?_) (λ cdv A outer s H vs Q E hr h => ?_)
  . obtain ⟨p, x, k, t, tn, dx, l, d, tot, us, kvs, rfl, _⟩ := h
    rfl
  . obtain ⟨p, x, k, t, tn, dx, l, d, tot, us, kvs, rfl, R, hx, hk, q0, q1⟩ := h
    refine ⟨_, (pss_one (ps_ret (pe_and (pe_cmpR op_gt (pv 2) pe_int (nomark _)) (pe_one (pe_methD (pv 0) (mo_pile_ahead (K := K) T) (hr.mono (by decide)) .nil pass0X (pa_cons (pv 1) (pa_cons (pe_ix (ix_listK K) (pe_fldK K (pv 0) rfl) (pe_op op_fdivB (pe_op op_sub (pv 2) pe_int) pe_int) (λ _ _ => rfl)) pa_nil))))))), ?_⟩
    refine rd_start (σ := [some _, some _, some _]) rfl ?_
    wtm_at "rd"
    . have hk' : (0 : Nat) < k := by omega
      have gi : (k - 1) / 2 < us.length := by omega
      refine use_raw R ⟨by decide, by decide, by decide⟩ ?_
      wtm_at "rd"
      refine ⟨_, _, _, _, _, rfl, R.hp, cl_of T tn, na_held T tn, rfl, ?_⟩
      wtm_at "rd"
      rw [show ((k : Int) - 1) / 2 = (((k - 1) / 2 : Nat) : Int) by omega]
      refine rd_rix R (List.getElem?_eq_getElem gi) λ y hy => ?_
      wtm_at "rd"
      exact ⟨p, tn, x, y, _, _, rfl, rfl, hx, hy, q1 _ hk' (List.getElem?_eq_getElem gi)⟩
    . exact q0 (by omega)
theorem mo_pile_is_ahead_of_upper (T : Txt K mg L) : ∀ C, okP L C -> MOk P w K mg base (CXE P w) 4 C "is_ahead_of_upper" ["self", "thing", "at"] [] (spUpper L) := mo_of T (ok_Pile_is_ahead_of_upper T) T.b_Pile_is_ahead_of_upper T.me_Pile_is_ahead_of_upper T.me_Turned_is_ahead_of_upper
theorem use_lay {H : Hp} {p dx l d : Addr} {x : V} {k : Nat} {t : Th} {tn : Bool} {tot : Int} {us : List Th} {kvs : List (Key × V)} {Q : VK} {E : XK} (R : Raw L H p dx l d tn tot us kvs) (hx : kPair.R H x t) (hk : k < us.length) (hz : us.length < 2000)
    (S : SpotsAt kvs (us.set k t) k) (nd : ((us.set k t).map (·.2)).Nodup) (ht : tot = ((us.set k t).map (·.1)).sum) (hF : Form (ahP tn) (us.set k t))
    (q : ∀ H', Rep L H' p tn [p, dx, l, d] (us.set k t) -> Fr [p, dx, l, d] [p, dx, l, d] H H' -> Q .non H') : spLay L (.ref p :: ([x, .int (k : Nat)] ++ [])) H Q E := by
  have ln := S.len
  rw [List.length_set] at ln
  have z2 : (2000 : Nat) < sizeLine := by decide
  refine ⟨p, x, k, t, tn, dx, l, d, tot, us, kvs, rfl, R, hk, by omega, hx, λ H' R' f' => q H' ⟨⟨dx, l, d, _, rfl, ?_, S.lay nd (List.getElem?_set_self hk)⟩, hF, nd⟩ f'⟩
  rw [<- ht]; exact R'
def spRise (L : Lk) : Sp := λ vs H Q _ => ∃ p x k t tn dx l d tot us kvs, vs = [.ref p, x, .int (k : Nat)] /\ Raw L H p dx l d tn tot us kvs /\ kPair.R H x t /\ k < us.length /\ us.length < 2000 /\
  Up (ahP tn) (us.set k t) k /\ SpotsAt kvs (us.set k t) k /\ ((us.set k t).map (·.2)).Nodup /\ tot = ((us.set k t).map (·.1)).sum /\
  ∀ H' ts', Rep L H' p tn [p, dx, l, d] ts' -> Fr [p, dx, l, d] [p, dx, l, d] H H' -> ts'.Perm (us.set k t) -> (∀ i a b, (us.set k t)[i]? = some a -> ts'[i]? = some b -> a ≠ b -> i ∈ path k) -> Q .non H'
theorem ok_Pile_rise (T : Txt K mg L) : FnOk P w K mg base (CXE P w) 6 L.a_Pile_rise L.d_Pile_rise ["self", "thing", "at"] (spRise L) := by
  refine T.f_Pile_rise.ok0 sc_Pile_rise (λ vs H Q E h => ?_) (λ cdv A outer s H vs Q E hr h => ?_)
  . obtain ⟨p, x, k, t, tn, dx, l, d, tot, us, kvs, rfl, _⟩ := h
    rfl
  . obtain ⟨p, x, k0, t, tn, dx, l, d, tot, us0, kvs0, rfl, R0, hx0, hk0, hz, hU0, hS0, hN0, hT0, q⟩ := h
    refine ⟨_, (pss_cons (ps_while PassesOwn.never (pt_val (pe_methD (pv 0) (mo_pile_is_ahead_of_upper (K := K) T) (hr.mono (by decide)) .nil pass0X (pa_cons (pv 1) (pa_cons (pv 2) pa_nil)))) (pss_cons (ps_set (i := 3) sc_Pile_rise.nd rfl (Or.inl rfl) (pe_op op_fdivB (pe_op op_sub (pv 2) pe_int) pe_int))
      (pss_cons (ps_expr (pe_methD (pv 0) (mo_pile_lay (K := K) T) (hr.mono (by decide)) .nil pass0X (pa_cons (pe_ix (ix_listK K) (pe_fldK K (pv 0) rfl) (pv 3) (λ _ _ => rfl)) (pa_cons (pv 2) pa_nil))))
      (pss_one (ps_set (i := 2) sc_Pile_rise.nd rfl (Or.inl rfl) (pv 3))))))
      (pss_one (ps_expr (pe_methD (pv 0) (mo_pile_lay (K := K) T) (hr.mono (by decide)) .nil pass0X (pa_cons (pv 1) (pa_cons (pv 2) pa_nil)))))), ?_⟩
    refine rd_start (σ := [some _, some _, some _, none]) rfl ?_
    have O := ahP_ord tn
    wtm_at "rd"
    refine rd_while (λ m σ' H' => ∃ k us kvs o, m = k /\ σ' = [some (.ref p), some x, some (.int (k : Nat)), o] /\ Raw L H' p dx l d tn tot us kvs /\ k < us.length /\ us.length = us0.length /\ Fr [p, dx, l, d] [p, dx, l, d] H H' /\
      Up (ahP tn) (us.set k t) k /\ SpotsAt kvs (us.set k t) k /\ (us.set k t).Perm (us0.set k0 t) /\ (∀ i ∈ path k, i ∈ path k0) /\ ∀ i a b, (us0.set k0 t)[i]? = some a -> (us.set k t)[i]? = some b -> a ≠ b -> i ∈ path k0)
      k0 ⟨k0, us0, kvs0, _, rfl, rfl, R0, hk0, rfl, .of_same (Same.refl _), hU0, hS0, .refl _, λ _ h => h, λ i a b ha hb hn => ?_⟩ ?_
    . rw [ha] at hb; cases hb; exact absurd rfl hn
    rintro m _ H1 ⟨k, us, kvs, o, rfl, rfl, R, hk, hlen, fr, hU, hS, hP, hpa, hch⟩
    have hx := pairs_tup fr.tup hx0
    have hN := nod_perm hP hN0
    have gk : (us.set m t)[m]? = some t := List.getElem?_set_self hk
    have hlv : (us.set m t).length = us.length := List.length_set
    wtm_at "rd"
    refine use_raw R ⟨by decide, by decide, by decide⟩ ?_
    wtm_at "rd"
    refine ⟨p, x, m, t, tn, dx, l, d, tot, us, kvs, rfl, R, hx, hk, λ e0 => ⟨_, rfl, iteF ?_⟩, λ u hm hu => ?_⟩
    . wtm_at "rd"
      refine use_raw R ⟨by decide, by decide, by decide⟩ ?_
      wtm_at "rd"
      refine use_lay R hx hk (by omega) hS hN (hT0.trans (sum_perm hP).symm) (hU.form λ h => absurd h (by omega)) λ H' R' f' => ?_
      exact q H' _ R' (fr.trans f') hP hch
    . have hu' : (us.set m t)[(m - 1) / 2]? = some u := by rw [List.getElem?_set_ne (by omega)]; exact hu
      cases e : ahd tn t u with
      | false =>
        refine ⟨_, rfl, iteF ?_⟩
        wtm_at "rd"
        refine use_raw R ⟨by decide, by decide, by decide⟩ ?_
        wtm_at "rd"
        refine use_lay R hx hk (by omega) hS hN (hT0.trans (sum_perm hP).symm) (hU.form λ h a b ha hb => ?_) λ H' R' f' => ?_
        . rw [gk] at ha; cases ha
          rw [hu'] at hb; cases hb
          intro z; unfold ahP at z; rw [e] at z; cases z
        . exact q H' _ R' (fr.trans f') hP hch
      | true =>
        refine ⟨_, rfl, iteT ⟨_, λ _ _ h => h, ?_⟩⟩
        wtm_at "rd"
        refine use_raw R ⟨by decide, by decide, by decide⟩ ?_
        wtm_at "rd"
        refine ⟨_, _, _, _, _, rfl, R.hp, cl_of T tn, na_held T tn, rfl, ?_⟩
        wtm_at "rd"
        rw [show ((m : Int) - 1) / 2 = (((m - 1) / 2 : Nat) : Int) by omega]
        refine rd_rix R hu λ y hy => ?_
        wtm_at "rd"
        have ln := hS.len
        have z2 : (2000 : Nat) < sizeLine := by decide
        refine ⟨p, y, m, u, tn, dx, l, d, tot, us, kvs, rfl, R, hk, by omega, hy, λ H' R' f' => ?_⟩
        wtm_at "rd"
        have hsw : (us.set m u).set ((m - 1) / 2) t = swap (us.set m t) m ((m - 1) / 2) t u := by
          unfold swap; rw [List.set_set]
        refine ⟨(m - 1) / 2, by omega, (m - 1) / 2, us.set m u, _, _, rfl, rfl, R', ?_, ?_, fr.trans f', ?_⟩
        . rw [List.length_set]; omega
        . rw [List.length_set]; exact hlen
        rw [hsw]
        refine ⟨hU.step O hm gk hu' e, hS.move hN gk hu' (by omega), (swap_perm gk hu' (by omega)).trans hP, λ i hi => hpa i (path_up hm hi), λ i a b ha hb hn => ?_⟩
        rw [swap_get gk hu'] at hb
        by_cases e1 : i = (m - 1) / 2
        . rw [e1]; exact hpa _ (path_up hm (path_self _))
        . rw [if_neg e1] at hb
          by_cases e2 : i = m
          . rw [e2]; exact hpa _ (path_self _)
          . rw [if_neg e2] at hb
            exact hch i a b ha hb hn
theorem mo_pile_rise (T : Txt K mg L) : ∀ C, okP L C -> MOk P w K mg base (CXE P w) 6 C "rise" ["self", "thing", "at"] [] (spRise L) := mo_of T (ok_Pile_rise T) T.b_Pile_rise T.me_Pile_rise T.me_Turned_rise
theorem ok_Pile_put (T : Txt K mg L) : FnOk P w K mg base (CXE P w) 10 L.a_Pile_put L.d_Pile_put ["self", "thing"] (spPut L) := by
  refine T.f_Pile_put.okX sc_Pile_put (λ vs H Q E h => ?_) (λ cdv A outer s H vs Q E hr h => ?_)
  . obtain ⟨p, x, t, tn, F, ts, rfl, _⟩ := h
    rfl
  . obtain ⟨p, x, t, tn, F, ts, rfl, R, hx, hlen, qE, q⟩ := h
    refine ⟨_, (pss_cons (ps_if (pt_cmp (pc_din (hu_of hr) (pe_ix (ix_tupK K) (pv 1) pe_int (λ _ _ => rfl)) (pe_fldK K (pv 0) rfl))) (pss_one (ps_raise1 T.x_Twice T.m_Twice (by rfl) pe_str)) pss_nil)
      (pss_cons (ps_expr (pe_bmK K PySem.F.plainAttrs_list PySem.F.slot_list_append PySem.F.type_list_append mt_append (pe_fldK K (pv 0) rfl) (pa_cons (pv 1) pa_nil)))
      (pss_cons (ps_fldaugK K (pv 0) (pe_ix (ix_tupK K) (pv 1) pe_int (λ _ _ => rfl)) in_add)
      (pss_one (ps_expr (pe_methD (pv 0) (mo_pile_rise (K := K) T) (hr.mono (by decide)) .nil pass0X (pa_cons (pv 1) (pa_cons (pe_op op_sub (pe_callB (call_lenK K) (by rfl) T.z_len bt_len (pa_cons (pe_fldK K (pv 0) rfl) pa_nil)) pe_int) pa_nil)))))))), ?_⟩
    refine rd_start (σ := [some _, some _]) rfl ?_
    obtain ⟨dx, l, d, kvs, rfl, R1, S⟩ := R.ex
    wtm_at "rd"
    refine rd_ixP1 hx ?_
    wtm_at "rd"
    refine ⟨_, _, _, _, _, rfl, R1.hp, cl_of T tn, na_spots T tn, rfl, ?_⟩
    wtm_at "rd"
    refine ⟨d, _, rfl, DGet.k (k := .inl t.2) R1.hd, ?_⟩
    wtm_at "rd"
    by_cases hh : ∃ u ∈ ts, u.2 = t.2
    . obtain ⟨u, hu, eu⟩ := hh
      obtain ⟨i, _, hv⟩ := S.has hu
      rw [eu] at hv
      rw [hv]
      refine iteT ?_
      wtm_at "rd"
      exact qE ⟨u, hu, eu⟩ _ (Same.refl _)
    . have hf : ∀ u ∈ ts, u.2 ≠ t.2 := λ u hu e => hh ⟨u, hu, e⟩
      rw [S.hasNot hf]
      refine iteF ?_
      wtm_at "rd"
      obtain ⟨xs, h3, h4⟩ := R1.hl
      have lx := h4.len
      have z2 : (2000 : Nat) < sizeLine := by decide
      refine ⟨_, _, _, _, _, rfl, R1.hp, cl_of T tn, na_held T tn, rfl, ?_⟩
      wtm_at "rd"
      refine ⟨.inl ⟨rfl, _, SqL.of h3⟩, ?_⟩
      wtm_at "rd"
      refine ⟨l, xs, x, rfl, rfl, h3, by omega, ?_⟩
      obtain ⟨R2, f2⟩ := R1.setL (h4.app (.cons hx .nil))
      have hx2 := pairs_tup f2.tup hx
      generalize L2.upd H l (.lst (xs ++ [x])) = H2 at *
      wtm_at "rd"
      refine ⟨_, _, _, _, _, rfl, R2.hp, cl_of T tn, na_total T tn, rfl, ?_⟩
      wtm_at "rd"
      refine rd_ixP0 hx2 ?_
      wtm_at "rd"
      refine ⟨_, _, R2.hp, (by decide : (3 : Nat) < 1000), ?_⟩
      obtain ⟨R3, f3⟩ := R2.setP (tot' := (ts.map (·.1)).sum + t.1)
      have hx3 := pairs_tup f3.tup hx2
      generalize L2.upd H2 p _ = H3 at *
      wtm_at "rd"
      refine use_raw R3 ⟨by decide, by decide, by decide⟩ ?_
      wtm_at "rd"
      refine ⟨_, _, _, _, _, rfl, R3.hp, cl_of T tn, na_held T tn, rfl, ?_⟩
      wtm_at "rd"
      obtain ⟨ys, g3, g4⟩ := R3.hl
      have ly := g4.len
      rw [List.length_append, List.length_singleton] at ly
      refine rd_lenL (SqL.of g3) ?_
      wtm_at "rd"
      rw [show ((ys.length : Nat) : Int) - 1 = ((ts.length : Nat) : Int) by omega]
      have es : (ts ++ [t]).set ts.length t = ts ++ [t] := set_same (by simp)
      have nd : ((ts ++ [t]).map (·.2)).Nodup := by
        rw [List.map_append]
        exact nd_snoc R.nod λ z => by
          obtain ⟨u, hu, e⟩ := List.mem_map.mp z
          exact hf u hu e
      refine ⟨p, x, ts.length, t, tn, dx, l, d, _, ts ++ [t], kvs, rfl, R3, hx3, by simp, by simp; omega, ?_⟩
      rw [es]
      refine ⟨R.form.push t, S.push t, nd, by simp, λ H' ts' R' f' hp hc => ?_⟩
      exact q hf H' _ ts' R' (f2.trans (f3.trans f')) (hp.trans (List.perm_append_singleton _ _)) (chg_put hc)
theorem mo_pile_put (T : Txt K mg L) : ∀ C, okP L C -> MOk P w K mg base (CXE P w) 10 C "put" ["self", "thing"] [] (spPut L) := mo_of T (ok_Pile_put T) T.b_Pile_put T.me_Pile_put T.me_Turned_put
def UV (tn : Bool) (us : List Th) (k : Nat) (v : V) : Prop := (v = .non /\ us.length <= 2 * k + 1) \/ ∃ (c : Nat) (b : Th), v = .int (c : Nat) /\ 0 < c /\ (c - 1) / 2 = k /\ us[c]? = some b /\ ∀ j d, 0 < j -> (j - 1) / 2 = k -> us[j]? = some d -> ¬ ahP tn d b
def spUnder (L : Lk) : Sp := λ vs H Q _ => ∃ p k tn dx l d tot us kvs, vs = [.ref p, .int (k : Nat)] /\ Raw L H p dx l d tn tot us kvs /\ us.length < 2000 /\ k < us.length /\ ∀ v, UV tn us k v -> Q v H
theorem ok_Pile_place_under (T : Txt K mg L) : FnOk P w K mg base (CXE P w) 4 L.a_Pile_place_under L.d_Pile_place_under ["self", "at"] (spUnder L) := by
  refine T.f_Pile_place_under.ok0 sc_Pile_place_under (λ vs H Q E h => ?_) (λ cdv A outer s H vs Q E hr h => ?_)
  . obtain ⟨p, k, tn, dx, l, d, tot, us, kvs, rfl, _⟩ := h
    rfl
  . obtain ⟨p, k, tn, dx, l, d, tot, us, kvs, rfl, R, hz, hk, q⟩ := h
    refine ⟨_, (pss_cons (ps_set (i := 2) sc_Pile_place_under.nd rfl (Or.inl rfl) (pe_op op_add (pe_op op_mulB pe_int (pv 1)) pe_int))
      (pss_cons (ps_set (i := 3) sc_Pile_place_under.nd rfl (Or.inl rfl) (pe_op op_add (pv 2) pe_int))
      (pss_cons (ps_if (pt_cmpR op_ge (pv 2) (pe_callB (call_lenK K) (by rfl) T.z_len bt_len (pa_cons (pe_fldK K (pv 0) rfl) pa_nil)) (nomark _)) (pss_one (ps_ret pe_non)) pss_nil)
      (pss_cons (ps_if (PW.pt (pw_and (pt_cmpR op_lt (pv 3) (pe_callB (call_lenK K) (by rfl) T.z_len bt_len (pa_cons (pe_fldK K (pv 0) rfl) pa_nil)) (nomark _)) (pw_and1 (pt_val (pe_methD (pv 0) (mo_pile_ahead (K := K) T) (hr.mono (by decide)) .nil pass0X (pa_cons (pe_ix (ix_listK K) (pe_fldK K (pv 0) rfl) (pv 3) (λ _ _ => rfl)) (pa_cons (pe_ix (ix_listK K) (pe_fldK K (pv 0) rfl) (pv 2) (λ _ _ => rfl)) pa_nil))))))) (pss_one (ps_ret (pv 3))) pss_nil)
      (pss_one (ps_ret (pv 2))))))), ?_⟩
    refine rd_start (σ := [some _, some _, none, none]) rfl ?_
    obtain ⟨xs, h3, h4⟩ := R.hl
    have lx := h4.len
    have O := ahP_ord tn
    wtm_at "rd"
    refine ⟨_, _, _, _, _, rfl, R.hp, cl_of T tn, na_held T tn, rfl, ?_⟩
    wtm_at "rd"
    refine rd_lenL (SqL.of h3) ?_
    wtm_at "rd"
    . exact q _ (.inl ⟨rfl, by omega⟩)
    . rename_i hlt
      have gl : us[2 * k + 1]? = some _ := List.getElem?_eq_getElem (by omega)
      generalize us[2 * k + 1]'(by omega) = a at gl
      refine ⟨_, _, _, _, _, rfl, R.hp, cl_of T tn, na_held T tn, rfl, ?_⟩
      wtm_at "rd"
      refine rd_lenL (SqL.of h3) ?_
      wtm_at "rd"
      . have gr : us[2 * k + 2]? = some _ := List.getElem?_eq_getElem (by omega)
        generalize us[2 * k + 2]'(by omega) = b at gr
        have two : ∀ j c, 0 < j -> (j - 1) / 2 = k -> us[j]? = some c -> c = a \/ c = b := λ j c hj e hc => by
          have : j = 2 * k + 1 \/ j = 2 * k + 2 := by omega
          rcases this with rfl | rfl
          . rw [gl] at hc; cases hc; exact .inl rfl
          . rw [gr] at hc; cases hc; exact .inr rfl
        refine use_raw R ⟨by decide, by decide, by decide⟩ ?_
        wtm_at "rd"
        refine ⟨_, _, _, _, _, rfl, R.hp, cl_of T tn, na_held T tn, rfl, ?_⟩
        wtm_at "rd"
        rw [show (2 * (k : Int) + 1 + 1) = ((2 * k + 2 : Nat) : Int) by omega, show (2 * (k : Int) + 1) = ((2 * k + 1 : Nat) : Int) by omega]
        refine rd_rix R gr λ y hy => ?_
        wtm_at "rd"
        refine ⟨_, _, _, _, _, rfl, R.hp, cl_of T tn, na_held T tn, rfl, ?_⟩
        wtm_at "rd"
        refine rd_rix R gl λ x hx => ?_
        wtm_at "rd"
        refine ⟨p, tn, y, x, b, a, rfl, rfl, hy, hx, ⟨_, rfl, ?_⟩⟩
        cases e : ahd tn b a with
        | true =>
          refine iteT ?_
          wtm_at "rd"
          refine q _ (.inr ⟨2 * k + 2, b, rfl, by omega, by omega, gr, λ j c hj ej hc => ?_⟩)
          rcases two j c hj ej hc with rfl | rfl
          . exact O.asym e
          . exact O.irr _
        | false =>
          refine iteF ?_
          wtm_at "rd"
          refine q _ (.inr ⟨2 * k + 1, a, rfl, by omega, by omega, gl, λ j c hj ej hc => ?_⟩)
          rcases two j c hj ej hc with rfl | rfl
          . exact O.irr _
          . unfold ahP; rw [e]; simp
      . rw [show (2 * (k : Int) + 1) = ((2 * k + 1 : Nat) : Int) by omega]
        refine q _ (.inr ⟨2 * k + 1, a, rfl, by omega, by omega, gl, λ j c hj ej hc => ?_⟩)
        have hj2 : j < us.length := (List.getElem?_eq_some_iff.mp hc).1
        have : j = 2 * k + 1 := by omega
        rw [this, gl] at hc; cases hc
        exact O.irr _
theorem mo_pile_place_under (T : Txt K mg L) : ∀ C, okP L C -> MOk P w K mg base (CXE P w) 4 C "place_under" ["self", "at"] [] (spUnder L) := mo_of T (ok_Pile_place_under T) T.b_Pile_place_under T.me_Pile_place_under T.me_Turned_place_under
def spSink (L : Lk) : Sp := λ vs H Q _ => ∃ p x k t tn dx l d tot us kvs, vs = [.ref p, x, .int (k : Nat)] /\ Raw L H p dx l d tn tot us kvs /\ kPair.R H x t /\ k < us.length /\ us.length < 2000 /\
  Down (ahP tn) (us.set k t) k /\ SpotsAt kvs (us.set k t) k /\ ((us.set k t).map (·.2)).Nodup /\ tot = ((us.set k t).map (·.1)).sum /\
  ∀ H' ts' e, Rep L H' p tn [p, dx, l, d] ts' -> Fr [p, dx, l, d] [p, dx, l, d] H H' -> ts'.Perm (us.set k t) -> e < us.length -> k ∈ path e -> (∀ i a b, (us.set k t)[i]? = some a -> ts'[i]? = some b -> a ≠ b -> i ∈ path e) -> Q .non H'
theorem ok_Pile_sink (T : Txt K mg L) : FnOk P w K mg base (CXE P w) 6 L.a_Pile_sink L.d_Pile_sink ["self", "thing", "at"] (spSink L) := by
  refine T.f_Pile_sink.ok0 sc_Pile_sink (λ vs H Q E h => ?_) (λ cdv A outer s H vs Q E hr h => ?_)
  . obtain ⟨p, x, k, t, tn, dx, l, d, tot, us, kvs, rfl, _⟩ := h
    rfl
  . obtain ⟨p, x, k0, t, tn, dx, l, d, tot, us0, kvs0, rfl, R0, hx0, hk0, hz, hU0, hS0, hN0, hT0, q⟩ := h
    refine ⟨_, (pss_cons (ps_set (i := 3) sc_Pile_sink.nd rfl (Or.inl rfl) (pe_methD (pv 0) (mo_pile_place_under (K := K) T) (hr.mono (by decide)) .nil pass0X (pa_cons (pv 2) pa_nil)))
      (pss_cons (ps_while PassesOwn.never (PW.pt (pw_and (pt_cmpR op_notN (pv 3) pe_non (nomark _)) (pw_and1 (pt_val (pe_methD (pv 0) (mo_pile_ahead (K := K) T) (hr.mono (by decide)) .nil pass0X (pa_cons (pe_ix (ix_listK K) (pe_fldK K (pv 0) rfl) (pv 3) (λ _ _ => rfl)) (pa_cons (pv 1) pa_nil))))))) (pss_cons (ps_expr (pe_methD (pv 0) (mo_pile_lay (K := K) T) (hr.mono (by decide)) .nil pass0X (pa_cons (pe_ix (ix_listK K) (pe_fldK K (pv 0) rfl) (pv 3) (λ _ _ => rfl)) (pa_cons (pv 2) pa_nil))))
      (pss_cons (ps_set (i := 2) sc_Pile_sink.nd rfl (Or.inl rfl) (pv 3))
      (pss_one (ps_set (i := 3) sc_Pile_sink.nd rfl (Or.inl rfl) (pe_methD (pv 0) (mo_pile_place_under (K := K) T) (hr.mono (by decide)) .nil pass0X (pa_cons (pv 2) pa_nil)))))))
      (pss_one (ps_expr (pe_methD (pv 0) (mo_pile_lay (K := K) T) (hr.mono (by decide)) .nil pass0X (pa_cons (pv 1) (pa_cons (pv 2) pa_nil))))))), ?_⟩
    refine rd_start (σ := [some _, some _, some _, none]) rfl ?_
    have O := ahP_ord tn
    wtm_at "rd"
    refine use_raw R0 ⟨by decide, by decide, by decide⟩ ?_
    wtm_at "rd"
    refine ⟨p, k0, tn, dx, l, d, tot, us0, kvs0, rfl, R0, hz, hk0, λ v0 hv0 => ?_⟩
    wtm_at "rd"
    refine rd_while (λ m σ' H' => ∃ k us kvs v, m = us0.length - k /\ σ' = [some (.ref p), some x, some (.int (k : Nat)), some v] /\ Raw L H' p dx l d tn tot us kvs /\ UV tn us k v /\ k < us.length /\ us.length = us0.length /\ Fr [p, dx, l, d] [p, dx, l, d] H H' /\
      Down (ahP tn) (us.set k t) k /\ SpotsAt kvs (us.set k t) k /\ (us.set k t).Perm (us0.set k0 t) /\ k0 ∈ path k /\ ∀ i a b, (us0.set k0 t)[i]? = some a -> (us.set k t)[i]? = some b -> a ≠ b -> i ∈ path k)
      (us0.length - k0) ⟨k0, us0, kvs0, _, rfl, rfl, R0, hv0, hk0, rfl, .of_same (Same.refl _), hU0, hS0, .refl _, path_self _, λ i a b ha hb hn => ?_⟩ ?_
    . rw [ha] at hb; cases hb; exact absurd rfl hn
    rintro m _ H1 ⟨k, us, kvs, v, rfl, rfl, R, hv, hk, hlen, fr, hU, hS, hP, hpa, hch⟩
    have hx := pairs_tup fr.tup hx0
    have hN := nod_perm hP hN0
    have gk : (us.set k t)[k]? = some t := List.getElem?_set_self hk
    have hlv : (us.set k t).length = us.length := List.length_set
    wtm_at "rd"
    have fin : Form (ahP tn) (us.set k t) -> spLay L (.ref p :: ([x, .int (k : Nat)] ++ [])) H1 (λ v H' => Q .non H') E0 := λ hF =>
      use_lay R hx hk (by omega) hS hN (hT0.trans (sum_perm hP).symm) hF λ H' R' f' => q H' _ k R' (fr.trans f') hP (by omega) hpa hch
    rcases hv with ⟨rfl, hend⟩ | ⟨c, b, rfl, hc0, hck, gb, best⟩
    . refine ⟨rfl, _, rfl, iteF (iteF ?_)⟩
      wtm_at "rd"
      refine use_raw R ⟨by decide, by decide, by decide⟩ ?_
      wtm_at "rd"
      refine fin (hU.form λ j hj e a b ha hb => ?_)
      have : j < (us.set k t).length := (List.getElem?_eq_some_iff.mp ha).1
      omega
    . have hb' : (us.set k t)[c]? = some b := by rw [List.getElem?_set_ne (by omega)]; exact gb
      have hcl : c < us.length := (List.getElem?_eq_some_iff.mp gb).1
      have best' : ∀ j d, 0 < j -> (j - 1) / 2 = k -> (us.set k t)[j]? = some d -> ¬ ahP tn d b := λ j d hj e hd => by
        rw [List.getElem?_set_ne (by omega)] at hd
        exact best j d hj e hd
      refine ⟨rfl, _, rfl, iteT ?_⟩
      wtm_at "rd"
      refine use_raw R ⟨by decide, by decide, by decide⟩ ?_
      wtm_at "rd"
      refine ⟨_, _, _, _, _, rfl, R.hp, cl_of T tn, na_held T tn, rfl, ?_⟩
      wtm_at "rd"
      refine rd_rix R gb λ y hy => ?_
      wtm_at "rd"
      refine ⟨p, tn, y, x, b, t, rfl, rfl, hy, hx, ⟨_, rfl, ?_⟩⟩
      cases e : ahd tn b t with
      | false =>
        refine iteF ?_
        wtm_at "rd"
        refine use_raw R ⟨by decide, by decide, by decide⟩ ?_
        wtm_at "rd"
        refine fin (hU.form λ j hj ej a a2 ha ha2 => ?_)
        rw [ej, gk] at ha2; cases ha2
        refine O.ntr (best' j a hj ej ha) (λ z => ?_)
        unfold ahP at z; rw [e] at z; cases z
      | true =>
        refine iteT ⟨_, λ _ _ h => h, ?_⟩
        wtm_at "rd"
        refine use_raw R ⟨by decide, by decide, by decide⟩ ?_
        wtm_at "rd"
        refine ⟨_, _, _, _, _, rfl, R.hp, cl_of T tn, na_held T tn, rfl, ?_⟩
        wtm_at "rd"
        refine rd_rix R gb λ y2 hy2 => ?_
        wtm_at "rd"
        have ln := hS.len
        have z2 : (2000 : Nat) < sizeLine := by decide
        refine ⟨p, y2, k, b, tn, dx, l, d, tot, us, kvs, rfl, R, hk, by omega, hy2, λ H' R' f' => ?_⟩
        wtm_at "rd"
        refine use_raw R' ⟨by decide, by decide, by decide⟩ ?_
        wtm_at "rd"
        refine ⟨p, c, tn, dx, l, d, tot, _, _, rfl, R', by rw [List.length_set]; omega, by rw [List.length_set]; omega, λ v2 hv2 => ?_⟩
        wtm_at "rd"
        have hsw : (us.set k b).set c t = swap (us.set k t) k c t b := by
          unfold swap; rw [List.set_set]
        refine ⟨us0.length - c, by omega, c, us.set k b, _, _, rfl, rfl, R', hv2, ?_, ?_, fr.trans f', ?_⟩
        . rw [List.length_set]; omega
        . rw [List.length_set]; exact hlen
        rw [hsw]
        have up : ∀ i ∈ path k, i ∈ path c := λ i hi => path_up hc0 (by rw [hck]; exact hi)
        refine ⟨hU.step O hc0 hck gk hb' e best', hS.move hN gk hb' (by omega), (swap_perm gk hb' (by omega)).trans hP, up _ hpa, λ i a a2 ha ha2 hn => ?_⟩
        rw [swap_get gk hb'] at ha2
        by_cases e1 : i = c
        . rw [e1]; exact path_self _
        . rw [if_neg e1] at ha2
          by_cases e2 : i = k
          . rw [e2]; exact up _ (path_self _)
          . rw [if_neg e2] at ha2
            exact up _ (hch i a a2 ha ha2 hn)
theorem mo_pile_sink (T : Txt K mg L) : ∀ C, okP L C -> MOk P w K mg base (CXE P w) 6 C "sink" ["self", "thing", "at"] [] (spSink L) := mo_of T (ok_Pile_sink T) T.b_Pile_sink T.me_Pile_sink T.me_Turned_sink
def spFill (L : Lk) : Sp := λ vs H Q _ => ∃ p x k t tn dx l d tot us kvs, vs = [.ref p, x, .int (k : Nat)] /\ Raw L H p dx l d tn tot us kvs /\ kPair.R H x t /\ k < us.length /\ us.length < 2000 /\
  Hole (ahP tn) (us.set k t) k /\ SpotsAt kvs (us.set k t) k /\ ((us.set k t).map (·.2)).Nodup /\ tot = ((us.set k t).map (·.1)).sum /\
  ∀ H' ts' e, Rep L H' p tn [p, dx, l, d] ts' -> Fr [p, dx, l, d] [p, dx, l, d] H H' -> ts'.Perm (us.set k t) -> e < us.length -> k ∈ path e -> (∀ i a b, (us.set k t)[i]? = some a -> ts'[i]? = some b -> a ≠ b -> i ∈ path e) -> Q .non H'
theorem ok_Pile_fill (T : Txt K mg L) : FnOk P w K mg base (CXE P w) 8 L.a_Pile_fill L.d_Pile_fill ["self", "thing", "at"] (spFill L) := by
  refine T.f_Pile_fill.ok0 sc_Pile_fill (λ vs H Q E h => ?_) (λ cdv A outer s H vs Q E hr h => ?_)
  . obtain ⟨p, x, k, t, tn, dx, l, d, tot, us, kvs, rfl, _⟩ := h
    rfl
  . obtain ⟨p, x, k, t, tn, dx, l, d, tot, us, kvs, rfl, R, hx, hk, hz, hU, hS, hN, hT, q⟩ := h
    refine ⟨_, (pss_one (ps_if (pt_val (pe_methD (pv 0) (mo_pile_is_ahead_of_upper (K := K) T) (hr.mono (by decide)) .nil pass0X (pa_cons (pv 1) (pa_cons (pv 2) pa_nil)))) (pss_one (ps_expr (pe_methD (pv 0) (mo_pile_rise (K := K) T) (hr.mono (by decide)) .nil pass0X (pa_cons (pv 1) (pa_cons (pv 2) pa_nil))))) (pss_one (ps_expr (pe_methD (pv 0) (mo_pile_sink (K := K) T) (hr.mono (by decide)) .nil pass0X (pa_cons (pv 1) (pa_cons (pv 2) pa_nil))))))), ?_⟩
    refine rd_start (σ := [some _, some _, some _]) rfl ?_
    have O := ahP_ord tn
    have gk : (us.set k t)[k]? = some t := List.getElem?_set_self hk
    wtm_at "rd"
    refine use_raw R ⟨by decide, by decide, by decide⟩ ?_
    wtm_at "rd"
    refine ⟨p, x, k, t, tn, dx, l, d, tot, us, kvs, rfl, R, hx, hk, λ e0 => ⟨_, rfl, iteF ?_⟩, λ u hm hu => ⟨_, rfl, ?_⟩⟩
    . wtm_at "rd"
      refine use_raw R ⟨by decide, by decide, by decide⟩ ?_
      wtm_at "rd"
      exact ⟨p, x, k, t, tn, dx, l, d, tot, us, kvs, rfl, R, hx, hk, hz, hU.down (λ h => absurd h (by omega)), hS, hN, hT, q⟩
    . have hu' : (us.set k t)[(k - 1) / 2]? = some u := by rw [List.getElem?_set_ne (by omega)]; exact hu
      cases e : ahd tn t u with
      | true =>
        refine iteT ?_
        wtm_at "rd"
        refine use_raw R ⟨by decide, by decide, by decide⟩ ?_
        wtm_at "rd"
        exact ⟨p, x, k, t, tn, dx, l, d, tot, us, kvs, rfl, R, hx, hk, hz, hU.up O gk hu' hm e, hS, hN, hT, λ H' ts' R' f' hp hc => q H' ts' k R' f' hp hk (path_self _) hc⟩
      | false =>
        refine iteF ?_
        wtm_at "rd"
        refine use_raw R ⟨by decide, by decide, by decide⟩ ?_
        wtm_at "rd"
        refine ⟨p, x, k, t, tn, dx, l, d, tot, us, kvs, rfl, R, hx, hk, hz, hU.down (λ _ a b ha hb => ?_), hS, hN, hT, q⟩
        rw [gk] at ha; cases ha
        rw [hu'] at hb; cases hb
        unfold ahP; rw [e]; simp
theorem mo_pile_fill (T : Txt K mg L) : ∀ C, okP L C -> MOk P w K mg base (CXE P w) 8 C "fill" ["self", "thing", "at"] [] (spFill L) := mo_of T (ok_Pile_fill T) T.b_Pile_fill T.me_Pile_fill T.me_Turned_fill
theorem ok_Pile_take (T : Txt K mg L) : FnOk P w K mg base (CXE P w) 10 L.a_Pile_take L.d_Pile_take ["self", "coming"] (spTake L) := by
  refine T.f_Pile_take.okX sc_Pile_take (λ vs H Q E h => ?_) (λ cdv A outer s H vs Q E hr h => ?_)
  . obtain ⟨p, c, tn, F, ts, rfl, _⟩ := h
    rfl
  . obtain ⟨p, c, tn, F, ts, rfl, R, hlen, qE, q⟩ := h
    refine ⟨_, (pss_cons (ps_if (pt_cmp (pc_dnotin (hu_of hr) (pv 1) (pe_fldK K (pv 0) rfl))) (pss_one (ps_raise1 T.x_NoThing T.m_NoThing (by rfl) pe_str)) pss_nil)
      (pss_cons (ps_set (i := 2) sc_Pile_take.nd rfl (Or.inl rfl) (pe_dpop1 (pe_fldK K (pv 0) rfl) (pv 1) ⟨rfl, rfl, rfl, rfl⟩))
      (pss_cons (ps_set (i := 3) sc_Pile_take.nd rfl (Or.inl rfl) (pe_ix (ix_listK K) (pe_fldK K (pv 0) rfl) (pv 2) (λ _ _ => rfl)))
      (pss_cons (ps_fldaugK K (pv 0) (pe_ix (ix_tupK K) (pv 3) pe_int (λ _ _ => rfl)) in_sub)
      (pss_cons (ps_set (i := 4) sc_Pile_take.nd rfl (Or.inl rfl) (pe_bm0K K PySem.F.plainAttrs_list PySem.F.slot_list_pop PySem.F.type_list_pop mt_pop (pe_fldK K (pv 0) rfl)))
      (pss_join (ps_if (pt_cmpR op_lt (pv 2) (pe_callB (call_lenK K) (by rfl) T.z_len bt_len (pa_cons (pe_fldK K (pv 0) rfl) pa_nil)) (nomark _)) (pss_one (ps_expr (pe_methD (pv 0) (mo_pile_fill (K := K) T) (hr.mono (by decide)) .nil pass0X (pa_cons (pv 4) (pa_cons (pv 2) pa_nil))))) pss_nil)
      (pss_one (ps_ret (pv 3))))))))), ?_⟩
    refine rd_start (σ := [some _, some _, none, none, none]) rfl ?_
    obtain ⟨dx, l, d, kvs, rfl, R1, S⟩ := R.ex
    wtm_at "rd"
    refine ⟨_, _, _, _, _, rfl, R1.hp, cl_of T tn, na_spots T tn, rfl, ?_⟩
    wtm_at "rd"
    refine ⟨d, _, rfl, DGet.k (k := .inl c) R1.hd, ?_⟩
    wtm_at "rd"
    by_cases hh : ∀ u ∈ ts, u.2 ≠ c
    . rw [S.hasNot hh]
      wtm_at "rd"
      exact qE hh _ (Same.refl _)
    . have hh : ∃ t ∈ ts, t.2 = c := by
        by_cases z : ∃ t ∈ ts, t.2 = c
        . exact z
        . exact absurd (λ u hu e => z ⟨u, hu, e⟩) hh
      obtain ⟨t, ht, rfl⟩ := hh
      obtain ⟨k, hk, hv⟩ := S.has ht
      have hkl : k < ts.length := (List.getElem?_eq_some_iff.mp hk).1
      rw [hv]
      wtm_at "rd"
      refine iteF ?_
      wtm_at "rd"
      refine ⟨_, _, _, _, _, rfl, R1.hp, cl_of T tn, na_spots T tn, rfl, ?_⟩
      refine ⟨d, rfl, .inl ⟨_, .inl R1.hd⟩, ?_⟩
      wtm_at "rd"
      refine ⟨kvs, .inl t.2, _, R1.hd, rfl, hv, ?_⟩
      obtain ⟨R2, f2⟩ := R1.setD (kvs' := dropK kvs (.inl t.2))
      generalize L2.upd H d _ = H2 at *
      wtm_at "rd"
      refine ⟨_, _, _, _, _, rfl, R2.hp, cl_of T tn, na_held T tn, rfl, ?_⟩
      wtm_at "rd"
      refine rd_rix R2 hk λ x hx => ?_
      wtm_at "rd"
      refine ⟨_, _, _, _, _, rfl, R2.hp, cl_of T tn, na_total T tn, rfl, ?_⟩
      wtm_at "rd"
      refine rd_ixP0 hx ?_
      wtm_at "rd"
      refine ⟨_, _, R2.hp, (by decide : (3 : Nat) < 1000), ?_⟩
      obtain ⟨R3, f3⟩ := R2.setP (tot' := (ts.map (·.1)).sum - t.1)
      have hx3 := pairs_tup f3.tup hx
      generalize L2.upd H2 p _ = H3 at *
      wtm_at "rd"
      refine ⟨_, _, _, _, _, rfl, R3.hp, cl_of T tn, na_held T tn, rfl, ?_⟩
      obtain ⟨xs, h3, h4⟩ := R3.hl
      have lx := h4.len
      refine ⟨.inl ⟨rfl, _, SqL.of h3⟩, ?_⟩
      have gu : ts[ts.length - 1]? = some _ := List.getElem?_eq_getElem (by omega)
      generalize ts[ts.length - 1]'(by omega) = u at gu
      obtain ⟨y, gy, hy⟩ := h4.get' gu
      refine ⟨l, xs, y, rfl, rfl, h3, by rw [lx]; exact gy, ?_⟩
      obtain ⟨R4, f4⟩ := R3.setL (Paired.dropLast h4)
      have hx4 := pairs_tup f4.tup hx3
      have hy4 := pairs_tup f4.tup hy
      have F4 := f2.trans (f3.trans f4)
      generalize L2.upd H3 l _ = H4 at *
      have ld : ts.dropLast.length = ts.length - 1 := List.length_dropLast
      have gd : ∀ i, i < ts.length - 1 -> ts.dropLast[i]? = ts[i]? := λ i hi => by rw [List.getElem?_dropLast, if_pos hi]
      wtm_at "rd"
      refine rd_join (λ σ' H' => ∃ ts' y', σ' = [some (.ref p), some (.int t.2), some (.int (k : Nat)), some x, some y'] /\ Rep L H' p tn [p, dx, l, d] ts' /\ Fr [p, dx, l, d] [p, dx, l, d] H H' /\ ts.Perm (t :: ts') /\ chg ts ts' <= bits ts.length /\ kPair.R H' x t) ?_ ?_
      . wtm_at "rd"
        refine ⟨_, _, _, _, _, rfl, R4.hp, cl_of T tn, na_held T tn, rfl, ?_⟩
        wtm_at "rd"
        obtain ⟨ys, g3, g4⟩ := R4.hl
        have ly := g4.len
        refine rd_lenL (SqL.of g3) ?_
        wtm_at "rd"
        . have hkn : k < ts.length - 1 := by omega
          refine use_raw R4 ⟨by decide, by decide, by decide⟩ ?_
          wtm_at "rd"
          have pm := take_perm hk gu hkn
          have nd : ((ts.dropLast.set k u).map (·.2)).Nodup := by
            have := nod_perm pm.symm R.nod
            rw [List.map_cons] at this
            exact (List.nodup_cons.mp this).2
          refine ⟨p, y, k, u, tn, dx, l, d, _, ts.dropLast, _, rfl, R4, hy4, by omega, by omega, (R.form.pop).put (ahP_ord tn) k u, S.take R.nod hk gu hkn, nd, ?_, λ H' ts' e R' f' hp he hke hch => ?_⟩
          . rw [sum_perm pm, List.map_cons, List.sum_cons]; omega
          . wtm_at "rd"
            refine ⟨ts', y, rfl, R', F4.trans f', pm.trans (hp.symm.cons t), chg_takeP (e := e) (by omega) λ i a b ha hb hn => ?_, pairs_tup f'.tup hx4⟩
            by_cases ei : i = k
            . rw [ei]; exact hke
            . refine hch i a b ?_ hb hn
              have hi : i < ts'.length := (List.getElem?_eq_some_iff.mp hb).1
              have hl' := hp.length_eq
              rw [List.length_set] at hl'
              rw [List.getElem?_set_ne (Ne.symm ei), gd i (by omega)]
              exact ha
        . have hkn : k = ts.length - 1 := by omega
          have gt : ts[ts.length - 1]? = some t := by rw [<- hkn]; exact hk
          have pm := last_perm gt
          have nd : (ts.dropLast.map (·.2)).Nodup := by
            have := nod_perm pm.symm R.nod
            rw [List.map_cons] at this
            exact (List.nodup_cons.mp this).2
          refine ⟨ts.dropLast, y, rfl, ⟨⟨dx, l, d, _, rfl, ?_, S.takeLast R.nod gt⟩, R.form.pop, nd⟩, F4, pm, chg_takeP (e := k) hkl λ i a b ha hb hn => ?_, hx4⟩
          . have : (ts.dropLast.map (·.1)).sum = (ts.map (·.1)).sum - t.1 := by rw [sum_perm pm, List.map_cons, List.sum_cons]; omega
            rw [this]; exact R4
          . have hi : i < ts.dropLast.length := (List.getElem?_eq_some_iff.mp hb).1
            rw [gd i (by omega), ha] at hb
            cases hb
            exact absurd rfl hn
      . rintro _ H' ⟨ts', y', rfl, R', f', pm, hc, hx'⟩
        wtm_at "rd"
        exact q t ht rfl H' _ ts' x R' f' pm hc hx'
theorem mo_pile_take (T : Txt K mg L) : ∀ C, okP L C -> MOk P w K mg base (CXE P w) 10 C "take" ["self", "coming"] [] (spTake L) := mo_of T (ok_Pile_take T) T.b_Pile_take T.me_Pile_take T.me_Turned_take
theorem ok_Pile_many (T : Txt K mg L) : FnOk P w K mg base (CXE P w) 2 L.a_Pile_many L.d_Pile_many ["self"] (spMany L) := by
  refine T.f_Pile_many.ok0 sc_Pile_many (λ vs H Q E h => ?_) (λ cdv A outer s H vs Q E hr h => ?_)
  . obtain ⟨p, tn, F, ts, rfl, _⟩ := h
    rfl
  . obtain ⟨p, tn, F, ts, rfl, R, q⟩ := h
    refine ⟨_, (pss_one (ps_ret (pe_callB (call_lenK K) (by rfl) T.z_len bt_len (pa_cons (pe_fldK K (pv 0) rfl) pa_nil)))), ?_⟩
    refine rd_start (σ := [some _]) rfl ?_
    obtain ⟨dx, l, d, kvs, rfl, R1, S⟩ := R.ex
    obtain ⟨xs, h3, h4⟩ := R1.hl
    wtm_at "rd"
    refine ⟨_, _, _, _, _, rfl, R1.hp, cl_of T tn, na_held T tn, rfl, ?_⟩
    wtm_at "rd"
    refine rd_lenL (SqL.of h3) ?_
    rw [h4.len]
    exact q
theorem mo_pile_many (T : Txt K mg L) : ∀ C, okP L C -> MOk P w K mg base (CXE P w) 2 C "many" ["self"] [] (spMany L) := mo_of T (ok_Pile_many T) T.b_Pile_many T.me_Pile_many T.me_Turned_many
theorem ok_Pile_top (T : Txt K mg L) : FnOk P w K mg base (CXE P w) 2 L.a_Pile_top L.d_Pile_top ["self"] (spTop L) := by
  refine T.f_Pile_top.okX sc_Pile_top (λ vs H Q E h => ?_) (λ cdv A outer s H vs Q E hr h => ?_)
  . obtain ⟨p, tn, F, ts, rfl, _⟩ := h
    rfl
  . obtain ⟨p, tn, F, ts, rfl, R, qE, q⟩ := h
    refine ⟨_, (pss_cons (ps_if (pt_cmpR op_eq (pe_callB (call_lenK K) (by rfl) T.z_len bt_len (pa_cons (pe_fldK K (pv 0) rfl) pa_nil)) pe_int (nomark _)) (pss_one (ps_raise1 T.x_Empty T.m_Empty (by rfl) pe_str)) pss_nil)
      (pss_one (ps_ret (pe_ix (ix_listK K) (pe_fldK K (pv 0) rfl) pe_int (λ _ _ => rfl))))), ?_⟩
    refine rd_start (σ := [some _]) rfl ?_
    obtain ⟨dx, l, d, kvs, rfl, R1, S⟩ := R.ex
    obtain ⟨xs, h3, h4⟩ := R1.hl
    have lx := h4.len
    wtm_at "rd"
    refine ⟨_, _, _, _, _, rfl, R1.hp, cl_of T tn, na_held T tn, rfl, ?_⟩
    wtm_at "rd"
    refine rd_lenL (SqL.of h3) ?_
    wtm_at "rd"
    . exact qE (List.eq_nil_of_length_eq_zero (by omega)) _ (Same.refl _)
    . refine ⟨_, _, _, _, _, rfl, R1.hp, cl_of T tn, na_held T tn, rfl, ?_⟩
      wtm_at "rd"
      have l0 : 0 < ts.length := by omega
      exact rd_ixLP (i := 0) (SqL.of h3) h4 (List.getElem?_eq_getElem l0) λ x hx => q x _ (List.getElem?_eq_getElem l0) hx
theorem mo_pile_top (T : Txt K mg L) : ∀ C, okP L C -> MOk P w K mg base (CXE P w) 2 C "top" ["self"] [] (spTop L) := mo_of T (ok_Pile_top T) T.b_Pile_top T.me_Pile_top T.me_Turned_top
theorem ok_Pile_told (T : Txt K mg L) : FnOk P w K mg base (CXE P w) 2 L.a_Pile_told L.d_Pile_told ["self"] (spTold L) := by
  refine T.f_Pile_told.ok0 sc_Pile_told (λ vs H Q E h => ?_) (λ cdv A outer s H vs Q E hr h => ?_)
  . obtain ⟨p, tn, F, ts, rfl, _⟩ := h
    rfl
  . obtain ⟨p, tn, F, ts, rfl, R, q⟩ := h
    refine ⟨_, (pss_one (ps_ret (pe_callTy (call_listK K) (by rfl) T.z_list bt_list (pa_cons (pe_fldK K (pv 0) rfl) pa_nil)))), ?_⟩
    refine rd_start (σ := [some _]) rfl ?_
    obtain ⟨dx, l, d, kvs, rfl, R1, S⟩ := R.ex
    obtain ⟨xs, h3, h4⟩ := R1.hl
    wtm_at "rd"
    refine ⟨_, _, _, _, _, rfl, R1.hp, cl_of T tn, na_held T tn, rfl, ?_⟩
    wtm_at "rd"
    refine ⟨l, xs, rfl, .inl (SqL.of h3), λ c hc => ?_⟩
    have s1 := same_new hc (.lst xs)
    exact q _ c xs s1 hc upd_same (pairs_keep s1.tup h4)
theorem mo_pile_told (T : Txt K mg L) : ∀ C, okP L C -> MOk P w K mg base (CXE P w) 2 C "told" ["self"] [] (spTold L) := mo_of T (ok_Pile_told T) T.b_Pile_told T.me_Pile_told T.me_Turned_told
def spCheck (L : Lk) : Sp := λ vs H Q E => ∃ p w : Int, vs = [.int p, .int w] /\ (Share p w -> Q .non H) /\ (¬ Share p w -> E (.ref L.NoShare) none H)
def spPlace (L : Lk) : Sp := λ vs H Q E => ∃ m p w : Int, vs = [.int m, .int p, .int w] /\ 0 <= m /\ m < 2 ^ 250 /\ w < 2 ^ 250 /\ (Share p w -> Q (.int (Mp.placeF m p w)) H) /\ (¬ Share p w -> E (.ref L.NoShare) none H)
theorem ok_check_share (T : Txt K mg L) : FnOk P w K mg base (CXE P w) 1 L.a_check_share L.d_check_share ["part", "whole"] (spCheck L) := by
  refine T.f_check_share.okX sc_check_share (λ vs H Q E h => ?_) (λ cdv A outer s H vs Q E hr h => ?_)
  . obtain ⟨p, w, rfl, _⟩ := h
    rfl
  . obtain ⟨p, w, rfl, h1, h2⟩ := h
    refine ⟨_, (pss_one (ps_if (PW.pt (pw_or (pt_cmpR op_lt (pv 1) pe_int (nomark _)) (pw_or (pt_cmpR op_lt (pv 0) pe_int (nomark _)) (pw_or1 (pt_cmpR op_gt (pv 0) (pv 1) (nomark _)))))) (pss_one (ps_raise1 T.x_NoShare T.m_NoShare (by rfl) pe_str)) pss_nil)), ?_⟩
    refine rd_start (σ := [some _, some _]) rfl ?_
    wtm_at "rd"
    . exact h2 (by unfold Share; omega)
    . exact h2 (by unfold Share; omega)
    . exact h2 (by unfold Share; omega)
    . exact h1 (by unfold Share; omega)
theorem use_check {p w : Int} {H : Hp} {Q : VK} {E : XK} (h1 : Share p w -> Q .non H) (h2 : ¬ Share p w -> E (.ref L.NoShare) none H) : spCheck L ([.int p, .int w] ++ []) H Q E := ⟨p, w, rfl, h1, h2⟩
theorem ok_place (T : Txt K mg L) : FnOk P w K mg base (CXE P w) 2 L.a_place L.d_place ["many", "part", "whole"] (spPlace L) := by
  refine T.f_place.okX sc_place (λ vs H Q E h => ?_) (λ cdv A outer s H vs Q E hr h => ?_)
  . obtain ⟨m, p, w, rfl, _⟩ := h
    rfl
  . obtain ⟨m, p, w, rfl, h0, h01, h02, h1, h2⟩ := h
    refine ⟨_, (pss_cons (ps_expr (pe_call (ok_check_share (K := K) T) (hr.mono (by decide)) (by rfl) T.m_check_share T.k_check_share T.b_check_share .nil passX (pa_cons (pv 1) (pa_cons (pv 2) pa_nil))))
      (pss_cons (ps_if (pt_cmpR op_eq (pv 0) pe_int (nomark _)) (pss_one (ps_ret pe_int)) pss_nil)
      (pss_cons (ps_set (i := 3) sc_place.nd rfl (Or.inl rfl) (pe_op op_fdivB (pe_op op_sub (pe_op op_add (pe_op op_mulB (pv 0) (pv 1)) (pv 2)) pe_int) (pv 2)))
      (pss_one (ps_ret (pe_callB (call_max2 rfl) (by rfl) T.z_max bt_max (pa_cons pe_int (pa_cons (pv 3) pa_nil)))))))), ?_⟩
    refine rd_start (σ := [some _, some _, some _, none]) rfl ?_
    wtm_at "rd"
    refine use_check (λ hs => ?_) h2
    have hs' := hs
    unfold Share at hs'
    wtm_at "rd"
    . subst m
      exact h1 hs
    . refine ⟨_, _, rfl, ?_⟩
      have e := h1 hs
      unfold Mp.placeF at e
      rw [if_neg (by omega)] at e
      exact e
theorem use_place {m p w : Int} {H : Hp} {Q : VK} {E : XK} (h0 : 0 <= m) (h1 : m < 2 ^ 250) (h2 : w < 2 ^ 250) (h3 : Share p w -> Q (.int (Mp.placeF m p w)) H) (h4 : ¬ Share p w -> E (.ref L.NoShare) none H) : spPlace L ([.int m, .int p, .int w] ++ []) H Q E := ⟨m, p, w, rfl, h0, h1, h2, h3, h4⟩
end
end K06
namespace K06
open PySem L2 Hm
theorem RRep.same {L : Lk} {H H' : Hp} {r : Addr} {F : List Addr} {s : RSt} (R : RRep L H r F s) (e : Same H H') : RRep L H' r F s := R.keep (λ b o _ q => e b o q) e.tup
def spRInit (L : Lk) : Sp := λ vs H Q E => ∃ r dx p w, vs = [.ref r, .int p, .int w] /\ H r = some (.ins L.Midrow dx []) /\ H dx = some (.own r) /\ w < 2 ^ 250 /\
  (Share p w -> ∀ H' F, RRep L H' r F ⟨p, w, 0, [], []⟩ -> (∀ b o, b ≠ r -> H b = some o -> H' b = some o) -> (∀ b ∈ F, b = r \/ b = dx \/ H b = none) -> Q .non H') /\
  (¬ Share p w -> ∀ H', (∀ b o, b ≠ r -> H b = some o -> H' b = some o) -> E (.ref L.NoShare) none H')
def spRMany (L : Lk) : Sp := λ vs H Q _ => ∃ r F s, vs = [.ref r] /\ RRep L H r F s /\ ∀ H' F', RRep L H' r F' s -> Fr F F' H H' -> Q (.int (s.all.length : Nat)) H'
def spRPut (L : Lk) : Sp := λ vs H Q _ => ∃ r n F s, vs = [.ref r, .int n] /\ RRep L H r F s /\ s.came < 900 /\
  ∀ H' F' s', RRep L H' r F' s' -> Fr F F' H H' -> s'.part = s.part -> s'.whole = s.whole -> s'.came = s.came + 1 -> s'.all.Perm ((n, ((s.came + 1 : Nat) : Int)) :: s.all) -> chg s.lo s'.lo <= 4 * bits s.all.length -> chg s.hi s'.hi <= 4 * bits s.all.length -> Q (.int ((s.came + 1 : Nat) : Int)) H'
def spRTake (L : Lk) : Sp := λ vs H Q E => ∃ r c F s, vs = [.ref r, .int c] /\ RRep L H r F s /\ s.came < 900 /\
  ((∀ u ∈ s.all, u.2 ≠ c) -> ∀ H' F', RRep L H' r F' s -> Fr F F' H H' -> E (.ref L.NoThing) none H') /\
  (∀ t ∈ s.all, t.2 = c -> ∀ H' F' s', RRep L H' r F' s' -> Fr F F' H H' -> s'.part = s.part -> s'.whole = s.whole -> s'.came = s.came -> s.all.Perm (t :: s'.all) -> chg s.lo s'.lo <= 4 * bits s.all.length -> chg s.hi s'.hi <= 4 * bits s.all.length -> Q (.int t.1) H')
def spRNum (L : Lk) : Sp := λ vs H Q E => ∃ r c F s, vs = [.ref r, .int c] /\ RRep L H r F s /\
  ((∀ u ∈ s.all, u.2 ≠ c) -> ∀ H' F', RRep L H' r F' s -> Fr F F' H H' -> E (.ref L.NoThing) none H') /\
  (∀ t ∈ s.all, t.2 = c -> ∀ H' F', RRep L H' r F' s -> Fr F F' H H' -> Q (.int t.1) H')
def spROldest (L : Lk) : Sp := λ vs H Q E => ∃ r F s, vs = [.ref r] /\ RRep L H r F s /\
  (s.all = [] -> ∀ H' F', RRep L H' r F' s -> Fr F F' H H' -> E (.ref L.Empty) none H') /\
  (∀ t ∈ s.all, (∀ u ∈ s.all, t.2 <= u.2) -> ∀ H' F', RRep L H' r F' s -> Fr F F' H H' -> Q (.int t.2) H')
section
variable {P : Program} {w : World} {K : PySem.W.Frag} {mg : Str -> Option Value} {base : Heap} {L : Lk}
theorem use_init {tn : Bool} {C : Addr} (eC : C = clsOf L tn) {H : Hp} {Q : Addr -> Hp -> Prop} {E : XK} (q : ∀ x F H2, Rep L H2 x tn F [] -> Fr [] F H H2 -> Q x H2) : ∀ x dx, H x = none -> H dx = none -> dx ≠ x ->
    spPInit L (.ref x :: ([] ++ [])) (upd (upd H dx (.own x)) x (.ins C dx [])) (λ v H2 => v = .non /\ Q x H2) E := by
  intro x dx hx hdx hne
  subst eC
  refine ⟨x, dx, tn, rfl, upd_same, by rw [upd_ne hne]; exact upd_same, λ H2 F R k g => ⟨rfl, q x F H2 R ?_⟩⟩
  have keep : ∀ b o, H b = some o -> H2 b = some o := λ b o hb => k b o (ne_of_none hb hx) (by rw [upd_ne (ne_of_none hb hx), upd_ne (ne_of_none hb hdx)]; exact hb)
  refine ⟨λ b o _ hb => keep b o hb, λ b xs hb => keep b _ hb, λ b hb => .inr ?_⟩
  rcases g b hb with rfl | rfl | h
  . exact hx
  . exact hdx
  . by_cases e1 : b = x
    . rw [e1]; exact hx
    . by_cases e2 : b = dx
      . rw [e2]; exact hdx
      . rw [upd_ne e1, upd_ne e2] at h; exact h
theorem use_told {H : Hp} {p : Addr} {tn : Bool} {F : List Addr} {ts : List Th} {Q : VK} {E : XK} (R : Rep L H p tn F ts) (q : ∀ H' l xs, Same H H' -> H l = none -> H' l = some (.lst xs) -> Paired (kPair.R H') xs ts -> Q (.ref l) H') : spTold L (.ref p :: ([] ++ [])) H Q E := ⟨p, tn, F, ts, rfl, R, q⟩
theorem use_many {H : Hp} {p : Addr} {tn : Bool} {F : List Addr} {ts : List Th} {Q : VK} {E : XK} (R : Rep L H p tn F ts) (q : Q (.int (ts.length : Nat)) H) : spMany L (.ref p :: ([] ++ [])) H Q E := ⟨p, tn, F, ts, rfl, R, q⟩
theorem use_methP {H : Hp} {p : Addr} {tn : Bool} {F : List Addr} {ts : List Th} {m : Str} {G : Addr -> Prop} (R : Rep L H p tn F ts) (hm : PlM m) (q : G (clsOf L tn)) : ∃ a C dx fs, V.ref p = V.ref a /\ H a = some (.ins C dx fs) /\ okP L C /\ fs.lookup m = none /\ G C := by
  obtain ⟨dx, fs, hp, h⟩ := R.at
  exact ⟨p, _, dx, fs, rfl, hp, clsOf_ok L tn, h m hm, q⟩
theorem use_topP {H : Hp} {p : Addr} {tn : Bool} {F : List Addr} {ts : List Th} {t : Th} {Q : VK} {E : XK} (R : Rep L H p tn F ts) (h0 : ts[0]? = some t) (q : ∀ x, kPair.R H x t -> Q x H) : spTop L (.ref p :: ([] ++ [])) H Q E :=
  ⟨p, tn, F, ts, rfl, R, (λ z => by rw [z] at h0; cases h0), λ x u hu hx => by rw [h0] at hu; cases hu; exact q x hx⟩
def spMove (L : Lk) : Sp := λ vs H Q _ => ∃ p q tn un F1 F2 ts us t, vs = [.ref p, .ref q] /\ Rep L H p tn F1 ts /\ Rep L H q un F2 us /\ (∀ b ∈ F2, b ∉ F1) /\ ts[0]? = some t /\ (∀ u ∈ us, u.2 ≠ t.2) /\ ts.length < 1000 /\ us.length < 1000 /\
  ∀ H1 H2 F1' F2' ts' us', Rep L H1 p tn F1' ts' -> Fr F1 F1' H H1 -> Rep L H2 q un F2' us' -> Fr F2 F2' H1 H2 -> ts.Perm (t :: ts') -> us'.Perm (t :: us) -> chg ts ts' <= bits ts.length -> chg us us' <= bits us.length -> Q .non H2
theorem ok_move_top (T : Txt K mg L) : FnOk P w K mg base (CXE P w) 12 L.a_move_top L.d_move_top ["source", "target"] (spMove L) := by
  refine T.f_move_top.ok0 sc_move_top (λ vs H Q E h => ?_) (λ cdv A outer s H vs Q E hr h => ?_)
  . obtain ⟨p, q, tn, un, F1, F2, ts, us, t, rfl, _⟩ := h
    rfl
  . obtain ⟨p, q, tn, un, F1, F2, ts, us, t, rfl, R1, R2, dj, h0, hf, l1, l2, k⟩ := h
    refine ⟨_, (pss_one (ps_expr (pe_methD (pv 1) (mo_pile_put (K := K) T) (hr.mono (by decide)) .nil pass0X (pa_cons (pe_methD (pv 0) (mo_pile_take (K := K) T) (hr.mono (by decide)) .nil pass0X (pa_cons (pe_ix (ix_tupK K) (pe_methD0 (pv 0) (mo_pile_top (K := K) T) (hr.mono (by decide)) .nil pass0X) pe_int (λ _ _ => rfl)) pa_nil)) pa_nil)))), ?_⟩
    refine rd_start (σ := [some _, some _]) rfl ?_
    wtm_at "rd"
    refine use_methP R2 ⟨by decide, by decide, by decide⟩ ?_
    wtm_at "rd"
    refine use_methP R1 ⟨by decide, by decide, by decide⟩ ?_
    wtm_at "rd"
    refine use_methP R1 ⟨by decide, by decide, by decide⟩ ?_
    wtm_at "rd"
    refine use_topP R1 h0 λ x hx => ?_
    wtm_at "rd"
    refine rd_ixP1 hx ?_
    wtm_at "rd"
    refine ⟨p, t.2, tn, F1, ts, rfl, R1, l1, λ z => absurd rfl (z t (List.mem_of_getElem? h0)), λ t' ht' e => ?_⟩
    obtain rfl := nodup_inj R1.nod ht' (List.mem_of_getElem? h0) e
    intro H1 F1' ts' y R1' f1 pm hc hy
    have R2' := R2.keep (λ b o hb h => f1.keep b o (dj b hb) h) f1.tup
    wtm_at "rd"
    refine ⟨q, y, t', un, F2, us, rfl, R2', hy, l2, λ ⟨u, hu, e⟩ => absurd e (hf u hu), λ _ H2 F2' us' R2'' f2 pm2 hc2 => ?_⟩
    exact k H1 H2 F1' F2' ts' us' R1' f1 R2'' f2 pm pm2 hc hc2
theorem use_move {H : Hp} {p q : Addr} {tn un : Bool} {F1 F2 : List Addr} {ts us : List Th} {t : Th} {Q : VK} {E : XK} (R1 : Rep L H p tn F1 ts) (R2 : Rep L H q un F2 us) (dj : ∀ b ∈ F2, b ∉ F1) (h0 : ts[0]? = some t) (hf : ∀ u ∈ us, u.2 ≠ t.2) (l1 : ts.length < 1000) (l2 : us.length < 1000)
    (k : ∀ H1 H2 F1' F2' ts' us', Rep L H1 p tn F1' ts' -> Fr F1 F1' H H1 -> Rep L H2 q un F2' us' -> Fr F2 F2' H1 H2 -> ts.Perm (t :: ts') -> us'.Perm (t :: us) -> chg ts ts' <= bits ts.length -> chg us us' <= bits us.length -> Q .non H2) : spMove L ([.ref p, .ref q] ++ []) H Q E :=
  ⟨p, q, tn, un, F1, F2, ts, us, t, rfl, R1, R2, dj, h0, hf, l1, l2, k⟩
theorem mo_row {T : Txt K mg L} {n : Nat} {m : Str} {f : Addr} {fd : FuncData} {ps : List Str} {sp : Sp} (h : FnOk P w K mg base (CXE P w) n f fd ps sp) (b : Binds K fd ps []) (m1 : Meth K L.Midrow m f) : ∀ C, okR L C -> MOk P w K mg base (CXE P w) n C m ps [] sp := by
  rintro C rfl
  exact ⟨_, _, T.cl_Midrow, m1, h, b⟩
theorem use_rraw {H : Hp} {r dx pl ph nd : Addr} {Fl Fh : List Addr} {s : RSt} {kvs : List (Key × V)} {m : Str} {G : Addr -> Prop} (R : RRaw L H r dx pl ph nd Fl Fh s kvs) (hm : RwM m) (q : G L.Midrow) : ∃ a C dx fs, V.ref r = V.ref a /\ H a = some (.ins C dx fs) /\ okR L C /\ fs.lookup m = none /\ G C := by
  obtain ⟨fs, hp, h⟩ := R.at
  exact ⟨r, _, dx, fs, rfl, hp, rfl, h m hm, q⟩
theorem ok_Midrow___init__ (T : Txt K mg L) : FnOk P w K mg base (CXE P w) 12 L.a_Midrow___init__ L.d_Midrow___init__ ["self", "part", "whole"] (spRInit L) := by
  refine T.f_Midrow___init__.okX sc_Midrow___init__ (λ vs H Q E h => ?_) (λ cdv A outer s H vs Q E hr h => ?_)
  . obtain ⟨r, dx, p, w, rfl, _⟩ := h
    rfl
  . obtain ⟨r, dx, p, wh, rfl, hp, hx, hw, q, qE⟩ := h
    refine ⟨_, (pss_cons (ps_expr (pe_call (ok_check_share (K := K) T) (hr.mono (by decide)) (by rfl) T.m_check_share T.k_check_share T.b_check_share .nil passX (pa_cons (pv 1) (pa_cons (pv 2) pa_nil))))
      (pss_cons (ps_fldK K (pv 0) (pv 1) rfl)
      (pss_cons (ps_fldK K (pv 0) (pv 2) rfl)
      (pss_cons (ps_fldK K (pv 0) (pe_make0 T.mk_Turned (ok_Pile___init__ (K := K) T) (hr.mono (by decide)) (by rfl) T.m_Turned T.b_Pile___init__ .nil pass0X) rfl)
      (pss_cons (ps_fldK K (pv 0) (pe_make0 T.mk_Pile (ok_Pile___init__ (K := K) T) (hr.mono (by decide)) (by rfl) T.m_Pile T.b_Pile___init__ .nil pass0X) rfl)
      (pss_cons (ps_fldK K (pv 0) pe_dnewK rfl)
      (pss_one (ps_fldK K (pv 0) pe_int rfl)))))))), ?_⟩
    refine rd_start (σ := [some _, some _, some _]) rfl ?_
    wtm_at "rd"
    refine use_check (λ hs => ?_) λ hs => qE hs H λ b o _ h => h
    wtm_at "rd"
    refine ⟨_, _, _, _, rfl, hp, T.cl_Midrow, T.na_Midrow_part, by decide, ?_⟩
    wtm_at "rd"
    refine ⟨_, _, _, _, rfl, upd_same, T.cl_Midrow, T.na_Midrow_whole, (by decide : (1 : Nat) < 1000), ?_⟩
    have nxr : dx ≠ r := ne_of hx hp (by simp)
    have k1 : ∀ b o, b ≠ r -> H b = some o -> upd (upd H r (.ins L.Midrow dx (putF "part" (.int p) []))) r (.ins L.Midrow dx (putF "whole" (.int wh) (putF "part" (.int p) []))) b = some o := λ b o hb h => by rw [upd_ne hb, upd_ne hb]; exact h
    have n1 : ∀ b, upd (upd H r (.ins L.Midrow dx (putF "part" (.int p) []))) r (.ins L.Midrow dx (putF "whole" (.int wh) (putF "part" (.int p) []))) b = none -> H b = none := λ b hb => by
      cases e : H b with
      | none => rfl
      | some o =>
        by_cases eb : b = r
        . subst eb; rw [upd_same] at hb; cases hb
        . rw [k1 b o eb e] at hb; cases hb
    have h1 : upd (upd H r (.ins L.Midrow dx (putF "part" (.int p) []))) r (.ins L.Midrow dx (putF "whole" (.int wh) (putF "part" (.int p) []))) r = some (.ins L.Midrow dx [("part", .int p), ("whole", .int wh)]) := by rw [upd_same]; rfl
    have x1 := k1 dx _ nxr hx
    generalize upd (upd H r (.ins L.Midrow dx (putF "part" (.int p) []))) r (.ins L.Midrow dx (putF "whole" (.int wh) (putF "part" (.int p) []))) = H1 at *
    wtm_at "rd"
    refine use_init (tn := true) rfl λ pl Fl H2 RL f2 => ?_
    have h2 := f2.keep _ _ (by simp) h1
    have x2 := f2.keep _ _ (by simp) x1
    have dl := RL.dom
    have nl : ∀ b ∈ Fl, H1 b = none := λ b hb => (f2.grow b hb).resolve_left (by simp)
    wtm_at "rd"
    refine ⟨_, _, _, _, rfl, h2, T.cl_Midrow, T.na_Midrow_low, (by decide : (2 : Nat) < 1000), ?_⟩
    have rl : r ∉ Fl := λ z => by have := nl r z; rw [h1] at this; cases this
    have RL3 := RL.keep (H' := upd H2 r (.ins L.Midrow dx (putF "low" (.ref pl) [("part", .int p), ("whole", .int wh)]))) (λ b o hb h => by rw [upd_ne (λ e => rl (by rw [<- e]; exact hb))]; exact h) (λ b xs h => by rw [upd_ne (ne_of h h2 (by simp))]; exact h)
    have h3 : upd H2 r (.ins L.Midrow dx (putF "low" (.ref pl) [("part", .int p), ("whole", .int wh)])) r = some (.ins L.Midrow dx [("part", .int p), ("whole", .int wh), ("low", .ref pl)]) := by rw [upd_same]; rfl
    have k3 : ∀ b o, b ≠ r -> H1 b = some o -> upd H2 r (.ins L.Midrow dx (putF "low" (.ref pl) [("part", .int p), ("whole", .int wh)])) b = some o := λ b o hb h => by rw [upd_ne hb]; exact f2.keep b o (by simp) h
    have x3 := k3 dx _ nxr x1
    generalize upd H2 r (.ins L.Midrow dx (putF "low" (.ref pl) [("part", .int p), ("whole", .int wh)])) = H3 at *
    wtm_at "rd"
    refine use_init (tn := false) rfl λ ph Fh H4 RH f4 => ?_
    have h4 := f4.keep _ _ (by simp) h3
    have x4 := f4.keep _ _ (by simp) x3
    have nh : ∀ b ∈ Fh, H3 b = none := λ b hb => (f4.grow b hb).resolve_left (by simp)
    have RL4 := RL3.keep (H' := H4) (λ b o _ h => f4.keep b o (by simp) h) f4.tup
    wtm_at "rd"
    refine ⟨_, _, _, _, rfl, h4, T.cl_Midrow, T.na_Midrow_high, (by decide : (3 : Nat) < 1000), ?_⟩
    have rh : r ∉ Fh := λ z => by have := nh r z; rw [h3] at this; cases this
    have t5 : ∀ b xs, H4 b = some (.tup xs) -> upd H4 r (.ins L.Midrow dx (putF "high" (.ref ph) [("part", .int p), ("whole", .int wh), ("low", .ref pl)])) b = some (.tup xs) := λ b xs h => by rw [upd_ne (ne_of h h4 (by simp))]; exact h
    have RL5 := RL4.keep (H' := upd H4 r (.ins L.Midrow dx (putF "high" (.ref ph) [("part", .int p), ("whole", .int wh), ("low", .ref pl)]))) (λ b o hb h => by rw [upd_ne (λ e => rl (by rw [<- e]; exact hb))]; exact h) t5
    have RH5 := RH.keep (H' := upd H4 r (.ins L.Midrow dx (putF "high" (.ref ph) [("part", .int p), ("whole", .int wh), ("low", .ref pl)]))) (λ b o hb h => by rw [upd_ne (λ e => rh (by rw [<- e]; exact hb))]; exact h) t5
    have h5 : upd H4 r (.ins L.Midrow dx (putF "high" (.ref ph) [("part", .int p), ("whole", .int wh), ("low", .ref pl)])) r = some (.ins L.Midrow dx [("part", .int p), ("whole", .int wh), ("low", .ref pl), ("high", .ref ph)]) := by rw [upd_same]; rfl
    have k5 : ∀ b o, b ≠ r -> H3 b = some o -> upd H4 r (.ins L.Midrow dx (putF "high" (.ref ph) [("part", .int p), ("whole", .int wh), ("low", .ref pl)])) b = some o := λ b o hb h => by rw [upd_ne hb]; exact f4.keep b o (by simp) h
    have x5 := k5 dx _ nxr x3
    generalize upd H4 r (.ins L.Midrow dx (putF "high" (.ref ph) [("part", .int p), ("whole", .int wh), ("low", .ref pl)])) = H5 at *
    wtm_at "rd"
    intro nd hnd
    have nrn : r ≠ nd := ne_of_none h5 hnd
    have nxn : dx ≠ nd := ne_of_none x5 hnd
    have s6 := same_new hnd (.dK [])
    wtm_at "rd"
    refine ⟨_, _, _, _, rfl, s6 _ _ h5, T.cl_Midrow, T.na_Midrow_numbers, (by decide : (4 : Nat) < 1000), ?_⟩
    have h6 := s6 _ _ h5
    have x6 := s6 _ _ x5
    have RL6 := RL5.same s6
    have RH6 := RH5.same s6
    have d6 : upd H5 nd (.dK []) nd = some (.dK []) := upd_same
    have bl : ∀ b ∈ Fl, H5 b ≠ none := RL5.dom
    have bh : ∀ b ∈ Fh, H5 b ≠ none := RH5.dom
    wtm_at "rd"
    refine ⟨_, _, _, _, rfl, upd_same, T.cl_Midrow, T.na_Midrow_last_coming, (by decide : (5 : Nat) < 1000), ?_⟩
    rw [upd_upd]
    generalize upd H5 nd (.dK []) = H6 at *
    have tt : ∀ o, ∀ b xs, H6 b = some (.tup xs) -> upd H6 r o b = some (.tup xs) := λ o b xs h => by rw [upd_ne (ne_of h h6 (by simp))]; exact h
    refine q hs _ (RF r dx nd Fl Fh) ⟨dx, pl, ph, nd, Fl, Fh, [], rfl, ⟨by rw [upd_same]; rfl, by rw [upd_ne nxr]; exact x6, by rw [upd_ne (Ne.symm nrn)]; exact d6, RL6.keep (λ b o hb h => ?_) (tt _), RH6.keep (λ b o hb h => ?_) (tt _), λ b hb hb2 => ?_, λ b hb => ⟨?_, ?_, ?_⟩, λ b hb => ⟨?_, ?_, ?_⟩⟩, ⟨.nil, λ _ h => (by cases h), λ _ h => (by cases h)⟩, ⟨⟨hs, λ _ h => (by cases h), .nil, λ _ _ _ _ h => (by cases h), λ _ _ _ _ h => (by cases h), λ _ h => (by cases h), hw⟩, ?_⟩⟩ (λ b o hb h => ?_) λ b hb => ?_
    . rw [upd_ne (λ e => rl (by rw [<- e]; exact hb))]; exact h
    . rw [upd_ne (λ e => rh (by rw [<- e]; exact hb))]; exact h
    . exact RL3.dom b hb (nh b hb2)
    . rintro rfl; exact rl hb
    . rintro rfl; have := nl _ hb; rw [x1] at this; cases this
    . rintro rfl; exact bl _ hb hnd
    . rintro rfl; exact rh hb
    . rintro rfl; have := nh _ hb; rw [x3] at this; cases this
    . rintro rfl; exact bh _ hb hnd
    . show ((0 : Nat) : Int) = Mp.placeF ((0 : Nat) : Int) p wh
      unfold Mp.placeF; rfl
    . rw [upd_ne hb]; exact s6 _ _ (k5 b o hb (k3 b o hb (k1 b o hb h)))
    . have key : ∀ b, H3 b = none -> b ≠ r -> H b = none := λ b h3' hr => by
        cases e : H b with
        | none => rfl
        | some o => rw [k3 b o hr (k1 b o hr e)] at h3'; cases h3'
      simp only [List.mem_cons, List.mem_append] at hb
      rcases hb with z | z | z | z | z
      . exact .inl z
      . exact .inr (.inl z)
      . refine .inr (.inr ?_)
        cases e : H b with
        | none => rfl
        | some o =>
          by_cases hr : b = r
          . exact absurd (hr.symm.trans z) nrn
          . rw [z] at e hr; rw [k5 nd o hr (k3 nd o hr (k1 nd o hr e))] at hnd; cases hnd
      . exact .inr (.inr (n1 b (nl b z)))
      . exact .inr (.inr (key b (nh b z) (λ e => rh (by rw [<- e]; exact z))))
end
end K06
namespace K06
open PySem L2 Hm
section
variable {P : Program} {w : World} {K : PySem.W.Frag} {mg : Str -> Option Value} {base : Heap} {L : Lk}
theorem ok_Midrow_many (T : Txt K mg L) : FnOk P w K mg base (CXE P w) 4 L.a_Midrow_many L.d_Midrow_many ["self"] (spRMany L) := by
  refine T.f_Midrow_many.ok0 sc_Midrow_many (λ vs H Q E h => ?_) (λ cdv A outer s H vs Q E hr h => ?_)
  . obtain ⟨r, F, s, rfl, _⟩ := h
    rfl
  . obtain ⟨r, F, st, rfl, R, q⟩ := h
    refine ⟨_, (pss_one (ps_ret (pe_callB call_lenD (by rfl) T.z_len bt_len (pa_cons (pe_fldK K (pv 0) rfl) pa_nil)))), ?_⟩
    refine rd_start (σ := [some _]) rfl ?_
    have R0 := R
    obtain ⟨dx, pl, ph, nd, Fl, Fh, kvs, rfl, R1, N, O⟩ := R
    wtm_at "rd"
    refine ⟨_, _, _, _, _, rfl, R1.hr, T.cl_Midrow, T.na_Midrow_numbers, rfl, ?_⟩
    wtm_at "rd"
    refine ⟨nd, kvs, rfl, R1.hn, ?_⟩
    rw [N.len O.nod]
    exact q H _ R0 (.of_same (Same.refl _))
theorem mo_row_many (T : Txt K mg L) : ∀ C, okR L C -> MOk P w K mg base (CXE P w) 4 C "many" ["self"] [] (spRMany L) := mo_row (T := T) (ok_Midrow_many T) T.b_Midrow_many T.me_Midrow_many
theorem ok_Midrow_number_of (T : Txt K mg L) : FnOk P w K mg base (CXE P w) 4 L.a_Midrow_number_of L.d_Midrow_number_of ["self", "coming"] (spRNum L) := by
  refine T.f_Midrow_number_of.okX sc_Midrow_number_of (λ vs H Q E h => ?_) (λ cdv A outer s H vs Q E hr h => ?_)
  . obtain ⟨r, c, F, s, rfl, _⟩ := h
    rfl
  . obtain ⟨r, c, F, st, rfl, R, qE, q⟩ := h
    refine ⟨_, (pss_cons (ps_if (pt_cmp (pc_dnotin (hu_of hr) (pv 1) (pe_fldK K (pv 0) rfl))) (pss_one (ps_raise1 T.x_NoThing T.m_NoThing (by rfl) pe_str)) pss_nil)
      (pss_one (ps_ret (pe_dget (hu_of hr) (pe_fldK K (pv 0) rfl) (pv 1) (λ _ _ => rfl))))), ?_⟩
    refine rd_start (σ := [some _, some _]) rfl ?_
    have R0 := R
    obtain ⟨dx, pl, ph, nd, Fl, Fh, kvs, rfl, R1, N, O⟩ := R
    wtm_at "rd"
    refine ⟨_, _, _, _, _, rfl, R1.hr, T.cl_Midrow, T.na_Midrow_numbers, rfl, ?_⟩
    wtm_at "rd"
    refine ⟨nd, _, rfl, DGet.k (k := .inl c) R1.hn, ?_⟩
    wtm_at "rd"
    by_cases hh : ∃ t ∈ st.all, t.2 = c
    . obtain ⟨t, ht, rfl⟩ := hh
      have hv := N.val t ht
      rw [hv]
      refine iteF ?_
      wtm_at "rd"
      refine ⟨_, _, _, _, _, rfl, R1.hr, T.cl_Midrow, T.na_Midrow_numbers, rfl, ?_⟩
      wtm_at "rd"
      refine ⟨nd, .int t.1, rfl, ?_, q t ht rfl H _ R0 (.of_same (Same.refl _))⟩
      rw [<- hv]
      exact DGet.k (k := .inl t.2) R1.hn
    . have hf : ∀ u ∈ st.all, u.2 ≠ c := λ u hu e => hh ⟨u, hu, e⟩
      rw [N.none hf]
      refine iteT ?_
      wtm_at "rd"
      exact qE hf H _ R0 (.of_same (Same.refl _))
theorem mo_row_number_of (T : Txt K mg L) : ∀ C, okR L C -> MOk P w K mg base (CXE P w) 4 C "number_of" ["self", "coming"] [] (spRNum L) := mo_row (T := T) (ok_Midrow_number_of T) T.b_Midrow_number_of T.me_Midrow_number_of
def spPileOf (L : Lk) : Sp := λ vs H Q _ => ∃ r x t dx pl ph nd Fl Fh s kvs, vs = [.ref r, x] /\ RRaw L H r dx pl ph nd Fl Fh s kvs /\ kPair.R H x t /\ ∀ b, PilO s.lo t b -> Q (.ref (if b = true then ph else pl)) H
theorem ok_Midrow_pile_of (T : Txt K mg L) : FnOk P w K mg base (CXE P w) 12 L.a_Midrow_pile_of L.d_Midrow_pile_of ["self", "thing"] (spPileOf L) := by
  refine T.f_Midrow_pile_of.ok0 sc_Midrow_pile_of (λ vs H Q E h => ?_) (λ cdv A outer s H vs Q E hr h => ?_)
  . obtain ⟨r, x, t, dx, pl, ph, nd, Fl, Fh, s, kvs, rfl, _⟩ := h
    rfl
  . obtain ⟨r, x, t, dx, pl, ph, nd, Fl, Fh, st, kvs, rfl, R, hx, q⟩ := h
    refine ⟨_, (pss_cons (ps_if (pt_cmpR op_eq (pe_methD0 (pe_fldK K (pv 0) rfl) (mo_pile_many (K := K) T) (hr.mono (by decide)) .nil pass0X) pe_int (nomark _)) (pss_one (ps_ret (pe_fldK K (pv 0) rfl))) pss_nil)
      (pss_cons (ps_if (pt_val (pe_methD (pe_fldK K (pv 0) rfl) (mo_pile_ahead (K := K) T) (hr.mono (by decide)) .nil pass0X (pa_cons (pe_methD0 (pe_fldK K (pv 0) rfl) (mo_pile_top (K := K) T) (hr.mono (by decide)) .nil pass0X) (pa_cons (pv 1) pa_nil)))) (pss_one (ps_ret (pe_fldK K (pv 0) rfl))) pss_nil)
      (pss_one (ps_ret (pe_fldK K (pv 0) rfl))))), ?_⟩
    refine rd_start (σ := [some _, some _]) rfl ?_
    wtm_at "rd"
    refine ⟨_, _, _, _, _, rfl, R.hr, T.cl_Midrow, T.na_Midrow_low, rfl, ?_⟩
    refine use_methP R.lo ⟨by decide, by decide, by decide⟩ ?_
    wtm_at "rd"
    refine use_many R.lo ?_
    wtm_at "rd"
    . refine ⟨_, _, _, _, _, rfl, R.hr, T.cl_Midrow, T.na_Midrow_low, rfl, ?_⟩
      exact q false ⟨λ h => (by cases h), λ _ => .inl (List.eq_nil_of_length_eq_zero (by omega))⟩
    . have l0 : 0 < st.lo.length := by omega
      have h0 : st.lo[0]? = some _ := List.getElem?_eq_getElem l0
      refine ⟨_, _, _, _, _, rfl, R.hr, T.cl_Midrow, T.na_Midrow_high, rfl, ?_⟩
      refine use_methP R.hi ⟨by decide, by decide, by decide⟩ ?_
      wtm_at "rd"
      refine ⟨_, _, _, _, _, rfl, R.hr, T.cl_Midrow, T.na_Midrow_low, rfl, ?_⟩
      refine use_methP R.lo ⟨by decide, by decide, by decide⟩ ?_
      wtm_at "rd"
      refine use_topP R.lo h0 λ y hy => ?_
      wtm_at "rd"
      refine ⟨ph, false, y, x, _, t, rfl, rfl, hy, hx, ⟨_, rfl, ?_⟩⟩
      cases e : ahd false st.lo[0] t with
      | true =>
        refine iteT ?_
        wtm_at "rd"
        refine ⟨_, _, _, _, _, rfl, R.hr, T.cl_Midrow, T.na_Midrow_high, rfl, ?_⟩
        exact q true ⟨λ _ => ⟨_, h0, e⟩, λ h => (by cases h)⟩
      | false =>
        refine iteF ?_
        wtm_at "rd"
        refine ⟨_, _, _, _, _, rfl, R.hr, T.cl_Midrow, T.na_Midrow_low, rfl, ?_⟩
        exact q false ⟨λ h => (by cases h), λ _ => .inr ⟨_, h0, e⟩⟩
theorem mo_row_pile_of (T : Txt K mg L) : ∀ C, okR L C -> MOk P w K mg base (CXE P w) 12 C "pile_of" ["self", "thing"] [] (spPileOf L) := mo_row (T := T) (ok_Midrow_pile_of T) T.b_Midrow_pile_of T.me_Midrow_pile_of
def spSettle (L : Lk) : Sp := λ vs H Q _ => ∃ r dx pl ph nd Fl Fh s kvs, vs = [.ref r] /\ RRaw L H r dx pl ph nd Fl Fh s kvs /\ NumOk kvs s.all /\ ROk0 s /\ s.all.length < 1000 /\
  ∀ H' Fl' Fh' lo' hi', RRaw L H' r dx pl ph nd Fl' Fh' { s with lo := lo', hi := hi' } kvs -> Fr (RF r dx nd Fl Fh) (RF r dx nd Fl' Fh') H H' -> (lo' ++ hi').Perm s.all -> ROk { s with lo := lo', hi := hi' } -> Few s.lo s.hi lo' hi' -> Q .non H'
structure Stl (L : Lk) (H0 H : Hp) (r dx pl ph nd : Addr) (Fl0 Fh0 Fl Fh : List Addr) (st : RSt) (lo hi : List Th) (kvs : List (Key × V)) (d : Nat) : Prop where
  raw : RRaw L H r dx pl ph nd Fl Fh { st with lo := lo, hi := hi } kvs
  fr : Fr (RF r dx nd Fl0 Fh0) (RF r dx nd Fl Fh) H0 H
  ok : ROk0 { st with lo := lo, hi := hi }
  pm : (lo ++ hi).Perm st.all
  no : d = 0 -> lo = st.lo /\ hi = st.hi
  one : d = 1 -> chg st.lo lo <= bits st.lo.length /\ chg st.hi hi <= bits st.hi.length
theorem ok_Midrow_settle (T : Txt K mg L) : FnOk P w K mg base (CXE P w) 14 L.a_Midrow_settle L.d_Midrow_settle ["self"] (spSettle L) := by
  refine T.f_Midrow_settle.ok0 sc_Midrow_settle (λ vs H Q E h => ?_) (λ cdv A outer s H vs Q E hr h => ?_)
  . obtain ⟨r, dx, pl, ph, nd, Fl, Fh, s, kvs, rfl, _⟩ := h
    rfl
  . obtain ⟨r, dx, pl, ph, nd, Fl0, Fh0, st, kvs, rfl, R0, N, O0, hz, q⟩ := h
    refine ⟨_, (pss_cons (ps_set (i := 1) sc_Midrow_settle.nd rfl (Or.inl rfl) (pe_call (ok_place (K := K) T) (hr.mono (by decide)) (by rfl) T.m_place T.k_place T.b_place .nil pass0X (pa_cons (pe_callB call_lenD (by rfl) T.z_len bt_len (pa_cons (pe_fldK K (pv 0) rfl) pa_nil)) (pa_cons (pe_fldK K (pv 0) rfl) (pa_cons (pe_fldK K (pv 0) rfl) pa_nil)))))
      (pss_cons (ps_while PassesOwn.never (pt_cmpR op_gt (pe_methD0 (pe_fldK K (pv 0) rfl) (mo_pile_many (K := K) T) (hr.mono (by decide)) .nil pass0X) (pv 1) (nomark _)) (pss_one (ps_expr (pe_call (ok_move_top (K := K) T) (hr.mono (by decide)) (by rfl) T.m_move_top T.k_move_top T.b_move_top .nil pass0X (pa_cons (pe_fldK K (pv 0) rfl) (pa_cons (pe_fldK K (pv 0) rfl) pa_nil))))))
      (pss_one (ps_while PassesOwn.never (pt_cmpR op_lt (pe_methD0 (pe_fldK K (pv 0) rfl) (mo_pile_many (K := K) T) (hr.mono (by decide)) .nil pass0X) (pv 1) (nomark _)) (pss_one (ps_expr (pe_call (ok_move_top (K := K) T) (hr.mono (by decide)) (by rfl) T.m_move_top T.k_move_top T.b_move_top .nil pass0X (pa_cons (pe_fldK K (pv 0) rfl) (pa_cons (pe_fldK K (pv 0) rfl) pa_nil))))))))), ?_⟩
    refine rd_start (σ := [some _, none]) rfl ?_
    have z2 : (2 : Int) ^ 250 > 1000 := by decide
    have wb := O0.wb
    wtm_at "rd"
    refine ⟨_, _, _, _, _, rfl, R0.hr, T.cl_Midrow, T.na_Midrow_numbers, rfl, ?_⟩
    wtm_at "rd"
    refine ⟨nd, kvs, rfl, R0.hn, ?_⟩
    rw [N.len O0.nod]
    wtm_at "rd"
    refine ⟨_, _, _, _, _, rfl, R0.hr, T.cl_Midrow, T.na_Midrow_part, rfl, ?_⟩
    wtm_at "rd"
    refine ⟨_, _, _, _, _, rfl, R0.hr, T.cl_Midrow, T.na_Midrow_whole, rfl, ?_⟩
    wtm_at "rd"
    refine use_place (by omega) (by omega) wb (λ hs => ?_) λ hs => absurd O0.sh hs
    have pin := place_in (m := st.all.length) O0.sh
    obtain ⟨k, ek⟩ : ∃ k : Nat, Mp.placeF (st.all.length : Nat) st.part st.whole = (k : Nat) := ⟨(Mp.placeF (st.all.length : Nat) st.part st.whole).toNat, by omega⟩
    rw [ek]
    rw [ek] at pin
    have hall : st.all.length = st.lo.length + st.hi.length := List.length_append
    wtm_at "rd"
    refine rd_while (λ m σ' H' => ∃ d lo hi Fl Fh, m = lo.length /\ σ' = [some (.ref r), some (.int (k : Nat))] /\ Stl L H H' r dx pl ph nd Fl0 Fh0 Fl Fh st lo hi kvs d /\ lo.length + d = st.lo.length /\ (d = 0 \/ k <= lo.length))
      st.lo.length ⟨0, st.lo, st.hi, Fl0, Fh0, rfl, rfl, ⟨R0, .of_same (Same.refl _), O0, .refl _, λ _ => ⟨rfl, rfl⟩, λ h => by cases h⟩, rfl, .inl rfl⟩ ?_
    rintro m _ H1 ⟨d, lo, hi, Fl, Fh, rfl, rfl, Z, hd, hk⟩
    have hl := Z.pm.length_eq
    rw [List.length_append] at hl
    wtm_at "rd"
    refine ⟨_, _, _, _, _, rfl, Z.raw.hr, T.cl_Midrow, T.na_Midrow_low, rfl, ?_⟩
    refine use_methP Z.raw.lo ⟨by decide, by decide, by decide⟩ ?_
    wtm_at "rd"
    refine use_many Z.raw.lo ?_
    dsimp only
    wtm_at "rd"
    . rename_i hlt
      refine ⟨_, λ _ _ h => h, ?_⟩
      wtm_at "rd"
      refine ⟨_, _, _, _, _, rfl, Z.raw.hr, T.cl_Midrow, T.na_Midrow_low, rfl, ?_⟩
      wtm_at "rd"
      refine ⟨_, _, _, _, _, rfl, Z.raw.hr, T.cl_Midrow, T.na_Midrow_high, rfl, ?_⟩
      wtm_at "rd"
      have l0 : 0 < lo.length := by omega
      have h0 : lo[0]? = some _ := List.getElem?_eq_getElem l0
      generalize lo[0] = t at h0
      refine use_move Z.raw.lo Z.raw.hi (λ b hb hb2 => Z.raw.dj b hb2 hb) h0 (λ u hu e => Z.ok.ndj t (List.mem_of_getElem? h0) u hu e.symm) (by show lo.length < 1000; omega) (by show hi.length < 1000; omega) λ H2 H3 Fl' Fh' lo' hi' Pl fl Ph fh p1 p2 c1 c2 => ?_
      obtain ⟨R2, f2⟩ := Z.raw.low Pl fl
      obtain ⟨R3, f3⟩ := R2.high Ph fh
      obtain ⟨O3, pm3⟩ := Z.ok.down h0 p1 p2 Pl.form Ph.form
      have hl1 : lo.length = lo'.length + 1 := by have := p1.length_eq; simpa using this
      wtm_at "rd"
      refine ⟨lo'.length, by omega, d + 1, lo', hi', Fl', Fh', rfl, rfl, ⟨R3, Z.fr.trans (f2.trans f3), O3, pm3.trans Z.pm, λ h => by omega, λ h => ?_⟩, by omega, .inr (by omega)⟩
      obtain ⟨e1, e2⟩ := Z.no (by omega)
      subst e1 e2
      exact ⟨c1, c2⟩
    . rename_i hge
      refine rd_while (λ m σ' H' => ∃ d lo hi Fl Fh, m = hi.length /\ σ' = [some (.ref r), some (.int (k : Nat))] /\ Stl L H H' r dx pl ph nd Fl0 Fh0 Fl Fh st lo hi kvs d /\ lo.length <= k /\ ((lo.length = k /\ lo.length + d = st.lo.length) \/ lo.length = st.lo.length + d))
        hi.length ⟨d, lo, hi, Fl, Fh, rfl, rfl, Z, by omega, ?_⟩ ?_
      . rcases hk with h | h
        . exact .inr (by omega)
        . exact .inl ⟨by omega, hd⟩
      clear Z hd hk hl hge
      rintro m _ H1 ⟨d, lo, hi, Fl, Fh, rfl, rfl, Z, hk, hd⟩
      have hl := Z.pm.length_eq
      rw [List.length_append] at hl
      wtm_at "rd"
      refine ⟨_, _, _, _, _, rfl, Z.raw.hr, T.cl_Midrow, T.na_Midrow_low, rfl, ?_⟩
      refine use_methP Z.raw.lo ⟨by decide, by decide, by decide⟩ ?_
      wtm_at "rd"
      refine use_many Z.raw.lo ?_
      dsimp only
      wtm_at "rd"
      . rename_i hlt
        refine ⟨_, λ _ _ h => h, ?_⟩
        wtm_at "rd"
        refine ⟨_, _, _, _, _, rfl, Z.raw.hr, T.cl_Midrow, T.na_Midrow_high, rfl, ?_⟩
        wtm_at "rd"
        refine ⟨_, _, _, _, _, rfl, Z.raw.hr, T.cl_Midrow, T.na_Midrow_low, rfl, ?_⟩
        wtm_at "rd"
        have l0 : 0 < hi.length := by omega
        have h0 : hi[0]? = some _ := List.getElem?_eq_getElem l0
        generalize hi[0] = t at h0
        refine use_move Z.raw.hi Z.raw.lo (λ b hb hb2 => Z.raw.dj b hb hb2) h0 (λ u hu e => Z.ok.ndj u hu t (List.mem_of_getElem? h0) e) (by show hi.length < 1000; omega) (by show lo.length < 1000; omega) λ H2 H3 Fh' Fl' hi' lo' Ph fh Pl fl p1 p2 c1 c2 => ?_
        obtain ⟨R2, f2⟩ := Z.raw.high Ph fh
        obtain ⟨R3, f3⟩ := R2.low Pl fl
        obtain ⟨O3, pm3⟩ := Z.ok.up h0 p1 p2 Pl.form Ph.form
        have hl1 : hi.length = hi'.length + 1 := by have := p1.length_eq; simpa using this
        have hl2 : lo'.length = lo.length + 1 := by have := p2.length_eq; simpa using this
        wtm_at "rd"
        refine ⟨hi'.length, by omega, d + 1, lo', hi', Fl', Fh', rfl, rfl, ⟨R3, Z.fr.trans (f2.trans f3), O3, pm3.trans Z.pm, λ h => by omega, λ h => ?_⟩, by omega, .inr (by omega)⟩
        obtain ⟨e1, e2⟩ := Z.no (by omega)
        subst e1 e2
        exact ⟨c2, c1⟩
      . rename_i hge
        have hk' : lo.length = k := by omega
        refine q H1 Fl Fh lo hi Z.raw Z.fr Z.pm ⟨Z.ok, ?_⟩ ⟨λ h => Z.no (by omega), λ h => Z.one (by omega)⟩
        show (lo.length : Int) = Mp.placeF ((lo ++ hi).length : Nat) st.part st.whole
        rw [Z.pm.length_eq, ek, hk']
theorem mo_row_settle (T : Txt K mg L) : ∀ C, okR L C -> MOk P w K mg base (CXE P w) 14 C "settle" ["self"] [] (spSettle L) := mo_row (T := T) (ok_Midrow_settle T) T.b_Midrow_settle T.me_Midrow_settle
theorem ok_Midrow_put (T : Txt K mg L) : FnOk P w K mg base (CXE P w) 18 L.a_Midrow_put L.d_Midrow_put ["self", "number"] (spRPut L) := by
  refine T.f_Midrow_put.ok0 sc_Midrow_put (λ vs H Q E h => ?_) (λ cdv A outer s H vs Q E hr h => ?_)
  . obtain ⟨r, n, F, s, rfl, _⟩ := h
    rfl
  . obtain ⟨r, n, F, st, rfl, R, hc, q⟩ := h
    refine ⟨_, (pss_cons (ps_set (i := 2) sc_Midrow_put.nd rfl (Or.inl rfl) (pe_op op_add (pe_fldK K (pv 0) rfl) pe_int))
      (pss_cons (ps_set (i := 3) sc_Midrow_put.nd rfl (Or.inl rfl) (pe_tup (pa_cons (pv 1) (pa_cons (pv 2) pa_nil))))
      (pss_cons (ps_expr (pe_methD (pe_methD (pv 0) (mo_row_pile_of (K := K) T) (hr.mono (by decide)) .nil pass0X (pa_cons (pv 3) pa_nil)) (mo_pile_put (K := K) T) (hr.mono (by decide)) .nil pass0X (pa_cons (pv 3) pa_nil)))
      (pss_cons (ps_dput (hu_of hr) (pe_fldK K (pv 0) rfl) (pv 2) (pv 1) rfl)
      (pss_cons (ps_fldK K (pv 0) (pv 2) rfl)
      (pss_cons (ps_expr (pe_methD0 (pv 0) (mo_row_settle (K := K) T) (hr.mono (by decide)) .nil pass0X))
      (pss_one (ps_ret (pv 2))))))))), ?_⟩
    refine rd_start (σ := [some _, some _, none, none]) rfl ?_
    obtain ⟨dx, pl, ph, nd, Fl, Fh, kvs, rfl, R0, N, O⟩ := R
    have ln := O.len
    have lk := N.len O.nod
    have hall : st.all.length = st.lo.length + st.hi.length := List.length_append
    have z2 : (2000 : Nat) < sizeLine := by decide
    have hfr : ∀ u ∈ st.all, u.2 ≠ ((st.came + 1 : Nat) : Int) := λ u hu e => by have := O.rng u hu; omega
    wtm_at "rd"
    refine ⟨_, _, _, _, _, rfl, R0.hr, T.cl_Midrow, T.na_Midrow_last_coming, rfl, ?_⟩
    wtm_at "rd"
    rw [show ((st.came : Nat) : Int) + 1 = ((st.came + 1 : Nat) : Int) by omega]
    refine ⟨(by decide : (2 : Nat) <= sizeLine), λ x hx => ?_⟩
    have s1 := same_new hx (.tup [.int n, .int ((st.came + 1 : Nat) : Int)])
    have f1 : Fr (RF r dx nd Fl Fh) (RF r dx nd Fl Fh) H _ := .of_same s1
    have R1 := R0.keep (λ b o _ h => s1 b o h) s1.tup
    have hT : kPair.R (upd H x (.tup [.int n, .int ((st.came + 1 : Nat) : Int)])) (.ref x) (n, ((st.came + 1 : Nat) : Int)) := kPair_of upd_same
    generalize upd H x (.tup [.int n, .int ((st.came + 1 : Nat) : Int)]) = H1 at *
    wtm_at "rd"
    refine use_rraw R1 ⟨by decide, by decide, by decide, by decide, by decide, by decide⟩ ?_
    wtm_at "rd"
    refine ⟨r, .ref x, _, dx, pl, ph, nd, Fl, Fh, st, kvs, rfl, R1, hT, λ b hb => ?_⟩
    cases b
    . dsimp only
      refine use_methP R1.lo ⟨by decide, by decide, by decide⟩ ?_
      wtm_at "rd"
      refine ⟨pl, .ref x, _, true, Fl, st.lo, rfl, R1.lo, hT, by omega, λ ⟨u, hu, e⟩ => absurd e (hfr u (List.mem_append_left _ hu)), λ _ H2 Fl2 lo2 P2 g2 pmP c1 => ?_⟩
      obtain ⟨R2, f2⟩ := R1.low P2 g2
      obtain ⟨O4, pm2⟩ := O.putLo rfl hb pmP P2.form
      have l2 : lo2.length = st.lo.length + 1 := by have := pmP.length_eq; simpa using this
      wtm_at "rd"
      refine ⟨_, _, _, _, _, rfl, R2.hr, T.cl_Midrow, T.na_Midrow_numbers, rfl, ?_⟩
      wtm_at "rd"
      refine ⟨nd, _, rfl, DPut.k (k := .inl ((st.came + 1 : Nat) : Int)) R2.hn (by omega), ?_⟩
      obtain ⟨R3, f3⟩ := R2.setN (kvs' := putK kvs (.inl ((st.came + 1 : Nat) : Int)) (.int n))
      generalize upd H2 nd _ = H3 at *
      wtm_at "rd"
      refine ⟨_, _, _, _, rfl, R3.hr, T.cl_Midrow, T.na_Midrow_last_coming, (by decide : (6 : Nat) < 1000), ?_⟩
      obtain ⟨R4, f4⟩ := R3.setR (s' := { st with came := st.came + 1, lo := lo2 }) rfl rfl
      have e4 : putF "last_coming" (.int ((st.came + 1 : Nat) : Int)) (rfs { st with lo := lo2 } pl ph nd) = rfs { st with came := st.came + 1, lo := lo2 } pl ph nd := rfl
      rw [e4]
      generalize upd H3 r _ = H4 at *
      wtm_at "rd"
      refine use_rraw R4 ⟨by decide, by decide, by decide, by decide, by decide, by decide⟩ ?_
      wtm_at "rd"
      have N4 := (N.put (n := n) hfr).perm pm2
      have l4 := pm2.length_eq
      rw [List.length_cons] at l4
      refine ⟨r, dx, pl, ph, nd, _, _, _, _, rfl, R4, N4, O4, by show (lo2 ++ st.hi).length < 1000; omega, λ H' Fl' Fh' lo' hi' R' f' pm' O' few => ?_⟩
      wtm_at "rd"
      have pm3 := pm'.trans pm2
      have l5 := pm3.length_eq
      rw [List.length_cons] at l5
      have c5 := O'.cnt
      rw [show (RSt.all { st with came := st.came + 1, lo := lo', hi := hi' }).length = st.all.length + 1 from l5] at c5
      obtain ⟨g1, g2⟩ := few_put_lo O l2 c1 few c5 (by rw [<- l5, List.length_append])
      exact q H' _ { st with came := st.came + 1, lo := lo', hi := hi' } ⟨dx, pl, ph, nd, Fl', Fh', _, rfl, R', N4.perm pm', O'⟩ (f1.trans (f2.trans (f3.trans (f4.trans f')))) rfl rfl rfl pm3 g1 g2
    . dsimp only
      refine use_methP R1.hi ⟨by decide, by decide, by decide⟩ ?_
      wtm_at "rd"
      refine ⟨ph, .ref x, _, false, Fh, st.hi, rfl, R1.hi, hT, by omega, λ ⟨u, hu, e⟩ => absurd e (hfr u (List.mem_append_right _ hu)), λ _ H2 Fh2 hi2 P2 g2 pmP c1 => ?_⟩
      obtain ⟨R2, f2⟩ := R1.high P2 g2
      obtain ⟨O4, pm2⟩ := O.putHi rfl hb pmP P2.form
      have l2 : hi2.length = st.hi.length + 1 := by have := pmP.length_eq; simpa using this
      wtm_at "rd"
      refine ⟨_, _, _, _, _, rfl, R2.hr, T.cl_Midrow, T.na_Midrow_numbers, rfl, ?_⟩
      wtm_at "rd"
      refine ⟨nd, _, rfl, DPut.k (k := .inl ((st.came + 1 : Nat) : Int)) R2.hn (by omega), ?_⟩
      obtain ⟨R3, f3⟩ := R2.setN (kvs' := putK kvs (.inl ((st.came + 1 : Nat) : Int)) (.int n))
      generalize upd H2 nd _ = H3 at *
      wtm_at "rd"
      refine ⟨_, _, _, _, rfl, R3.hr, T.cl_Midrow, T.na_Midrow_last_coming, (by decide : (6 : Nat) < 1000), ?_⟩
      obtain ⟨R4, f4⟩ := R3.setR (s' := { st with came := st.came + 1, hi := hi2 }) rfl rfl
      have e4 : putF "last_coming" (.int ((st.came + 1 : Nat) : Int)) (rfs { st with hi := hi2 } pl ph nd) = rfs { st with came := st.came + 1, hi := hi2 } pl ph nd := rfl
      rw [e4]
      generalize upd H3 r _ = H4 at *
      wtm_at "rd"
      refine use_rraw R4 ⟨by decide, by decide, by decide, by decide, by decide, by decide⟩ ?_
      wtm_at "rd"
      have N4 := (N.put (n := n) hfr).perm pm2
      have l4 := pm2.length_eq
      rw [List.length_cons] at l4
      refine ⟨r, dx, pl, ph, nd, _, _, _, _, rfl, R4, N4, O4, by show (st.lo ++ hi2).length < 1000; omega, λ H' Fl' Fh' lo' hi' R' f' pm' O' few => ?_⟩
      wtm_at "rd"
      have pm3 := pm'.trans pm2
      have l5 := pm3.length_eq
      rw [List.length_cons] at l5
      have c5 := O'.cnt
      rw [show (RSt.all { st with came := st.came + 1, lo := lo', hi := hi' }).length = st.all.length + 1 from l5] at c5
      obtain ⟨g1, g2⟩ := few_put_hi O l2 c1 few c5 (by rw [<- l5, List.length_append])
      exact q H' _ { st with came := st.came + 1, lo := lo', hi := hi' } ⟨dx, pl, ph, nd, Fl', Fh', _, rfl, R', N4.perm pm', O'⟩ (f1.trans (f2.trans (f3.trans (f4.trans f')))) rfl rfl rfl pm3 g1 g2
theorem mo_row_put (T : Txt K mg L) : ∀ C, okR L C -> MOk P w K mg base (CXE P w) 18 C "put" ["self", "number"] [] (spRPut L) := mo_row (T := T) (ok_Midrow_put T) T.b_Midrow_put T.me_Midrow_put
theorem ok_Midrow_take (T : Txt K mg L) : FnOk P w K mg base (CXE P w) 18 L.a_Midrow_take L.d_Midrow_take ["self", "coming"] (spRTake L) := by
  refine T.f_Midrow_take.okX sc_Midrow_take (λ vs H Q E h => ?_) (λ cdv A outer s H vs Q E hr h => ?_)
  . obtain ⟨r, c, F, s, rfl, _⟩ := h
    rfl
  . obtain ⟨r, c, F, st, rfl, R, hc, qE, q⟩ := h
    refine ⟨_, (pss_cons (ps_set (i := 2) sc_Midrow_take.nd rfl (Or.inl rfl) (pe_methD (pv 0) (mo_row_number_of (K := K) T) (hr.mono (by decide)) .nil passX (pa_cons (pv 1) pa_nil)))
      (pss_cons (ps_expr (pe_methD (pe_methD (pv 0) (mo_row_pile_of (K := K) T) (hr.mono (by decide)) .nil pass0X (pa_cons (pe_tup (pa_cons (pv 2) (pa_cons (pv 1) pa_nil))) pa_nil)) (mo_pile_take (K := K) T) (hr.mono (by decide)) .nil passX (pa_cons (pv 1) pa_nil)))
      (pss_cons (ps_expr (pe_dpop1 (pe_fldK K (pv 0) rfl) (pv 1) ⟨rfl, rfl, rfl, rfl⟩))
      (pss_cons (ps_expr (pe_methD0 (pv 0) (mo_row_settle (K := K) T) (hr.mono (by decide)) .nil pass0X))
      (pss_one (ps_ret (pv 2))))))), ?_⟩
    refine rd_start (σ := [some _, some _, none]) rfl ?_
    obtain ⟨dx0, fs0, hp0, hm0⟩ := R.at
    wtm_at "rd"
    refine ⟨r, _, dx0, fs0, rfl, hp0, rfl, hm0 _ ⟨by decide, by decide, by decide, by decide, by decide, by decide⟩, ?_⟩
    wtm_at "rd"
    refine ⟨r, c, F, st, rfl, R, qE, λ t ht ec H0 F0 R f0 => ?_⟩
    subst ec
    obtain ⟨dx, pl, ph, nd, Fl, Fh, kvs, rfl, R0, N, O⟩ := R
    have ln := O.len
    have lk := N.len O.nod
    have hall : st.all.length = st.lo.length + st.hi.length := List.length_append
    wtm_at "rd"
    refine use_rraw R0 ⟨by decide, by decide, by decide, by decide, by decide, by decide⟩ ?_
    wtm_at "rd"
    refine ⟨(by decide : (2 : Nat) <= sizeLine), λ x hx => ?_⟩
    have s1 := same_new hx (.tup [.int t.1, .int t.2])
    have f1 : Fr (RF r dx nd Fl Fh) (RF r dx nd Fl Fh) H0 _ := .of_same s1
    have R1 := R0.keep (λ b o _ h => s1 b o h) s1.tup
    have hT : kPair.R (upd H0 x (.tup [.int t.1, .int t.2])) (.ref x) t := kPair_of upd_same
    generalize upd H0 x (.tup [.int t.1, .int t.2]) = H1 at *
    wtm_at "rd"
    refine ⟨r, .ref x, _, dx, pl, ph, nd, Fl, Fh, st, kvs, rfl, R1, hT, λ b hb => ?_⟩
    cases b
    . dsimp only
      have htl := O.isLo ht hb
      refine use_methP R1.lo ⟨by decide, by decide, by decide⟩ ?_
      wtm_at "rd"
      refine ⟨pl, t.2, true, Fl, st.lo, rfl, R1.lo, by omega, λ z => absurd rfl (z t htl), λ t' ht' e => ?_⟩
      obtain rfl := nodup_inj O.nlo ht' htl e
      intro H2 Fl2 lo2 y P2 g2 pmP c1 hy
      obtain ⟨R2, f2⟩ := R1.low P2 g2
      obtain ⟨O4, pm2⟩ := O.takeLo pmP P2.form
      have l2 : lo2.length + 1 = st.lo.length := by have := pmP.length_eq; simpa using this.symm
      wtm_at "rd"
      refine ⟨_, _, _, _, _, rfl, R2.hr, T.cl_Midrow, T.na_Midrow_numbers, rfl, ?_⟩
      refine ⟨nd, rfl, .inl ⟨_, .inl R2.hn⟩, ?_⟩
      wtm_at "rd"
      refine ⟨kvs, .inl t'.2, _, R2.hn, rfl, N.val t' ht, ?_⟩
      obtain ⟨R3, f3⟩ := R2.setN (kvs' := dropK kvs (.inl t'.2))
      generalize upd H2 nd _ = H3 at *
      wtm_at "rd"
      refine use_rraw R3 ⟨by decide, by decide, by decide, by decide, by decide, by decide⟩ ?_
      wtm_at "rd"
      have N4 := N.drop pm2 O.nod
      have l4 := pm2.length_eq
      rw [List.length_cons] at l4
      refine ⟨r, dx, pl, ph, nd, _, _, _, _, rfl, R3, N4, O4, by show (lo2 ++ st.hi).length < 1000; omega, λ H' Fl' Fh' lo' hi' R' f' pm' O' few => ?_⟩
      wtm_at "rd"
      have pm3 := pm2.trans (pm'.symm.cons t')
      have l5 := pm'.length_eq
      have c5 := O'.cnt
      obtain ⟨g1, g2⟩ := few_take_lo O l4 l2 c1 few (by rw [c5]; exact congrArg (λ z : Nat => Mp.placeF (z : Int) st.part st.whole) l5) (by rw [<- l5, List.length_append])
      exact q t' ht rfl H' _ { st with lo := lo', hi := hi' } ⟨dx, pl, ph, nd, Fl', Fh', _, rfl, R', N4.perm pm', O'⟩ (f0.trans (f1.trans (f2.trans (f3.trans f')))) rfl rfl rfl pm3 g1 g2
    . dsimp only
      have htl := O.isHi ht hb
      refine use_methP R1.hi ⟨by decide, by decide, by decide⟩ ?_
      wtm_at "rd"
      refine ⟨ph, t.2, false, Fh, st.hi, rfl, R1.hi, by omega, λ z => absurd rfl (z t htl), λ t' ht' e => ?_⟩
      obtain rfl := nodup_inj O.nhi ht' htl e
      intro H2 Fh2 hi2 y P2 g2 pmP c1 hy
      obtain ⟨R2, f2⟩ := R1.high P2 g2
      obtain ⟨O4, pm2⟩ := O.takeHi pmP P2.form
      have l2 : hi2.length + 1 = st.hi.length := by have := pmP.length_eq; simpa using this.symm
      wtm_at "rd"
      refine ⟨_, _, _, _, _, rfl, R2.hr, T.cl_Midrow, T.na_Midrow_numbers, rfl, ?_⟩
      refine ⟨nd, rfl, .inl ⟨_, .inl R2.hn⟩, ?_⟩
      wtm_at "rd"
      refine ⟨kvs, .inl t'.2, _, R2.hn, rfl, N.val t' ht, ?_⟩
      obtain ⟨R3, f3⟩ := R2.setN (kvs' := dropK kvs (.inl t'.2))
      generalize upd H2 nd _ = H3 at *
      wtm_at "rd"
      refine use_rraw R3 ⟨by decide, by decide, by decide, by decide, by decide, by decide⟩ ?_
      wtm_at "rd"
      have N4 := N.drop pm2 O.nod
      have l4 := pm2.length_eq
      rw [List.length_cons] at l4
      refine ⟨r, dx, pl, ph, nd, _, _, _, _, rfl, R3, N4, O4, by show (st.lo ++ hi2).length < 1000; omega, λ H' Fl' Fh' lo' hi' R' f' pm' O' few => ?_⟩
      wtm_at "rd"
      have pm3 := pm2.trans (pm'.symm.cons t')
      have l5 := pm'.length_eq
      have c5 := O'.cnt
      obtain ⟨g1, g2⟩ := few_take_hi O l4 l2 c1 few (by rw [c5]; exact congrArg (λ z : Nat => Mp.placeF (z : Int) st.part st.whole) l5) (by rw [<- l5, List.length_append])
      exact q t' ht rfl H' _ { st with lo := lo', hi := hi' } ⟨dx, pl, ph, nd, Fl', Fh', _, rfl, R', N4.perm pm', O'⟩ (f0.trans (f1.trans (f2.trans (f3.trans f')))) rfl rfl rfl pm3 g1 g2
theorem mo_row_take (T : Txt K mg L) : ∀ C, okR L C -> MOk P w K mg base (CXE P w) 18 C "take" ["self", "coming"] [] (spRTake L) := mo_row (T := T) (ok_Midrow_take T) T.b_Midrow_take T.me_Midrow_take
def spRShare (L : Lk) : Sp := λ vs H Q E => ∃ r F s, vs = [.ref r] /\ RRep L H r F s /\ (s.all = [] -> ∀ H', Same H H' -> E (.ref L.Empty) none H') /\ ∀ x t, s.lo[0]? = some t -> kPair.R H x t -> Q x H
theorem ok_Midrow_share (T : Txt K mg L) : FnOk P w K mg base (CXE P w) 6 L.a_Midrow_share L.d_Midrow_share ["self"] (spRShare L) := by
  refine T.f_Midrow_share.okX sc_Midrow_share (λ vs H Q E h => ?_) (λ cdv A outer s H vs Q E hr h => ?_)
  . obtain ⟨r, F, s, rfl, _⟩ := h
    rfl
  . obtain ⟨r, F, st, rfl, R, qE, q⟩ := h
    refine ⟨_, (pss_one (ps_ret (pe_methD0 (pe_fldK K (pv 0) rfl) (mo_pile_top (K := K) T) (hr.mono (by decide)) .nil passX))), ?_⟩
    refine rd_start (σ := [some _]) rfl ?_
    obtain ⟨dx, pl, ph, nd, Fl, Fh, kvs, rfl, R0, N, O⟩ := R
    wtm_at "rd"
    refine ⟨_, _, _, _, _, rfl, R0.hr, T.cl_Midrow, T.na_Midrow_low, rfl, ?_⟩
    refine use_methP R0.lo ⟨by decide, by decide, by decide⟩ ?_
    wtm_at "rd"
    exact ⟨pl, true, Fl, st.lo, rfl, R0.lo, λ h => qE (O.lo_nil h), q⟩
theorem mo_row_share (T : Txt K mg L) : ∀ C, okR L C -> MOk P w K mg base (CXE P w) 6 C "share" ["self"] [] (spRShare L) := mo_row (T := T) (ok_Midrow_share T) T.b_Midrow_share T.me_Midrow_share
theorem ok_Midrow_oldest (T : Txt K mg L) : FnOk P w K mg base (CXE P w) 6 L.a_Midrow_oldest L.d_Midrow_oldest ["self"] (spROldest L) := by
  refine T.f_Midrow_oldest.okX sc_Midrow_oldest (λ vs H Q E h => ?_) (λ cdv A outer s H vs Q E hr h => ?_)
  . obtain ⟨r, F, s, rfl, _⟩ := h
    rfl
  . obtain ⟨r, F, st, rfl, R, qE, q⟩ := h
    refine ⟨_, (pss_cons (ps_if (pt_cmpR op_eq (pe_callB call_lenD (by rfl) T.z_len bt_len (pa_cons (pe_fldK K (pv 0) rfl) pa_nil)) pe_int (nomark _)) (pss_one (ps_raise1 T.x_Empty T.m_Empty (by rfl) pe_str)) pss_nil)
      (pss_one (ps_ret (pe_callB (call_minD rfl) (by rfl) T.z_min bt_min (pa_cons (pe_fldK K (pv 0) rfl) pa_nil))))), ?_⟩
    refine rd_start (σ := [some _]) rfl ?_
    have RR := R
    obtain ⟨dx, pl, ph, nd, Fl, Fh, kvs, rfl, R0, N, O⟩ := R
    have lk := N.len O.nod
    wtm_at "rd"
    refine ⟨_, _, _, _, _, rfl, R0.hr, T.cl_Midrow, T.na_Midrow_numbers, rfl, ?_⟩
    wtm_at "rd"
    refine ⟨nd, kvs, rfl, R0.hn, ?_⟩
    wtm_at "rd"
    . exact qE (List.eq_nil_of_length_eq_zero (by omega)) H _ RR (.of_same (Same.refl _))
    . refine ⟨_, _, _, _, _, rfl, R0.hr, T.cl_Midrow, T.na_Midrow_numbers, rfl, ?_⟩
      wtm_at "rd"
      refine ⟨nd, kvs, rfl, R0.hn, ?_, ?_, ?_⟩
      . rintro rfl; simp at *
      . intro k hk
        obtain ⟨t, _, e⟩ := N.sub k hk
        exact ⟨t.2, e⟩
      . intro c hc' hm
        obtain ⟨t, ht, e⟩ := N.sub _ hc'
        cases Sum.inl.inj e
        exact q t ht (λ u hu => hm u.2 (valV_in (N.val u hu))) H _ RR (.of_same (Same.refl _))
theorem mo_row_oldest (T : Txt K mg L) : ∀ C, okR L C -> MOk P w K mg base (CXE P w) 6 C "oldest" ["self"] [] (spROldest L) := mo_row (T := T) (ok_Midrow_oldest T) T.b_Midrow_oldest T.me_Midrow_oldest
def spRPiles (L : Lk) : Sp := λ vs H Q _ => ∃ r F s, vs = [.ref r] /\ RRep L H r F s /\ ∀ H' x l1 l2 xs ys, Same H H' -> H x = none -> H l1 = none -> H l2 = none -> l1 ≠ l2 -> H' x = some (.tup [.ref l1, .ref l2]) -> H' l1 = some (.lst xs) -> Paired (kPair.R H') xs s.lo -> H' l2 = some (.lst ys) -> Paired (kPair.R H') ys s.hi -> Q (.ref x) H'
theorem ok_Midrow_piles (T : Txt K mg L) : FnOk P w K mg base (CXE P w) 6 L.a_Midrow_piles L.d_Midrow_piles ["self"] (spRPiles L) := by
  refine T.f_Midrow_piles.ok0 sc_Midrow_piles (λ vs H Q E h => ?_) (λ cdv A outer s H vs Q E hr h => ?_)
  . obtain ⟨r, F, s, rfl, _⟩ := h
    rfl
  . obtain ⟨r, F, st, rfl, R, q⟩ := h
    refine ⟨_, (pss_one (ps_ret (pe_tup (pa_cons (pe_methD0 (pe_fldK K (pv 0) rfl) (mo_pile_told (K := K) T) (hr.mono (by decide)) .nil pass0X) (pa_cons (pe_methD0 (pe_fldK K (pv 0) rfl) (mo_pile_told (K := K) T) (hr.mono (by decide)) .nil pass0X) pa_nil))))), ?_⟩
    refine rd_start (σ := [some _]) rfl ?_
    obtain ⟨dx, pl, ph, nd, Fl, Fh, kvs, rfl, R0, N, O⟩ := R
    wtm_at "rd"
    refine ⟨_, _, _, _, _, rfl, R0.hr, T.cl_Midrow, T.na_Midrow_low, rfl, ?_⟩
    refine use_methP R0.lo ⟨by decide, by decide, by decide⟩ ?_
    wtm_at "rd"
    refine use_told R0.lo λ H1 l1 xs s1 n1 h1 p1 => ?_
    have R1 := R0.keep (λ b o _ h => s1 b o h) s1.tup
    wtm_at "rd"
    refine ⟨_, _, _, _, _, rfl, R1.hr, T.cl_Midrow, T.na_Midrow_high, rfl, ?_⟩
    refine use_methP R1.hi ⟨by decide, by decide, by decide⟩ ?_
    wtm_at "rd"
    refine use_told R1.hi λ H2 l2 ys s2 n2 h2 p2 => ?_
    have n2' : H l2 = none := by
      cases e : H l2 with
      | none => rfl
      | some o => rw [s1 _ _ e] at n2; cases n2
    have hne : l1 ≠ l2 := ne_of_none h1 n2
    wtm_at "rd"
    refine ⟨(by decide : (2 : Nat) <= sizeLine), λ x hx => ?_⟩
    have s3 := same_new hx (.tup [.ref l1, .ref l2])
    have hx' : H x = none := by
      cases e : H x with
      | none => rfl
      | some o => rw [s2 _ _ (s1 _ _ e)] at hx; cases hx
    have s12 := s1.trans s2
    exact q _ x l1 l2 xs ys (s12.trans s3) hx' n1 n2' hne upd_same (s3 _ _ (s2 _ _ h1)) (pairs_keep (s2.trans s3).tup p1) (s3 _ _ h2) (pairs_keep s3.tup p2)
theorem mo_row_piles (T : Txt K mg L) : ∀ C, okR L C -> MOk P w K mg base (CXE P w) 6 C "piles" ["self"] [] (spRPiles L) := mo_row (T := T) (ok_Midrow_piles T) T.b_Midrow_piles T.me_Midrow_piles
def spRTurn (L : Lk) : Sp := λ vs H Q E => ∃ r p w F s, vs = [.ref r, .int p, .int w] /\ RRep L H r F s /\ w < 2 ^ 250 /\ s.came < 900 /\
  (¬ Share p w -> ∀ H', Same H H' -> E (.ref L.NoShare) none H') /\
  (Share p w -> ∀ H' F' s', RRep L H' r F' s' -> Fr F F' H H' -> s'.part = p -> s'.whole = w -> s'.came = s.came -> s'.all.Perm s.all -> Q .non H')
theorem ok_Midrow_turn (T : Txt K mg L) : FnOk P w K mg base (CXE P w) 18 L.a_Midrow_turn L.d_Midrow_turn ["self", "part", "whole"] (spRTurn L) := by
  refine T.f_Midrow_turn.okX sc_Midrow_turn (λ vs H Q E h => ?_) (λ cdv A outer s H vs Q E hr h => ?_)
  . obtain ⟨r, p, w, F, s, rfl, _⟩ := h
    rfl
  . obtain ⟨r, p, wh, F, st, rfl, R, hw, hc, qE, q⟩ := h
    refine ⟨_, (pss_cons (ps_expr (pe_call (ok_check_share (K := K) T) (hr.mono (by decide)) (by rfl) T.m_check_share T.k_check_share T.b_check_share .nil passX (pa_cons (pv 1) (pa_cons (pv 2) pa_nil))))
      (pss_cons (ps_fldK K (pv 0) (pv 1) rfl)
      (pss_cons (ps_fldK K (pv 0) (pv 2) rfl)
      (pss_one (ps_expr (pe_methD0 (pv 0) (mo_row_settle (K := K) T) (hr.mono (by decide)) .nil pass0X)))))), ?_⟩
    refine rd_start (σ := [some _, some _, some _]) rfl ?_
    obtain ⟨dx, pl, ph, nd, Fl, Fh, kvs, rfl, R0, N, O⟩ := R
    have ln := O.len
    wtm_at "rd"
    refine use_check (λ hs => ?_) λ hs => qE hs H (Same.refl _)
    wtm_at "rd"
    refine ⟨_, _, _, _, rfl, R0.hr, T.cl_Midrow, T.na_Midrow_part, (by decide : (6 : Nat) < 1000), ?_⟩
    obtain ⟨R1, f1⟩ := R0.setR (s' := { st with part := p }) rfl rfl
    rw [show putF "part" (.int p) (rfs st pl ph nd) = rfs { st with part := p } pl ph nd from rfl]
    generalize upd H r _ = H1 at *
    wtm_at "rd"
    refine ⟨_, _, _, _, rfl, R1.hr, T.cl_Midrow, T.na_Midrow_whole, (by decide : (6 : Nat) < 1000), ?_⟩
    obtain ⟨R2, f2⟩ := R1.setR (s' := { st with part := p, whole := wh }) rfl rfl
    rw [show putF "whole" (.int wh) (rfs { st with part := p } pl ph nd) = rfs { st with part := p, whole := wh } pl ph nd from rfl]
    generalize upd H1 r _ = H2 at *
    wtm_at "rd"
    refine use_rraw R2 ⟨by decide, by decide, by decide, by decide, by decide, by decide⟩ ?_
    wtm_at "rd"
    refine ⟨r, dx, pl, ph, nd, Fl, Fh, _, kvs, rfl, R2, N, ⟨hs, O.rng, O.nod, O.flo, O.fhi, O.ord, hw⟩, by show st.all.length < 1000; omega, λ H' Fl' Fh' lo' hi' R' f' pm' O' few => ?_⟩
    exact q hs H' _ { st with part := p, whole := wh, lo := lo', hi := hi' } ⟨dx, pl, ph, nd, Fl', Fh', kvs, rfl, R', N.perm pm', O'⟩ (f1.trans (f2.trans f')) rfl rfl rfl pm'
theorem mo_row_turn (T : Txt K mg L) : ∀ C, okR L C -> MOk P w K mg base (CXE P w) 18 C "turn" ["self", "part", "whole"] [] (spRTurn L) := mo_row (T := T) (ok_Midrow_turn T) T.b_Midrow_turn T.me_Midrow_turn
end
end K06
namespace K06
open PySem L2 Hm
section
variable {P : Program} {w : World} {K : PySem.W.Frag} {mg : Str -> Option Value} {base : Heap} {L : Lk}
theorem use_methR {L : Lk} {H : Hp} {r : Addr} {F : List Addr} {s : RSt} {m : Str} {G : Addr -> Prop} (R : RRep L H r F s) (hm : RwM m) (q : ∀ C, G C) : ∃ a C dx fs, V.ref r = V.ref a /\ H a = some (.ins C dx fs) /\ okR L C /\ fs.lookup m = none /\ G C := by
  obtain ⟨dx, fs, hp, h⟩ := R.at
  exact ⟨r, _, dx, fs, rfl, hp, rfl, h m hm, q _⟩
theorem use_rinit {H : Hp} {p w : Int} {Q : Addr -> Hp -> Prop} {E : XK} (hw : w < 2 ^ 250) (hs : Share p w) (q : ∀ x F H2, RRep L H2 x F ⟨p, w, 0, [], []⟩ -> Fr [] F H H2 -> Q x H2) : ∀ x dx, H x = none -> H dx = none -> dx ≠ x ->
    spRInit L [.ref x, .int p, .int w] (upd (upd H dx (.own x)) x (.ins L.Midrow dx [])) (λ v H2 => v = .non /\ Q x H2) E := by
  intro x dx hx hdx hne
  refine ⟨x, dx, p, w, rfl, upd_same, by rw [upd_ne hne]; exact upd_same, hw, λ _ H2 F R k g => ⟨rfl, q x F H2 R ?_⟩, λ h => absurd hs h⟩
  have keep : ∀ b o, H b = some o -> H2 b = some o := λ b o hb => k b o (ne_of_none hb hx) (by rw [upd_ne (ne_of_none hb hx), upd_ne (ne_of_none hb hdx)]; exact hb)
  refine ⟨λ b o _ hb => keep b o hb, λ b xs hb => keep b _ hb, λ b hb => .inr ?_⟩
  rcases g b hb with rfl | rfl | h
  . exact hx
  . exact hdx
  . by_cases e1 : b = x
    . rw [e1]; exact hx
    . by_cases e2 : b = dx
      . rw [e2]; exact hdx
      . rw [upd_ne e1, upd_ne e2] at h; exact h
theorem rd_ninP {x : V} {kl : Addr} {H : Hp} {Q : VK} {t : Th} {xs : List V} {ks : List Th} (hx : kPair.R H x t) (hl : H kl = some (.lst xs)) (pk : Paired (kPair.R H) xs ks) (hm : t ∈ ks) (q : Q (.bl false) H) : rInD kPair true x (.ref kl) H Q := by
  refine ⟨t, ks, hx, ⟨kl, xs, rfl, hl, pk⟩, ?_⟩
  simp only [if_true, hm, decide_true, Bool.not_true]
  exact q
theorem rd_inP {x : V} {kl : Addr} {H : Hp} {Q : VK} {t : Th} {xs : List V} {ks : List Th} (hx : kPair.R H x t) (hl : H kl = some (.lst xs)) (pk : Paired (kPair.R H) xs ks) (hm : t ∈ ks) (q : Q (.bl true) H) : rInD kPair false x (.ref kl) H Q := by
  refine ⟨t, ks, hx, ⟨kl, xs, rfl, hl, pk⟩, ?_⟩
  simp only [Bool.false_eq_true, if_false, hm, decide_true]
  exact q
theorem rd_compF {K : PySem.W.Frag} {H : Hp} {Q : VK} {σ : St} {j : Nat} {kl : Addr} {xs : List V} {ks : List Th} {tc : TT} {src : List Nat} (f : Th -> Bool) (hσ : σ[j]? = some (some (.ref kl))) (hl : H kl = some (.lst xs)) (pk : Paired (kPair.R H) xs ks) (hz : xs.length <= 1000)
    (he : ∀ x p rest H1 (B : Bool -> Hp -> Prop), rest = src.map (λ i => (σ[i]?).join) -> kPair.R H1 x p -> Same H H1 -> B (f p) H1 -> tc (some x :: rest) H1 B) (q : ∀ D ys, H D = none -> Paired (kPair.R H) ys (ks.filter f) -> Q (.ref D) (upd H D (.lst ys))) : tComp (iList K (tVar j)) (gName 0) tc (tVar 0) src σ H Q := by
  refine ⟨_, hσ, kl, rfl, ⟨xs, SqL.of hl⟩, λ D hD => ?_⟩
  have sm : ∀ ys, Same H (upd H D (.lst ys)) := λ ys => same_new hD _
  have sz : 1000 < sizeLine := by decide
  have lx := pk.len
  refine cmp_list (xs := xs) (λ i ys σ' H' => H' = upd H D (.lst ys) /\ Paired (kPair.R H) ys ((ks.take i).filter f) /\ ∃ o, σ' = o :: src.map (λ i => (σ[i]?).join)) ⟨rfl, by simpa using Paired.nil, none, rfl⟩ ?_ ?_ ?_
  . rintro i ys σ' _ _ ⟨rfl, _, _⟩
    exact SqL.of (sm _ _ _ hl)
  . rintro i x ys _ _ hx ⟨rfl, py, o, rfl⟩
    obtain ⟨p, hpi, rp⟩ := pk.get hx
    have hi : i < ks.length := (List.getElem?_eq_some_iff.mp hpi).1
    have ly := py.len
    have lf : ((ks.take i).filter f).length <= i := Nat.le_trans (List.length_filter_le _ _) (by rw [List.length_take]; omega)
    have et : ks.take (i + 1) = ks.take i ++ [p] := by rw [List.take_add_one, hpi]; rfl
    refine he x p _ _ _ rfl (kPair.same (sm _) rp) (sm _) ?_
    cases e : f p with
    | true =>
      refine iteT ⟨_, rfl, upd_same, by omega, upd_upd, ?_, some x, rfl⟩
      rw [et, List.filter_append, List.filter_cons, if_pos e]
      exact py.app (.cons rp .nil)
    | false =>
      refine iteF ⟨rfl, ?_, some x, rfl⟩
      rw [et, List.filter_append, List.filter_cons, if_neg (by simp [e])]
      simpa using py
  . rintro ys σ' _ ⟨rfl, py, _⟩
    rw [lx, List.take_length] at py
    exact q D ys hD py
def cell (ns : List Int) (k : Int) : Int := ns.getD k.toNat 0
def spAt (K : PySem.W.Frag) : Sp := λ vs H Q _ => ∃ a ns k, vs = [.ref a, .int k] /\ SqL K H a (ns.map V.int) /\ 0 <= k /\ Q (.int (cell ns k)) H
theorem ok__law_at (T : Txt K mg L) : FnOk P w K mg base (CXE P w) 1 L.a__law_at L.d__law_at ["_law_script", "_law_k"] (spAt K) := by
  refine T.f__law_at.ok0 sc__law_at (λ vs H Q E h => ?_) (λ cdv A outer s H vs Q E hr h => ?_)
  . obtain ⟨a, ns, k, rfl, _⟩ := h
    rfl
  . obtain ⟨a, ns, k, rfl, hS, h0, q⟩ := h
    refine ⟨_, (pss_cons (ps_if (pt_cmpR op_lt (pv 1) (pe_callB (call_lenK K) (by rfl) T.z_len bt_len (pa_cons (pv 0) pa_nil)) (nomark _)) (pss_one (ps_ret (pe_ix (ix_listK K) (pv 0) (pv 1) (λ _ _ => rfl)))) pss_nil)
      (pss_one (ps_ret pe_int))), ?_⟩
    refine rd_start (σ := [some _, some _]) rfl ?_
    have hl : (ns.map V.int).length = ns.length := List.length_map _
    wtm_at "rd"
    refine rd_lenL hS ?_
    rw [hl]
    unfold cell at q
    wtm_at "rd"
    . have hk : k.toNat < ns.length := by omega
      have ek : k = ((k.toNat : Nat) : Int) := by omega
      refine rd_ixL (v := .int ns[k.toNat]) hS ?_ ?_
      . refine (congrArg _ ek).trans (atI_nat ?_)
        rw [List.getElem?_map, List.getElem?_eq_getElem hk]; rfl
      . rw [List.getD_eq_getElem?_getD, List.getElem?_eq_getElem hk] at q
        exact q
    . have hk : ns.length <= k.toNat := by omega
      rw [List.getD_eq_getElem?_getD, List.getElem?_eq_none hk] at q
      exact q
theorem use_at {a : Addr} {ns : List Int} {k : Int} {H : Hp} {Q : VK} {E : XK} (hS : SqL K H a (ns.map V.int)) (h0 : 0 <= k) (q : Q (.int (cell ns k)) H) : spAt K ([.ref a, .int k] ++ []) H Q E := ⟨a, ns, k, rfl, hS, h0, q⟩
def spIs : Sp := λ vs H Q _ => ∃ i j : Int, vs = [.int i, .int j] /\ Q (.bl (decide (i = j))) H
theorem ok__law_is (T : Txt K mg L) : FnOk P w K mg base (CXE P w) 1 L.a__law_is L.d__law_is ["_law_found", "_law_due"] spIs := by
  refine T.f__law_is.ok0 sc__law_is (λ vs H Q E h => ?_) (λ cdv A outer s H vs Q E hr h => ?_)
  . obtain ⟨i, j, rfl, _⟩ := h
    rfl
  . obtain ⟨i, j, rfl, q⟩ := h
    refine ⟨_, (pss_one (ps_ret (pe_and (pe_callB (call_isiTK K) (by rfl) T.z_isinstance bt_isinstance (pa_cons (pv 0) (pa_cons (pe_bltn (v := .ty "int") (by rfl) T.z_int bt_int rfl) pa_nil))) (pe_and (pe_not (pe_callB (call_isiTK K) (by rfl) T.z_isinstance bt_isinstance (pa_cons (pv 0) (pa_cons (pe_bltn (v := .ty "bool") (by rfl) T.z_bool bt_bool rfl) pa_nil)))) (pe_one (pe_cmpR op_eq (pv 0) (pv 1) (nomark _))))))), ?_⟩
    refine rd_start (σ := [some _, some _]) rfl ?_
    wtm_at "rd"
    refine ⟨_, _, _, true, rfl, .ty (.int i), by rfl, ?_⟩
    wtm_at "rd"
    refine ⟨_, _, _, false, rfl, .ty (.int i), by kernel_rfl, ?_⟩
    wtm_at "rd"
    exact q
theorem use_is {i j : Int} {H : Hp} {Q : VK} {E : XK} (e : i = j) (q : Q (.bl true) H) : spIs ([.int i, .int j] ++ []) H Q E := ⟨i, j, rfl, by rw [decide_eq_true e]; exact q⟩
def spNumber : Sp := λ vs H Q _ => ∃ c : Int, vs = [.int c] /\ ∀ n : Int, -(10 ^ 60) < n -> n < 10 ^ 60 -> Q (.int n) H
theorem ok__law_number (T : Txt K mg L) : FnOk P w K mg base (CXE P w) 1 L.a__law_number L.d__law_number ["_law_load"] spNumber := by
  refine T.f__law_number.ok0 sc__law_number (λ vs H Q E h => ?_) (λ cdv A outer s H vs Q E hr h => ?_)
  . obtain ⟨c, rfl, _⟩ := h
    rfl
  . obtain ⟨c, rfl, q⟩ := h
    refine ⟨_, (pss_cons (ps_set (i := 1) sc__law_number.nd rfl (Or.inl rfl) (pe_op op_fdivB (pv 0) pe_int))
      (pss_cons (ps_if (pt_cmpR op_eq (pe_op op_mod (pv 0) pe_int) pe_int (nomark _)) (pss_one (ps_ret (pe_op op_sub (pe_op op_mod (pv 1) pe_int) pe_int))) pss_nil)
      (pss_cons (ps_if (pt_cmpR op_eq (pe_op op_mod (pv 0) pe_int) pe_int (nomark _)) (pss_one (ps_ret (pe_op op_sub (pe_op op_mod (pv 1) pe_int) pe_int))) pss_nil)
      (pss_cons (ps_if (pt_cmpR op_eq (pe_op op_mod (pv 0) pe_int) pe_int (nomark _)) (pss_one (ps_ret (pe_op op_sub (pe_op op_mod (pv 1) (pe_op op_add (pe_powc (v := 10 ^ 20) rfl (by decide)) pe_int)) (pe_op op_mulB pe_int (pe_powc (v := 10 ^ 19) rfl (by decide)))))) pss_nil)
      (pss_one (ps_ret (pe_op op_sub (pe_op op_mod (pv 1) (pe_op op_sub (pe_op op_mulB pe_int (pe_powc (v := 10 ^ 60) rfl (by decide))) pe_int)) (pe_op op_sub (pe_powc (v := 10 ^ 60) rfl (by decide)) pe_int)))))))), ?_⟩
    refine rd_start (σ := [some _, none]) rfl ?_
    wtm_at "rd"
    . exact q _ (by omega) (by omega)
    . exact q _ (by omega) (by omega)
    . exact q _ (by omega) (by omega)
    . exact q _ (by omega) (by omega)
theorem use_number {c : Int} {H : Hp} {Q : VK} {E : XK} (q : ∀ n : Int, -(10 ^ 60) < n -> n < 10 ^ 60 -> Q (.int n) H) : spNumber ([.int c] ++ []) H Q E := ⟨c, rfl, q⟩
def spNumbers : Sp := λ vs H Q _ => ∃ (c : Int) (m : Nat), vs = [.int c, .int (m : Nat)] /\ m < 500 /\ ∀ H' l (ns : List Int), Same H H' -> H l = none -> H' l = some (.lst (ns.map V.int)) -> ns.length = m -> Q (.ref l) H'
theorem ok__law_numbers (T : Txt K mg L) : FnOk P w K mg base (CXE P w) 22 L.a__law_numbers L.d__law_numbers ["_law_cell", "_law_many"] spNumbers := by
  refine T.f__law_numbers.ok0 sc__law_numbers (λ vs H Q E h => ?_) (λ cdv A outer s H vs Q E hr h => ?_)
  . obtain ⟨c, m, rfl, _⟩ := h
    rfl
  . obtain ⟨c, m, rfl, hm, q⟩ := h
    refine ⟨_, (pss_cons (ps_set (i := 2) sc__law_numbers.nd rfl (Or.inl rfl) (pe_op op_mod (pv 0) pe_int))
      (pss_cons (ps_set (i := 3) sc__law_numbers.nd rfl (Or.inl rfl) (pe_op op_add (pe_op op_mod (pe_op op_fdivB (pv 0) pe_int) pe_int) pe_int))
      (pss_cons (ps_set (i := 4) sc__law_numbers.nd rfl (Or.inl rfl) (pe_lst pa_nil))
      (pss_cons (ps_for PassesOwn.never rfl (pi_range1 (by rfl) T.z_range (pa_cons (pv 1) pa_nil)) (pg_name (i := 5) sc__law_numbers.nd rfl (Or.inl rfl))
      (pss_cons (ps_set (i := 3) sc__law_numbers.nd rfl (Or.inl rfl) (pe_op op_mod (pe_op op_add (pe_op op_add (pe_op op_mulB (pv 3) (pv 3)) (pe_op op_mulB pe_int (pv 5))) pe_int) pe_int))
      (pss_one (ps_expr (pe_bmK K PySem.F.plainAttrs_list PySem.F.slot_list_append PySem.F.type_list_append mt_append (pv 4) (pa_cons (pe_ix (ix_listK K) (pe_lst (pa_cons (pe_op op_mod (pv 3) pe_int) (pa_cons (pe_op op_fdivB (pv 5) pe_int) (pa_cons (pe_op op_sub (pv 1) (pv 5)) (pa_cons (pe_op op_sub (pe_op op_mod (pv 3) pe_int) pe_int) pa_nil))))) (pv 2) (λ _ _ => rfl)) pa_nil))))))
      (pss_one (ps_ret (pv 4))))))), ?_⟩
    refine rd_start (σ := [some _, some _, none, none, none, none]) rfl ?_
    have sz : 1000 <= sizeLine := by decide
    wtm_at "rd"
    refine ⟨by show 0 <= sizeLine; decide, λ l hl => ?_⟩
    wtm_at "rd"
    refine ⟨_, rfl, by omega, by omega, ?_⟩
    obtain ⟨kd, ekd⟩ : ∃ x, x = c % 4 := ⟨_, rfl⟩
    have k0 : 0 <= kd := by omega
    have k4 : kd < 4 := by omega
    rw [<- ekd]
    refine for_range (λ i σ' H' => (∀ b o, H b = some o -> H' b = some o) /\ ∃ ns : List Int, H' l = some (.lst (ns.map V.int)) /\ ns.length = i /\ ∃ now o, 0 <= now /\ now < 70000 /\ σ' = [some (.int c), some (.int (m : Nat)), some (.int kd), some (.int now), some (.ref l), o]) ?_ ?_ ?_
    . exact ⟨same_new hl _, [], upd_same, rfl, _, none, by omega, by omega, rfl⟩
    . rintro i _ H' hi ⟨s1, ns, hl1, li, now, o, n0, n1, rfl⟩
      rw [Int.zero_add]
      have nn : now * now < 70000 * 70000 := by
        have := Int.mul_le_mul (a := now) (b := now) (c := 69999) (d := 69999) (by omega) (by omega) (by omega) (by omega)
        omega
      wtm_at "rd"
      refine ⟨.inl ⟨rfl, _, SqL.of hl1⟩, ?_⟩
      wtm_at "rd"
      refine ⟨by show 4 <= sizeLine; decide, λ t ht => ?_⟩
      wtm_at "rd"
      have s2 := same_new ht (.lst [V.int ((now * now + 3 * (i : Int) + 31) % 64951 % 9967), V.int ((i : Int) / 2), V.int ((m : Int) - i), V.int ((now * now + 3 * (i : Int) + 31) % 64951 % 5 - 2)])
      have pick : ∃ n : Int, atI [V.int ((now * now + 3 * (i : Int) + 31) % 64951 % 9967), V.int ((i : Int) / 2), V.int ((m : Int) - i), V.int ((now * now + 3 * (i : Int) + 31) % 64951 % 5 - 2)] kd = some (.int n) := by
        have : kd = 0 \/ kd = 1 \/ kd = 2 \/ kd = 3 := by omega
        rcases this with e | e | e | e <;> rw [e] <;> exact ⟨_, rfl⟩
      obtain ⟨n, hn⟩ := pick
      refine rd_ixL (SqL.of upd_same) hn ?_
      wtm_at "rd"
      refine ⟨l, _, .int n, rfl, rfl, s2 _ _ hl1, by rw [List.length_map]; omega, ?_⟩
      wtm_at "rd"
      refine ⟨λ b u hb => ?_, ns ++ [n], by rw [List.map_append]; exact upd_same, by rw [List.length_append, li]; rfl, _, _, by omega, by omega, rfl⟩
      rw [upd_ne (ne_of_none hb hl)]
      exact s2 _ _ (s1 _ _ hb)
    . rintro _ H' ⟨s1, ns, hl1, li, now, o, n0, n1, rfl⟩
      wtm_at "rd"
      exact q H' l ns s1 hl hl1 (by omega)
def spThing : Sp := λ vs H Q _ => ∃ x p, vs = [x] /\ kPair.R H x p /\ Q (.bl true) H
theorem ok__law_thing (T : Txt K mg L) : FnOk P w K mg base (CXE P w) 22 L.a__law_thing L.d__law_thing ["_law_found"] spThing := by
  refine T.f__law_thing.ok0 sc__law_thing (λ vs H Q E h => ?_) (λ cdv A outer s H vs Q E hr h => ?_)
  . obtain ⟨x, p, rfl, _⟩ := h
    rfl
  . obtain ⟨x, p, rfl, hx, q⟩ := h
    refine ⟨_, (pss_cons (ps_if (PW.pt (pw_or (pt_not (pt_val (pe_callB (call_isiTK K) (by rfl) T.z_isinstance bt_isinstance (pa_cons (pv 0) (pa_cons (pe_bltn (v := .ty "tuple") (by rfl) T.z_tuple bt_tuple rfl) pa_nil))))) (pw_or1 (pt_cmpR op_ne (pe_callB (call_lenK K) (by rfl) T.z_len bt_len (pa_cons (pv 0) pa_nil)) pe_int (nomark _))))) (pss_one (ps_ret pe_bl)) pss_nil)
      (pss_one (ps_ret (pe_and (pe_call (ok__law_is (K := K) T) (hr.mono (by decide)) (by rfl) T.m__law_is T.k__law_is T.b__law_is .nil pass0X (pa_cons (pe_ix (ix_tupK K) (pv 0) pe_int (λ _ _ => rfl)) (pa_cons (pe_ix (ix_tupK K) (pv 0) pe_int (λ _ _ => rfl)) pa_nil))) (pe_one (pe_call (ok__law_is (K := K) T) (hr.mono (by decide)) (by rfl) T.m__law_is T.k__law_is T.b__law_is .nil pass0X (pa_cons (pe_ix (ix_tupK K) (pv 0) pe_int (λ _ _ => rfl)) (pa_cons (pe_ix (ix_tupK K) (pv 0) pe_int (λ _ _ => rfl)) pa_nil)))))))), ?_⟩
    refine rd_start (σ := [some _]) rfl ?_
    wtm_at "rd"
    refine ⟨_, _, _, true, rfl, ty_pair hx, by kernel_rfl, ?_⟩
    wtm_at "rd"
    refine rd_lenP hx ?_
    wtm_at "rd"
    refine rd_ixP0 hx ?_
    wtm_at "rd"
    refine rd_ixP0 hx ?_
    wtm_at "rd"
    refine use_is rfl ?_
    wtm_at "rd"
    refine rd_ixP1 hx ?_
    wtm_at "rd"
    refine rd_ixP1 hx ?_
    wtm_at "rd"
    exact use_is rfl q
theorem use_thing {x : V} {p : Th} {H : Hp} {Q : VK} {E : XK} (hx : kPair.R H x p) (q : Q (.bl true) H) : spThing ([x] ++ []) H Q E := ⟨x, p, rfl, hx, q⟩
structure Bef (G : List Addr) (H : Hp) (t : Addr) (lo hi : List Th) : Prop where
  ex : ∃ l1 l2 xs ys, H t = some (.tup [.ref l1, .ref l2]) /\ Out G H l1 (.lst xs) /\ Paired (kPair.R H) xs lo /\ Out G H l2 (.lst ys) /\ Paired (kPair.R H) ys hi
theorem Bef.fr {G G' : List Addr} {H H' : Hp} {t : Addr} {lo hi : List Th} (h : Bef G H t lo hi) (f : Fr G G' H H') : Bef G' H' t lo hi := by
  obtain ⟨l1, l2, xs, ys, h1, h2, h3, h4, h5⟩ := h.ex
  exact ⟨l1, l2, xs, ys, f.tup _ _ h1, f.out h2, pairs_keep f.tup h3, f.out h4, pairs_keep f.tup h5⟩
theorem Bef.kd {G : List Addr} {H : Hp} {t : Addr} {lo hi : List Th} (h : Bef G H t lo hi) : (kTup (kLst kPair) (kLst kPair)).R H (.ref t) (lo, hi) := by
  obtain ⟨l1, l2, xs, ys, h1, h2, h3, h4, h5⟩ := h.ex
  exact ⟨t, _, _, rfl, h1, ⟨l1, xs, rfl, h2.2, h3⟩, ⟨l2, ys, rfl, h4.2, h5⟩⟩
theorem use_piles {H : Hp} {r : Addr} {F : List Addr} {s : RSt} {Q : VK} {E : XK} (R : RRep L H r F s) (q : ∀ H' x l1 l2 xs ys, Same H H' -> H x = none -> H l1 = none -> H l2 = none -> l1 ≠ l2 -> H' x = some (.tup [.ref l1, .ref l2]) -> H' l1 = some (.lst xs) -> Paired (kPair.R H') xs s.lo -> H' l2 = some (.lst ys) -> Paired (kPair.R H') ys s.hi -> Q (.ref x) H') : spRPiles L (.ref r :: ([] ++ [])) H Q E := ⟨r, F, s, rfl, R, q⟩
theorem none_of {H H' : Hp} (s : Same H H') {b : Addr} (h : H' b = none) : H b = none := by
  cases e : H b with
  | none => rfl
  | some o => rw [s _ _ e] at h; cases h
def spForm : Sp := λ vs H Q _ => ∃ l tn xs ts, vs = [.ref l, .bl tn] /\ H l = some (.lst xs) /\ Paired (kPair.R H) xs ts /\ Form (ahP tn) ts /\ ts.length < 1000 /\ Q (.bl true) H
theorem ok__law_form (T : Txt K mg L) : FnOk P w K mg base (CXE P w) 24 L.a__law_form L.d__law_form ["_law_told", "_law_turned_here"] spForm := by
  refine T.f__law_form.ok0 sc__law_form (λ vs H Q E h => ?_) (λ cdv A outer s H vs Q E hr h => ?_)
  . obtain ⟨l, tn, xs, ts, rfl, _⟩ := h
    rfl
  . obtain ⟨l, tn, xs, ts, rfl, hl, hp, hf, hlen, q⟩ := h
    refine ⟨_, (pss_cons (ps_if (pt_not (pt_val (pe_callB (call_isiTK K) (by rfl) T.z_isinstance bt_isinstance (pa_cons (pv 0) (pa_cons (pe_bltn (v := .ty "list") (by rfl) T.z_list bt_list rfl) pa_nil))))) (pss_one (ps_ret pe_bl)) pss_nil)
      (pss_cons (ps_for PassesOwn.never rfl (pi_range1 (by rfl) T.z_range (pa_cons (pe_callB (call_lenK K) (by rfl) T.z_len bt_len (pa_cons (pv 0) pa_nil)) pa_nil)) (pg_name (i := 2) sc__law_form.nd rfl (Or.inl rfl))
      (pss_cons (ps_if (pt_not (pt_val (pe_call (ok__law_thing (K := K) T) (hr.mono (by decide)) (by rfl) T.m__law_thing T.k__law_thing T.b__law_thing .nil pass0X (pa_cons (pe_ix (ix_listK K) (pv 0) (pv 2) (λ _ _ => rfl)) pa_nil)))) (pss_one (ps_ret pe_bl)) pss_nil)
      (pss_cons (ps_set (i := 3) sc__law_form.nd rfl (Or.inl rfl) (pe_ix (ix_listK K) (pv 0) (pe_op op_fdivB (pe_callB (call_max2 rfl) (by rfl) T.z_max bt_max (pa_cons pe_int (pa_cons (pe_op op_sub (pv 2) pe_int) pa_nil))) pe_int) (λ _ _ => rfl)))
      (pss_cons (ps_if (PW.pt (pw_and (pt_val (pv 1)) (pw_and1 (pt_cmpR (op_ltTK K (hu_0 hr)) (pv 3) (pe_ix (ix_listK K) (pv 0) (pv 2) (λ _ _ => rfl)) (nomark _))))) (pss_one (ps_ret pe_bl)) pss_nil)
      (pss_one (ps_if (PW.pt (pw_and (pt_not (pt_val (pv 1))) (pw_and1 (pt_cmpR (op_ltTK K (hu_0 hr)) (pe_ix (ix_listK K) (pv 0) (pv 2) (λ _ _ => rfl)) (pv 3) (nomark _))))) (pss_one (ps_ret pe_bl)) pss_nil))))))
      (pss_one (ps_ret pe_bl)))), ?_⟩
    refine rd_start (σ := [some _, some _, none, none]) rfl ?_
    have el := hp.len
    have O := ahP_ord tn
    wtm_at "rd"
    refine ⟨_, _, _, true, rfl, .ty (.lst hl), by kernel_rfl, ?_⟩
    wtm_at "rd"
    refine rd_lenL (SqL.of hl) ?_
    wtm_at "rd"
    refine ⟨_, rfl, by omega, by omega, ?_⟩
    refine for_range (λ i σ' H' => H' = H /\ ∃ o o2, σ' = [some (.ref l), some (.bl tn), o, o2]) ⟨rfl, _, _, rfl⟩ ?_ ?_
    . rintro i _ _ hi ⟨rfl, o, o2, rfl⟩
      have hi' : i < ts.length := by omega
      have gi : ts[i]? = some ts[i] := List.getElem?_eq_getElem hi'
      have gu : ts[(i - 1) / 2]? = some _ := List.getElem?_eq_getElem (show (i - 1) / 2 < ts.length by omega)
      generalize ts[i] = x at gi
      generalize ts[(i - 1) / 2] = u at gu
      have ne : ¬ ahP tn x u := by
        by_cases h0 : i = 0
        . subst h0
          rw [show (0 - 1) / 2 = 0 from rfl, gi] at gu
          cases gu
          exact O.irr _
        . exact hf i (by omega) x u gi gu
      rw [Int.zero_add]
      wtm_at "rd"
      refine rd_ixLP (SqL.of hl) hp gi λ y hy => ?_
      wtm_at "rd"
      refine use_thing hy ?_
      wtm_at "rd"
      refine ⟨_, _, rfl, ?_⟩
      wtm_at "rd"
      rw [show (if ((i : Nat) : Int) - 1 > 0 then ((i : Nat) : Int) - 1 else 0) / 2 = (((i - 1) / 2 : Nat) : Int) by split <;> omega]
      refine rd_ixLP (SqL.of hl) hp gu λ z hz => ?_
      wtm_at "rd"
      cases tn
      . wtm_at "rd"
        refine rd_ixLP (SqL.of hl) hp gi λ y2 hy2 => ?_
        wtm_at "rd"
        refine rd_ltP hy2 hz ?_
        have e : pLt x u = false := by simpa [ahP, ahd] using ne
        rw [e]
        wtm_at "rd"
        exact ⟨rfl, _, _, rfl⟩
      . wtm_at "rd"
        refine rd_ixLP (SqL.of hl) hp gi λ y2 hy2 => ?_
        wtm_at "rd"
        refine rd_ltP hz hy2 ?_
        have e : pLt u x = false := by simpa [ahP, ahd] using ne
        rw [e]
        wtm_at "rd"
        exact ⟨rfl, _, _, rfl⟩
    . rintro _ _ ⟨rfl, o, o2, rfl⟩
      wtm_at "rd"
      exact q
theorem use_form {l : Addr} {tn : Bool} {xs : List V} {ts : List Th} {H : Hp} {Q : VK} {E : XK} (hl : H l = some (.lst xs)) (hp : Paired (kPair.R H) xs ts) (hf : Form (ahP tn) ts) (hn : ts.length < 1000) (q : Q (.bl true) H) : spForm ([.ref l, .bl tn] ++ []) H Q E := ⟨l, tn, xs, ts, rfl, hl, hp, hf, hn, q⟩
def spLEmp (L : Lk) : Sp := λ vs H Q _ => ∃ r F s, vs = [.ref r] /\ RRep L H r F s /\ s.all = [] /\ ∀ H', Same H H' -> Q (.bl true) H'
theorem ok__law_empty (T : Txt K mg L) : FnOk P w K mg base (CXE P w) 22 L.a__law_empty L.d__law_empty ["_law_row"] (spLEmp L) := by
  refine T.f__law_empty.ok0 sc__law_empty (λ vs H Q E h => ?_) (λ cdv A outer s H vs Q E hr h => ?_)
  . obtain ⟨r, F, st, rfl, _⟩ := h
    rfl
  . obtain ⟨r, F, st, rfl, R, hn, q⟩ := h
    refine ⟨_, (pss_cons (ps_try ⟨rfl, rfl, rfl⟩ (λ pins σ E1 E' hx => (pe_methD0At (pv 0) (mo_row_share (K := K) T) (hr.mono (by decide)) .nil hx)) (ph_as ⟨rfl, rfl, rfl⟩ (by rfl) T.m_MidError sc__law_empty.nd (i := 1) rfl rfl (λ e => (pss_cons (ps_set (i := 2) sc__law_empty.nd rfl (Or.inl rfl) (pe_callB (call_isiXK K) (by rfl) T.z_isinstance bt_isinstance (pa_cons (pv 1) (pa_cons (pe_tup (pa_cons (pe_glob (v := .ref L.NoShare) (by rfl) T.m_NoShare rfl) (pa_cons (pe_glob (v := .ref L.NoThing) (by rfl) T.m_NoThing rfl) (pa_cons (pe_glob (v := .ref L.NoWidth) (by rfl) T.m_NoWidth rfl) (pa_cons (pe_glob (v := .ref L.Twice) (by rfl) T.m_Twice rfl) pa_nil))))) pa_nil))))
      (pss_one (ps_ret (pe_and (pe_callB (call_isiK K) (by rfl) T.z_isinstance bt_isinstance (pa_cons (pv 1) (pa_cons (pe_glob (v := .ref L.Empty) (by rfl) T.m_Empty rfl) pa_nil))) (pe_and (pe_callB (call_isiTK K) (by rfl) T.z_isinstance bt_isinstance (pa_cons (pv 1) (pa_cons (pe_bltn (v := .ty "ValueError") (by rfl) T.z_ValueError bt_ValueError rfl) pa_nil))) (pe_one (pe_not (pv 2)))))))))))
      (pss_one (ps_ret pe_bl))), ?_⟩
    refine rd_start (σ := [some _, none, none]) rfl ?_
    wtm_at "rd"
    refine use_methR R (by unfold RwM; decide) λ _ => ?_
    wtm_at "rd"
    refine ⟨r, F, st, rfl, R, λ _ H' s' => ⟨_, rfl, T.tk_Empty, λ e he => ?_⟩, λ x t h0 => ?_⟩
    . exact rd_caught (i := 1) (j := 2) (σ := [_, _, _]) T.e_Empty T.ka_Empty T.ks_Empty T.kv_Empty he (by show 1 < 3; decide) (by show 2 < 3; decide) (by decide) λ H'' s'' => q _ (s'.trans s'')
    . have : t ∈ st.all := List.mem_append_left _ (List.mem_of_getElem? h0)
      rw [hn] at this; cases this
def spNoShare (L : Lk) : Sp := λ vs H Q _ => ∃ r p w F s, vs = [.ref r, .int p, .int w] /\ RRep L H r F s /\ w < 2 ^ 250 /\ s.came < 900 /\ ¬ Share p w /\ ∀ H', Same H H' -> Q (.bl true) H'
theorem ok__law_no_share (T : Txt K mg L) : FnOk P w K mg base (CXE P w) 22 L.a__law_no_share L.d__law_no_share ["_law_row", "_law_part", "_law_whole"] (spNoShare L) := by
  refine T.f__law_no_share.ok0 sc__law_no_share (λ vs H Q E h => ?_) (λ cdv A outer s H vs Q E hr h => ?_)
  . obtain ⟨r, p, wh, F, st, rfl, _⟩ := h
    rfl
  . obtain ⟨r, p, wh, F, st, rfl, R, hw, hc, hn, q⟩ := h
    refine ⟨_, (pss_cons (ps_try ⟨rfl, rfl, rfl⟩ (λ pins σ E1 E' hx => (pe_methDAt (pv 0) (mo_row_turn (K := K) T) (hr.mono (by decide)) .nil hx (pa_cons (pv 1) (pa_cons (pv 2) pa_nil)))) (ph_as ⟨rfl, rfl, rfl⟩ (by rfl) T.m_MidError sc__law_no_share.nd (i := 3) rfl rfl (λ e => (pss_cons (ps_set (i := 4) sc__law_no_share.nd rfl (Or.inl rfl) (pe_callB (call_isiXK K) (by rfl) T.z_isinstance bt_isinstance (pa_cons (pv 3) (pa_cons (pe_tup (pa_cons (pe_glob (v := .ref L.Empty) (by rfl) T.m_Empty rfl) (pa_cons (pe_glob (v := .ref L.NoThing) (by rfl) T.m_NoThing rfl) (pa_cons (pe_glob (v := .ref L.NoWidth) (by rfl) T.m_NoWidth rfl) (pa_cons (pe_glob (v := .ref L.Twice) (by rfl) T.m_Twice rfl) pa_nil))))) pa_nil))))
      (pss_one (ps_ret (pe_and (pe_callB (call_isiK K) (by rfl) T.z_isinstance bt_isinstance (pa_cons (pv 3) (pa_cons (pe_glob (v := .ref L.NoShare) (by rfl) T.m_NoShare rfl) pa_nil))) (pe_and (pe_callB (call_isiTK K) (by rfl) T.z_isinstance bt_isinstance (pa_cons (pv 3) (pa_cons (pe_bltn (v := .ty "ValueError") (by rfl) T.z_ValueError bt_ValueError rfl) pa_nil))) (pe_one (pe_not (pv 4)))))))))))
      (pss_one (ps_ret pe_bl))), ?_⟩
    refine rd_start (σ := [some _, some _, some _, none, none]) rfl ?_
    wtm_at "rd"
    refine use_methR R (by unfold RwM; decide) λ _ => ?_
    wtm_at "rd"
    refine ⟨r, p, wh, F, st, rfl, R, hw, hc, λ _ H' s' => ⟨_, rfl, T.tk_NoShare, λ e he => ?_⟩, λ h => absurd h hn⟩
    exact rd_caught (i := 3) (j := 4) (σ := [_, _, _, _, _]) T.e_NoShare T.ka_NoShare T.ks_NoShare T.kv_NoShare he (by show 3 < 5; decide) (by show 4 < 5; decide) (by decide) λ H'' s'' => q _ (s'.trans s'')
def spNoRow (L : Lk) : Sp := λ vs H Q _ => ∃ p w : Int, vs = [.int p, .int w] /\ w < 2 ^ 250 /\ ¬ Share p w /\ ∀ H', Same H H' -> Q (.bl true) H'
theorem ok__law_no_row (T : Txt K mg L) : FnOk P w K mg base (CXE P w) 22 L.a__law_no_row L.d__law_no_row ["_law_part", "_law_whole"] (spNoRow L) := by
  refine T.f__law_no_row.ok0 sc__law_no_row (λ vs H Q E h => ?_) (λ cdv A outer s H vs Q E hr h => ?_)
  . obtain ⟨p, wh, rfl, _⟩ := h
    rfl
  . obtain ⟨p, wh, rfl, hw, hn, q⟩ := h
    refine ⟨_, (pss_cons (ps_try ⟨rfl, rfl, rfl⟩ (λ pins σ E1 E' hx => (pe_makeAt T.mk_Midrow (ok_Midrow___init__ (K := K) T) (hr.mono (by decide)) (by rfl) T.m_Midrow T.b_Midrow___init__ .nil hx (pa_cons (pv 0) (pa_cons (pv 1) pa_nil)))) (ph_as ⟨rfl, rfl, rfl⟩ (by rfl) T.m_MidError sc__law_no_row.nd (i := 2) rfl rfl (λ e => (pss_cons (ps_set (i := 3) sc__law_no_row.nd rfl (Or.inl rfl) (pe_callB (call_isiXK K) (by rfl) T.z_isinstance bt_isinstance (pa_cons (pv 2) (pa_cons (pe_tup (pa_cons (pe_glob (v := .ref L.Empty) (by rfl) T.m_Empty rfl) (pa_cons (pe_glob (v := .ref L.NoThing) (by rfl) T.m_NoThing rfl) (pa_cons (pe_glob (v := .ref L.NoWidth) (by rfl) T.m_NoWidth rfl) (pa_cons (pe_glob (v := .ref L.Twice) (by rfl) T.m_Twice rfl) pa_nil))))) pa_nil))))
      (pss_one (ps_ret (pe_and (pe_callB (call_isiK K) (by rfl) T.z_isinstance bt_isinstance (pa_cons (pv 2) (pa_cons (pe_glob (v := .ref L.NoShare) (by rfl) T.m_NoShare rfl) pa_nil))) (pe_and (pe_callB (call_isiTK K) (by rfl) T.z_isinstance bt_isinstance (pa_cons (pv 2) (pa_cons (pe_bltn (v := .ty "ValueError") (by rfl) T.z_ValueError bt_ValueError rfl) pa_nil))) (pe_one (pe_not (pv 3)))))))))))
      (pss_one (ps_ret pe_bl))), ?_⟩
    refine rd_start (σ := [some _, some _, none, none]) rfl ?_
    wtm_at "rd"
    intro x dx hx hdx hne
    refine ⟨x, dx, p, wh, rfl, upd_same, by rw [upd_ne hne]; exact upd_same, hw, λ h => absurd h hn, λ _ H' k' => ⟨_, rfl, T.tk_NoShare, λ e he => ?_⟩⟩
    have s' : Same H H' := λ b o hb => k' b o (ne_of_none hb hx) (by rw [upd_ne (ne_of_none hb hx), upd_ne (ne_of_none hb hdx)]; exact hb)
    exact rd_caught (i := 2) (j := 3) (σ := [_, _, _, _]) T.e_NoShare T.ka_NoShare T.ks_NoShare T.kv_NoShare he (by show 2 < 4; decide) (by show 3 < 4; decide) (by decide) λ H'' s'' => q _ (s'.trans s'')
def spMade (L : Lk) : Sp := λ vs H Q _ => ∃ c p w : Int, vs = [.int c, .int p, .int w] /\ Share p w /\ w < 2 ^ 250 /\ ∀ p' w' x F t H', Share p' w' -> w' < 2 ^ 250 -> RRep L H' x F ⟨p', w', 0, [], []⟩ -> Fr [] F H H' -> H' t = some (.tup [.ref x, .int p', .int w']) -> Q (.ref t) H'
theorem ok__law_made (T : Txt K mg L) : FnOk P w K mg base (CXE P w) 22 L.a__law_made L.d__law_made ["_law_cell", "_law_part", "_law_whole"] (spMade L) := by
  refine T.f__law_made.ok0 sc__law_made (λ vs H Q E h => ?_) (λ cdv A outer s H vs Q E hr h => ?_)
  . obtain ⟨c, p, wh, rfl, _⟩ := h
    rfl
  . obtain ⟨c, p, wh, rfl, hs, hw, q⟩ := h
    refine ⟨_, (pss_cons (ps_if (pt_cmpR op_eq (pe_op op_mod (pv 0) pe_int) pe_int (nomark _)) (pss_one (ps_ret (pe_tup (pa_cons (pe_make0 T.mk_Midrow (ok_Midrow___init__ (K := K) T) (hr.mono (by decide)) (by rfl) T.m_Midrow T.b_Midrow___init___2 T.v_Midrow___init___2 pass0X) (pa_cons pe_int (pa_cons pe_int pa_nil)))))) pss_nil)
      (pss_cons (ps_if (pt_cmpR op_eq (pe_op op_mod (pv 0) pe_int) pe_int (nomark _)) (pss_one (ps_ret (pe_tup (pa_cons (pe_make T.mk_Midrow (ok_Midrow___init__ (K := K) T) (hr.mono (by decide)) (by rfl) T.m_Midrow T.b_Midrow___init___1 T.v_Midrow___init___1 pass0X (pa_cons (pe_op op_mod (pv 1) pe_int) pa_nil)) (pa_cons (pe_op op_mod (pv 1) pe_int) (pa_cons pe_int pa_nil)))))) pss_nil)
      (pss_one (ps_ret (pe_tup (pa_cons (pe_make T.mk_Midrow (ok_Midrow___init__ (K := K) T) (hr.mono (by decide)) (by rfl) T.m_Midrow T.b_Midrow___init__ .nil pass0X (pa_cons (pv 1) (pa_cons (pv 2) pa_nil))) (pa_cons (pv 1) (pa_cons (pv 2) pa_nil)))))))), ?_⟩
    refine rd_start (σ := [some _, some _, some _]) rfl ?_
    obtain ⟨w1, p0, pw⟩ := hs
    wtm_at "rd"
    . refine use_rinit (L := L) (by decide) ⟨by decide, by decide, by decide⟩ λ x F H1 R f1 => ?_
      wtm_at "rd"
      refine ⟨(by decide : (3 : Nat) <= sizeLine), λ t ht => ?_⟩
      have s2 := same_new ht (.tup [V.ref x, V.int 1, V.int 2])
      exact q 1 2 x F t _ ⟨by decide, by decide, by decide⟩ (by decide) (R.same s2) (f1.trans (.of_same s2)) upd_same
    . refine use_rinit (L := L) (by decide) ⟨by omega, by omega, by omega⟩ λ x F H1 R f1 => ?_
      wtm_at "rd"
      refine ⟨(by decide : (3 : Nat) <= sizeLine), λ t ht => ?_⟩
      have s2 := same_new ht (.tup [V.ref x, V.int (p % 3), V.int 2])
      exact q (p % 3) 2 x F t _ ⟨by omega, by omega, by omega⟩ (by decide) (R.same s2) (f1.trans (.of_same s2)) upd_same
    . refine use_rinit (L := L) hw ⟨w1, p0, pw⟩ λ x F H1 R f1 => ?_
      wtm_at "rd"
      refine ⟨(by decide : (3 : Nat) <= sizeLine), λ t ht => ?_⟩
      have s2 := same_new ht (.tup [V.ref x, V.int p, V.int wh])
      exact q p wh x F t _ ⟨w1, p0, pw⟩ hw (R.same s2) (f1.trans (.of_same s2)) upd_same
def spNoThing6 (L : Lk) : Sp := λ vs H Q _ => ∃ r c F s, vs = [.ref r, .int c] /\ RRep L H r F s /\ s.came < 900 /\ (∀ u ∈ s.all, u.2 ≠ c) /\ ∀ H' F', RRep L H' r F' s -> Fr F F' H H' -> Q (.bl true) H'
theorem ok__law_no_thing (T : Txt K mg L) : FnOk P w K mg base (CXE P w) 22 L.a__law_no_thing L.d__law_no_thing ["_law_row", "_law_coming"] (spNoThing6 L) := by
  refine T.f__law_no_thing.ok0 sc__law_no_thing (λ vs H Q E h => ?_) (λ cdv A outer s H vs Q E hr h => ?_)
  . obtain ⟨r, c, F, st, rfl, _⟩ := h
    rfl
  . obtain ⟨r, c, F, st, rfl, R, hc, hn, q⟩ := h
    refine ⟨_, (pss_cons (ps_try ⟨rfl, rfl, rfl⟩ (λ pins σ E1 E' hx => (pe_methDAt (pv 0) (mo_row_take (K := K) T) (hr.mono (by decide)) .nil hx (pa_cons (pv 1) pa_nil))) (ph_bare ⟨rfl, rfl, rfl⟩ (by rfl) T.m_NoThing (λ e => (pss_one (ps_ret pe_bl)))))
      (pss_one (ps_ret pe_bl))), ?_⟩
    refine rd_start (σ := [some _, some _]) rfl ?_
    wtm_at "rd"
    refine use_methR R (by unfold RwM; decide) λ _ => ?_
    wtm_at "rd"
    refine ⟨r, c, F, st, rfl, R, hc, λ _ H' F' R' f' => ⟨_, rfl, T.ts_NoThing, ?_⟩, λ t ht et => absurd et (hn t ht)⟩
    wtm_at "rd"
    exact q _ F' R' f'
structure R6 (L : Lk) (H : Hp) (r : Addr) (F : List Addr) (s : RSt) (kl : Addr) (ks : List Th) (sl : Addr) : Prop where
  r : RRep L H r F s
  pm : s.all.Perm ks
  srt : ks.Pairwise (λ a b => a.2 < b.2)
  ex : ∃ xs, Out F H kl (.lst xs) /\ Paired (kPair.R H) xs ks
  os : Out F H sl (.lst [.int (s.came : Nat), .int s.part, .int s.whole])
  ne : kl ≠ sl
theorem R6.step {H H' : Hp} {r kl sl : Addr} {F F' : List Addr} {s : RSt} {ks : List Th} (S : R6 L H r F s kl ks sl) (R : RRep L H' r F' s) (f : Fr F F' H H') : R6 L H' r F' s kl ks sl := by
  obtain ⟨xs, o, pk⟩ := S.ex
  exact ⟨R, S.pm, S.srt, ⟨xs, f.out o, pairs_keep f.tup pk⟩, f.out S.os, S.ne⟩
theorem R6.same {H H' : Hp} {r kl sl : Addr} {F : List Addr} {s : RSt} {ks : List Th} (S : R6 L H r F s kl ks sl) (e : Same H H') : R6 L H' r F s kl ks sl := S.step (S.r.same e) (.of_same e)
theorem R6.len {H : Hp} {r kl sl : Addr} {F : List Addr} {s : RSt} {ks : List Th} (S : R6 L H r F s kl ks sl) : ks.length <= s.came := by
  rw [<- S.pm.length_eq]; exact S.r.ok.len
theorem R6.dom {H : Hp} {r kl sl : Addr} {F : List Addr} {s : RSt} {ks : List Th} (S : R6 L H r F s kl ks sl) : ∀ b ∈ kl :: sl :: F, H b ≠ none := λ b hb => by
  obtain ⟨xs, o, _⟩ := S.ex
  simp only [List.mem_cons] at hb
  rcases hb with rfl | rfl | hb
  . rw [o.2]; simp
  . rw [S.os.2]; simp
  . exact S.r.dom b hb
theorem Fr.cons2 {F F' : List Addr} {H H' : Hp} (f : Fr F F' H H') (k l : Addr) : Fr (k :: l :: F) (k :: l :: F') H H' := (f.cons l).cons k
def spPut6 (L : Lk) : Sp := λ vs H Q _ => ∃ r kl sl n F s ks, vs = [.ref r, .ref kl, .ref sl, .int n] /\ R6 L H r F s kl ks sl /\ s.came < 800 /\
  ∀ H' F' s' ks', R6 L H' r F' s' kl ks' sl -> s'.came = s.came + 1 -> Fr (kl :: sl :: F) (kl :: sl :: F') H H' -> Q (.bl true) H'
theorem ok__law_put (T : Txt K mg L) : FnOk P w K mg base (CXE P w) 24 L.a__law_put L.d__law_put ["_law_row", "_law_kept", "_law_state", "_law_number_here"] (spPut6 L) := by
  refine T.f__law_put.ok0 sc__law_put (λ vs H Q E h => ?_) (λ cdv A outer s H vs Q E hr h => ?_)
  . obtain ⟨r, kl, sl, n, F, st, ks, rfl, _⟩ := h
    rfl
  . obtain ⟨r, kl, sl, n, F, st, ks, rfl, S, hc, q⟩ := h
    refine ⟨_, (pss_cons (ps_asg (pe_op op_add (pe_ix (ix_listK K) (pv 2) pe_int (λ _ _ => rfl)) pe_int) (pg_sub (pv 2) pe_int set_list))
      (pss_cons (ps_expr (pe_bmK K PySem.F.plainAttrs_list PySem.F.slot_list_append PySem.F.type_list_append mt_append (pv 1) (pa_cons (pe_tup (pa_cons (pv 3) (pa_cons (pe_ix (ix_listK K) (pv 2) pe_int (λ _ _ => rfl)) pa_nil))) pa_nil)))
      (pss_one (ps_ret (pe_call (ok__law_is (K := K) T) (hr.mono (by decide)) (by rfl) T.m__law_is T.k__law_is T.b__law_is .nil pass0X (pa_cons (pe_methD (pv 0) (mo_row_put (K := K) T) (hr.mono (by decide)) .nil pass0X (pa_cons (pv 3) pa_nil)) (pa_cons (pe_ix (ix_listK K) (pv 2) pe_int (λ _ _ => rfl)) pa_nil))))))), ?_⟩
    refine rd_start (σ := [some _, some _, some _, some _]) rfl ?_
    have sz : 1000 <= sizeLine := by decide
    have lk := S.len
    obtain ⟨xs, o, pk⟩ := S.ex
    have lx := pk.len
    have os := S.os
    wtm_at "rd"
    refine rd_ixL (v := .int (st.came : Nat)) (SqL.of os.2) rfl ?_
    wtm_at "rd"
    rw [show ((st.came : Nat) : Int) + 1 = ((st.came + 1 : Nat) : Int) by omega]
    refine ⟨sl, _, _, 0, rfl, rfl, os.2, rfl, ?_⟩
    rw [show [V.int (st.came : Nat), V.int st.part, V.int st.whole].set 0 (V.int ((st.came + 1 : Nat) : Int)) = [V.int ((st.came + 1 : Nat) : Int), V.int st.part, V.int st.whole] from rfl]
    have w1 : Fr (kl :: sl :: F) (kl :: sl :: F) H (upd H sl (.lst [V.int ((st.came + 1 : Nat) : Int), V.int st.part, V.int st.whole])) := .write (by simp) os.2
    have R1 : RRep L (upd H sl (.lst [V.int ((st.came + 1 : Nat) : Int), V.int st.part, V.int st.whole])) r F st := S.r.keep (λ b o' hb q' => by rw [upd_ne (λ e => os.1 (by rw [<- e]; exact hb))]; exact q') w1.tup
    have o1 : Out F (upd H sl (.lst [V.int ((st.came + 1 : Nat) : Int), V.int st.part, V.int st.whole])) kl (.lst xs) := ⟨o.1, by rw [upd_ne S.ne]; exact o.2⟩
    have os1 : Out F (upd H sl (.lst [V.int ((st.came + 1 : Nat) : Int), V.int st.part, V.int st.whole])) sl (.lst [V.int ((st.came + 1 : Nat) : Int), V.int st.part, V.int st.whole]) := ⟨os.1, upd_same⟩
    have pk1 := pairs_keep w1.tup pk
    generalize upd H sl (.lst [V.int ((st.came + 1 : Nat) : Int), V.int st.part, V.int st.whole]) = H1 at *
    wtm_at "rd"
    refine ⟨.inl ⟨rfl, _, SqL.of o1.2⟩, ?_⟩
    wtm_at "rd"
    refine rd_ixL (v := .int ((st.came + 1 : Nat) : Int)) (SqL.of os1.2) rfl ?_
    wtm_at "rd"
    refine ⟨(by decide : (2 : Nat) <= sizeLine), λ t ht => ?_⟩
    have s2 := same_new ht (.tup [V.int n, V.int ((st.came + 1 : Nat) : Int)])
    have hT : kPair.R (upd H1 t (.tup [V.int n, V.int ((st.came + 1 : Nat) : Int)])) (.ref t) (n, ((st.came + 1 : Nat) : Int)) := kPair_of upd_same
    have R2 := R1.same s2
    have o2 := s2.out o1
    have os2 := s2.out os1
    have pk2 := pairs_keep s2.tup pk1
    have f2 := w1.trans (.of_same (F := kl :: sl :: F) s2)
    generalize upd H1 t (.tup [V.int n, V.int ((st.came + 1 : Nat) : Int)]) = H2 at *
    wtm_at "rd"
    refine ⟨kl, xs, .ref t, rfl, rfl, o2.2, by omega, ?_⟩
    have w3 : Fr (kl :: sl :: F) (kl :: sl :: F) H2 (upd H2 kl (.lst (xs ++ [.ref t]))) := .write (by simp) o2.2
    have R3 : RRep L (upd H2 kl (.lst (xs ++ [.ref t]))) r F st := R2.keep (λ b o' hb q' => by rw [upd_ne (λ e => o2.1 (by rw [<- e]; exact hb))]; exact q') w3.tup
    have o3 : Out F (upd H2 kl (.lst (xs ++ [.ref t]))) kl (.lst (xs ++ [.ref t])) := ⟨o2.1, upd_same⟩
    have os3 : Out F (upd H2 kl (.lst (xs ++ [.ref t]))) sl (.lst [V.int ((st.came + 1 : Nat) : Int), V.int st.part, V.int st.whole]) := ⟨os2.1, by rw [upd_ne (Ne.symm S.ne)]; exact os2.2⟩
    have pk3 := (pairs_keep w3.tup pk2).app (.cons (pairs_tup w3.tup hT) .nil)
    have f3 := f2.trans w3
    generalize upd H2 kl (.lst (xs ++ [.ref t])) = H3 at *
    wtm_at "rd"
    refine use_methR R3 (by unfold RwM; decide) λ _ => ?_
    wtm_at "rd"
    refine ⟨r, n, F, st, rfl, R3, by omega, λ H4 F4 s4 R4 f4 e1 e2 e3 pm4 _ _ => ?_⟩
    have os4 := f4.out os3
    wtm_at "rd"
    refine rd_ixL (v := .int ((st.came + 1 : Nat) : Int)) (SqL.of os4.2) rfl ?_
    wtm_at "rd"
    refine use_is rfl (q H4 F4 s4 (ks ++ [(n, ((st.came + 1 : Nat) : Int))]) ⟨R4, pm4.trans ((S.pm.cons _).trans (List.perm_append_singleton _ _).symm), ?_, ⟨_, f4.out o3, pairs_keep f4.tup pk3⟩, by rw [e1, e2, e3]; exact os4, S.ne⟩ e3 (f3.trans (Fr.cons2 f4 kl sl)))
    refine List.pairwise_append.mpr ⟨S.srt, by simp, λ u hu v hv => ?_⟩
    have e : v = (n, ((st.came + 1 : Nat) : Int)) := by simpa using hv
    have := S.r.ok.rng u (S.pm.mem_iff.mpr hu)
    rw [e]
    show u.2 < ((st.came + 1 : Nat) : Int)
    omega
def spTaken6 (L : Lk) : Sp := λ vs H Q _ => ∃ r kl sl j t F s ks, vs = [.ref r, .ref kl, .int ((j : Nat) : Int)] /\ R6 L H r F s kl ks sl /\ ks[j]? = some t /\ s.came < 900 /\
  ∀ H' F' s' ks', R6 L H' r F' s' kl ks' sl -> s'.came = s.came -> Fr (kl :: sl :: F) (kl :: sl :: F') H H' -> Q (.bl true) H'
theorem ok__law_taken (T : Txt K mg L) : FnOk P w K mg base (CXE P w) 24 L.a__law_taken L.d__law_taken ["_law_row", "_law_kept", "_law_at_here"] (spTaken6 L) := by
  refine T.f__law_taken.ok0 sc__law_taken (λ vs H Q E h => ?_) (λ cdv A outer s H vs Q E hr h => ?_)
  . obtain ⟨r, kl, sl, j, t, F, st, ks, rfl, _⟩ := h
    rfl
  . obtain ⟨r, kl, sl, j, t, F, st, ks, rfl, S, hj, hc, q⟩ := h
    refine ⟨_, (pss_cons (ps_set (i := 3) sc__law_taken.nd rfl (Or.inl rfl) (pe_bmK K PySem.F.plainAttrs_list PySem.F.slot_list_pop PySem.F.type_list_pop mt_popAt (pv 1) (pa_cons (pv 2) pa_nil)))
      (pss_one (ps_ret (pe_call (ok__law_is (K := K) T) (hr.mono (by decide)) (by rfl) T.m__law_is T.k__law_is T.b__law_is .nil pass0X (pa_cons (pe_methD (pv 0) (mo_row_take (K := K) T) (hr.mono (by decide)) .nil pass0X (pa_cons (pe_ix (ix_tupK K) (pv 3) pe_int (λ _ _ => rfl)) pa_nil)) (pa_cons (pe_ix (ix_tupK K) (pv 3) pe_int (λ _ _ => rfl)) pa_nil)))))), ?_⟩
    refine rd_start (σ := [some _, some _, some _, none]) rfl ?_
    obtain ⟨xs, o, pk⟩ := S.ex
    have lx := pk.len
    have lk := S.len
    have sz : 1000 <= sizeLine := by decide
    obtain ⟨y, hy, ry⟩ := pk.get' hj
    wtm_at "rd"
    refine ⟨.inl ⟨rfl, xs, SqL.of o.2⟩, ?_⟩
    wtm_at "rd"
    refine popat_ok o.2 (by omega) hy ?_
    have w1 : Fr (kl :: sl :: F) (kl :: sl :: F) H (upd H kl (.lst (xs.eraseIdx j))) := .write (by simp) o.2
    have R1 : RRep L (upd H kl (.lst (xs.eraseIdx j))) r F st := S.r.keep (λ c o' hc' q' => by rw [upd_ne (λ e => o.1 (by rw [<- e]; exact hc'))]; exact q') w1.tup
    have os1 : Out F (upd H kl (.lst (xs.eraseIdx j))) sl (.lst [.int (st.came : Nat), .int st.part, .int st.whole]) := ⟨S.os.1, by rw [upd_ne (Ne.symm S.ne)]; exact S.os.2⟩
    wtm_at "rd"
    refine use_methR R1 (by unfold RwM; decide) λ _ => ?_
    wtm_at "rd"
    refine rd_ixP1 (pairs_tup w1.tup ry) ?_
    wtm_at "rd"
    have hm : t ∈ st.all := S.pm.mem_iff.mpr (List.mem_of_getElem? hj)
    refine ⟨r, t.2, F, st, rfl, R1, hc, λ h => absurd rfl (h t hm), λ t' ht' et H2 F2 s2 R2 f2 e1 e2 e3 pm2 _ _ => ?_⟩
    obtain rfl := nodup_inj S.r.ok.nod ht' hm et
    wtm_at "rd"
    refine rd_ixP0 (pairs_tup f2.tup (pairs_tup w1.tup ry)) ?_
    wtm_at "rd"
    refine use_is rfl (q H2 F2 s2 (ks.eraseIdx j) ⟨R2, ?_, S.srt.sublist (List.eraseIdx_sublist _ _), ⟨xs.eraseIdx j, f2.out ⟨o.1, upd_same⟩, pairs_keep f2.tup (pairs_keep w1.tup (L2.Paired.erase j pk))⟩, by rw [e1, e2, e3]; exact f2.out os1, S.ne⟩ e3 (w1.trans (Fr.cons2 f2 kl sl)))
    exact (List.perm_cons t').mp (pm2.symm.trans (S.pm.trans (erase_perm hj)))
def spTakenH (L : Lk) : Sp := λ vs H Q _ => ∃ r kl sl x t F s ks, vs = [.ref r, .ref kl, x] /\ R6 L H r F s kl ks sl /\ kPair.R H x t /\ t ∈ ks /\ s.came < 900 /\
  ∀ H' F' s' ks', R6 L H' r F' s' kl ks' sl -> s'.came = s.came -> Fr (kl :: sl :: F) (kl :: sl :: F') H H' -> Q (.bl true) H'
theorem ok__law_taken_here (T : Txt K mg L) : FnOk P w K mg base (CXE P w) 26 L.a__law_taken_here L.d__law_taken_here ["_law_row", "_law_kept", "_law_thing_here"] (spTakenH L) := by
  refine T.f__law_taken_here.ok0 sc__law_taken_here (λ vs H Q E h => ?_) (λ cdv A outer s H vs Q E hr h => ?_)
  . obtain ⟨r, kl, sl, x, t, F, st, ks, rfl, _⟩ := h
    rfl
  . obtain ⟨r, kl, sl, x, t, F, st, ks, rfl, S, hx, hm, hc, q⟩ := h
    refine ⟨_, (pss_one (ps_ret (pe_and (pe_cmpR (op_inD kPair (hu_k hr (by decide))) (pv 2) (pv 1) rfl) (pe_one (pe_call (ok__law_taken (K := K) T) (hr.mono (by decide)) (by rfl) T.m__law_taken T.k__law_taken T.b__law_taken .nil pass0X (pa_cons (pv 0) (pa_cons (pv 1) (pa_cons (pe_bmK K PySem.F.plainAttrs_list PySem.F.slot_list_index PySem.F.type_list_index (mt_indexD kPair (hu_k hr (by decide))) (pv 1) (pa_cons (pv 2) pa_nil)) pa_nil)))))))), ?_⟩
    refine rd_start (σ := [some _, some _, some _]) rfl ?_
    obtain ⟨xs, o, pk⟩ := S.ex
    wtm_at "rd"
    refine rd_inP hx o.2 pk hm ?_
    wtm_at "rd"
    refine ⟨.inl ⟨rfl, _, SqL.of o.2⟩, ?_⟩
    wtm_at "rd"
    obtain ⟨j, hj, hj'⟩ := first_index hm
    refine ⟨kl, x, xs, ks, t, j, rfl, rfl, o.2, pk, hx, hj, hj', ?_⟩
    wtm_at "rd"
    exact ⟨r, kl, sl, j, t, F, st, ks, rfl, S, hj, hc, q⟩
end
end K06
namespace K06
open PySem L2 Hm
section
variable {P : Program} {w : World} {K : PySem.W.Frag} {mg : Str -> Option Value} {base : Heap} {L : Lk}
theorem use_rnum {L : Lk} {H : Hp} {r : Addr} {F : List Addr} {s : RSt} {c : Int} {Q : VK} {E : XK} {t : Th} (R : RRep L H r F s) (ht : t ∈ s.all) (hc : t.2 = c) (q : ∀ H' F', RRep L H' r F' s -> Fr F F' H H' -> Q (.int t.1) H') : spRNum L (.ref r :: ([.int c] ++ [])) H Q E :=
  ⟨r, c, F, s, rfl, R, λ h => absurd hc (h t ht), λ u hu eu => by
    obtain rfl := nodup_inj R.ok.nod hu ht (eu.trans hc.symm)
    exact q⟩
theorem use_roldest {L : Lk} {H : Hp} {r : Addr} {F : List Addr} {s : RSt} {Q : VK} {E : XK} {t : Th} (R : RRep L H r F s) (ht : t ∈ s.all) (hm : ∀ u ∈ s.all, t.2 <= u.2) (q : ∀ H' F', RRep L H' r F' s -> Fr F F' H H' -> Q (.int t.2) H') : spROldest L (.ref r :: ([] ++ [])) H Q E :=
  ⟨r, F, s, rfl, R, (λ h => by rw [h] at ht; cases ht), λ u hu hmu => by
    have e : u.2 = t.2 := Int.le_antisymm (hmu t ht) (hm u hu)
    rw [e]
    exact q⟩
def spAsked6 (L : Lk) : Sp := λ vs H Q _ => ∃ r kl sl c F s ks, vs = [.ref r, .ref kl, .int c] /\ R6 L H r F s kl ks sl /\ s.came < 900 /\
  ∀ H' F' s' ks', R6 L H' r F' s' kl ks' sl -> s'.came = s.came -> Fr (kl :: sl :: F) (kl :: sl :: F') H H' -> Q (.bl true) H'
theorem ok__law_asked (T : Txt K mg L) : FnOk P w K mg base (CXE P w) 28 L.a__law_asked L.d__law_asked ["_law_row", "_law_kept", "_law_coming"] (spAsked6 L) := by
  refine T.f__law_asked.ok0 sc__law_asked (λ vs H Q E h => ?_) (λ cdv A outer s H vs Q E hr h => ?_)
  . obtain ⟨r, kl, sl, c, F, st, ks, rfl, _⟩ := h
    rfl
  . obtain ⟨r, kl, sl, c, F, st, ks, rfl, S, hc, q⟩ := h
    refine ⟨_, (pss_cons (ps_setcomp (j := 3) rfl (CmpSc.of (fs := defScope s__law_asked) (fN := ["_law_row", "_law_kept", "_law_coming", "_law_some"]) (cap := ["_law_coming"]) (src := [2]) rfl rfl (by decide +kernel)) sc__law_asked.nd rfl rfl (pi_listK K (pv 1)) (λ _ _ _ _ => pg_name (i := 0) (show (["_law_one", "_law_coming"] : List Str).Nodup by decide +kernel) rfl (Or.inl rfl)) (λ C s₀ H₀ ex pins s σ H R I h => wpAny_tests_one ((show PT _ _ _ from (pt_cmpR op_eq (pe_ix (ix_tupK K) (pv 0) pe_int (λ _ _ => rfl)) (pv 1) (nomark _))) pins s σ H R I h)) (λ _ _ _ _ => (pv 0)) rfl)
      (pss_cons (ps_if (pt_cmpR (op_eqL kPair (hu_k hr (by decide))) (pv 3) (pe_lst pa_nil) (nomark _)) (pss_one (ps_ret (pe_call (ok__law_no_thing (K := K) T) (hr.mono (by decide)) (by rfl) T.m__law_no_thing T.k__law_no_thing T.b__law_no_thing .nil pass0X (pa_cons (pv 0) (pa_cons (pv 2) pa_nil))))) pss_nil)
      (pss_one (ps_ret (pe_call (ok__law_taken_here (K := K) T) (hr.mono (by decide)) (by rfl) T.m__law_taken_here T.k__law_taken_here T.b__law_taken_here .nil pass0X (pa_cons (pv 0) (pa_cons (pv 1) (pa_cons (pe_ix (ix_listK K) (pv 3) pe_int (λ _ _ => rfl)) pa_nil)))))))), ?_⟩
    refine rd_start (σ := [some _, some _, some _, none]) rfl ?_
    obtain ⟨xs, o, pk⟩ := S.ex
    have lx := pk.len
    have lk := S.len
    wtm_at "rd"
    refine rd_compF (λ t => decide (t.2 = c)) rfl o.2 pk (by omega) (λ x p rest H1 B er rp s1 hB => ?_) λ D ys hD py => ?_
    . subst er
      wtm_at "rd"
      refine rd_ixP1 rp ?_
      wtm_at "rd"
      exact hB
    . have s1 := same_new hD (.lst ys)
      have S1 := S.same s1
      have py1 := pairs_keep s1.tup py
      have hD1 : upd H D (.lst ys) D = some (.lst ys) := upd_same
      generalize upd H D (.lst ys) = H1 at *
      wtm_at "rd"
      refine ⟨by show 0 <= sizeLine; decide, λ e he => ?_⟩
      have s2 := same_new he (.lst [])
      have S2 := S1.same s2
      wtm_at "rd"
      refine rd_eqN (s2 _ _ hD1) (pairs_keep s2.tup py1) upd_same (λ z => ?_) (λ z => ?_)
      . have hn : ∀ u ∈ st.all, u.2 ≠ c := λ u hu e => by
          have hm : u ∈ ks.filter (λ t => decide (t.2 = c)) := List.mem_filter.mpr ⟨S.pm.mem_iff.mp hu, by simp [e]⟩
          rw [z] at hm; cases hm
        wtm_at "rd"
        refine ⟨r, c, F, st, rfl, S2.r, hc, hn, λ H3 F3 R3 f3 => ?_⟩
        have f13 := (Fr.of_same (F := F) (s1.trans s2)).trans f3
        exact q H3 F3 st ks (S.step R3 f13) rfl (Fr.cons2 f13 kl sl)
      . have l0 := List.length_pos_iff.mpr z
        have g0 : (ks.filter (λ t => decide (t.2 = c)))[0]? = some _ := List.getElem?_eq_getElem l0
        generalize (ks.filter (λ t => decide (t.2 = c)))[0] = t at g0
        have hm : t ∈ ks := (List.mem_filter.mp (List.mem_of_getElem? g0)).1
        wtm_at "rd"
        refine rd_ixLP (i := 0) (SqL.of (s2 _ _ hD1)) (pairs_keep s2.tup py1) g0 λ x hx => ?_
        wtm_at "rd"
        refine ⟨r, kl, sl, x, t, F, st, ks, rfl, S2, hx, hm, hc, λ H3 F3 s3 ks3 S3 e3 f3 => ?_⟩
        exact q H3 F3 s3 ks3 S3 e3 ((Fr.of_same (F := kl :: sl :: F) (s1.trans s2)).trans f3)
def spTurned6 (L : Lk) : Sp := λ vs H Q _ => ∃ r kl sl c F s ks, vs = [.ref r, .ref sl, .int c] /\ R6 L H r F s kl ks sl /\ s.came < 900 /\
  ∀ H' F' s' ks', R6 L H' r F' s' kl ks' sl -> s'.came = s.came -> Fr (kl :: sl :: F) (kl :: sl :: F') H H' -> Q (.bl true) H'
theorem ok__law_turned (T : Txt K mg L) : FnOk P w K mg base (CXE P w) 28 L.a__law_turned L.d__law_turned ["_law_row", "_law_state", "_law_load"] (spTurned6 L) := by
  refine T.f__law_turned.ok0 sc__law_turned (λ vs H Q E h => ?_) (λ cdv A outer s H vs Q E hr h => ?_)
  . obtain ⟨r, kl, sl, c, F, st, ks, rfl, _⟩ := h
    rfl
  . obtain ⟨r, kl, sl, c, F, st, ks, rfl, S, hc, q⟩ := h
    refine ⟨_, (pss_cons (ps_set (i := 3) sc__law_turned.nd rfl (Or.inl rfl) (pe_op op_add pe_int (pe_op op_mod (pv 2) pe_int)))
      (pss_cons (ps_set (i := 4) sc__law_turned.nd rfl (Or.inl rfl) (pe_op op_mod (pe_op op_fdivB (pv 2) pe_int) (pe_op op_add (pv 3) pe_int)))
      (pss_join (ps_if (pt_cmpR op_eq (pe_op op_mod (pe_op op_fdivB (pv 2) pe_int) pe_int) pe_int (nomark _)) (pss_cons (ps_set (i := 3) sc__law_turned.nd rfl (Or.inl rfl) (pe_op op_add pe_int (pe_op op_mod (pe_op op_fdivB (pv 2) pe_int) pe_int)))
      (pss_one (ps_set (i := 4) sc__law_turned.nd rfl (Or.inl rfl) (pe_op op_mod (pe_op op_fdivB (pv 2) pe_int) (pe_op op_add (pv 3) pe_int))))) pss_nil)
      (pss_cons (ps_if (pt_cmpR op_eq (pe_op op_mod (pv 2) pe_int) pe_int (nomark _)) (pss_cons (ps_set (i := 5) sc__law_turned.nd rfl (Or.inl rfl) (pe_ix (ix_listK K) (pe_lst (pa_cons (pe_tup (pa_cons (pe_op op_sub (pe_un un_neg pe_int) (pv 4)) (pa_cons (pv 3) pa_nil))) (pa_cons (pe_tup (pa_cons (pe_op op_add (pe_op op_add (pv 3) pe_int) (pv 4)) (pa_cons (pv 3) pa_nil))) (pa_cons (pe_tup (pa_cons (pv 4) (pa_cons (pe_un un_neg (pv 4)) pa_nil))) (pa_cons (pe_tup (pa_cons (pe_un un_neg pe_int) (pa_cons (pe_un un_neg pe_int) pa_nil))) pa_nil))))) (pe_op op_mod (pe_op op_fdivB (pv 2) pe_int) pe_int) (λ _ _ => rfl)))
      (pss_one (ps_ret (pe_call (ok__law_no_share (K := K) T) (hr.mono (by decide)) (by rfl) T.m__law_no_share T.k__law_no_share T.b__law_no_share .nil pass0X (pa_cons (pv 0) (pa_cons (pe_ix (ix_tupK K) (pv 5) pe_int (λ _ _ => rfl)) (pa_cons (pe_ix (ix_tupK K) (pv 5) pe_int (λ _ _ => rfl)) pa_nil))))))) pss_nil)
      (pss_cons (ps_expr (pe_methD (pv 0) (mo_row_turn (K := K) T) (hr.mono (by decide)) .nil pass0X (pa_cons (pv 4) (pa_cons (pv 3) pa_nil))))
      (pss_cons (ps_asg (pv 4) (pg_sub (pv 1) pe_int set_list))
      (pss_cons (ps_asg (pv 3) (pg_sub (pv 1) pe_int set_list))
      (pss_one (ps_ret pe_bl))))))))), ?_⟩
    refine rd_start (σ := [some _, some _, some _, none, none, none]) rfl ?_
    have sz : 1000 <= sizeLine := by decide
    wtm_at "rd"
    refine rd_join (λ σ' H' => H' = H /\ ∃ p wh : Int, Share p wh /\ wh < 2 ^ 100 /\ σ' = [some (.ref r), some (.ref sl), some (.int c), some (.int wh), some (.int p), none]) ?_ ?_
    . wtm_at "rd"
      . have q0 := Int.emod_nonneg (c / 7) (show 1 + c / 200 % 1000003 + 1 ≠ 0 by omega)
        have q1 := Int.emod_lt_of_pos (c / 7) (show 0 < 1 + c / 200 % 1000003 + 1 by omega)
        exact ⟨rfl, _, _, ⟨by omega, q0, by omega⟩, by omega, rfl⟩
      . have q0 := Int.emod_nonneg (c / 6) (show 1 + c % 6 + 1 ≠ 0 by omega)
        have q1 := Int.emod_lt_of_pos (c / 6) (show 0 < 1 + c % 6 + 1 by omega)
        exact ⟨rfl, _, _, ⟨by omega, q0, by omega⟩, by omega, rfl⟩
    rintro _ H ⟨rfl, p, wh, hs, hw, rfl⟩
    obtain ⟨w1, p0, pw⟩ := hs
    wtm_at "rd"
    . refine ⟨(by decide : (2 : Nat) <= sizeLine), λ t1 ht1 => ?_⟩
      have s1 := same_new ht1 (.tup [V.int (-1 - p), V.int wh])
      have k1 : kPair.R (upd H t1 (.tup [V.int (-1 - p), V.int wh])) (.ref t1) (-1 - p, wh) := kPair_of upd_same
      generalize upd H t1 (.tup [V.int (-1 - p), V.int wh]) = H1 at *
      wtm_at "rd"
      refine ⟨(by decide : (2 : Nat) <= sizeLine), λ t2 ht2 => ?_⟩
      have s2 := same_new ht2 (.tup [V.int (wh + 1 + p), V.int wh])
      have k2 : kPair.R (upd H1 t2 (.tup [V.int (wh + 1 + p), V.int wh])) (.ref t2) (wh + 1 + p, wh) := kPair_of upd_same
      generalize upd H1 t2 (.tup [V.int (wh + 1 + p), V.int wh]) = H2 at *
      wtm_at "rd"
      refine ⟨(by decide : (2 : Nat) <= sizeLine), λ t3 ht3 => ?_⟩
      have s3 := same_new ht3 (.tup [V.int p, V.int (-p)])
      have k3 : kPair.R (upd H2 t3 (.tup [V.int p, V.int (-p)])) (.ref t3) (p, -p) := kPair_of upd_same
      generalize upd H2 t3 (.tup [V.int p, V.int (-p)]) = H3 at *
      wtm_at "rd"
      refine ⟨(by decide : (2 : Nat) <= sizeLine), λ t4 ht4 => ?_⟩
      have s4 := same_new ht4 (.tup [V.int (-1), V.int (-1)])
      have k4 : kPair.R (upd H3 t4 (.tup [V.int (-1), V.int (-1)])) (.ref t4) (-1, -1) := kPair_of upd_same
      generalize upd H3 t4 (.tup [V.int (-1), V.int (-1)]) = H4 at *
      wtm_at "rd"
      refine ⟨(by decide : (4 : Nat) <= sizeLine), λ tl htl => ?_⟩
      have s5 := same_new htl (.lst [V.ref t1, V.ref t2, V.ref t3, V.ref t4])
      have h5 : upd H4 tl (.lst [V.ref t1, V.ref t2, V.ref t3, V.ref t4]) tl = some (.lst [V.ref t1, V.ref t2, V.ref t3, V.ref t4]) := upd_same
      have s15 := s1.trans (s2.trans (s3.trans (s4.trans s5)))
      have pick : ∃ (v : V) (b : Th), atI [V.ref t1, V.ref t2, V.ref t3, V.ref t4] (c / 5 % 4) = some v /\ kPair.R (upd H4 tl (.lst [V.ref t1, V.ref t2, V.ref t3, V.ref t4])) v b /\ ¬ Share b.1 b.2 /\ b.2 < 2 ^ 250 := by
        have : c / 5 % 4 = 0 \/ c / 5 % 4 = 1 \/ c / 5 % 4 = 2 \/ c / 5 % 4 = 3 := by omega
        rcases this with e | e | e | e <;> rw [e]
        . exact ⟨_, _, rfl, kPair.same (s2.trans (s3.trans (s4.trans s5))) k1, by unfold Share; simp; omega, by show wh < _; omega⟩
        . exact ⟨_, _, rfl, kPair.same (s3.trans (s4.trans s5)) k2, by unfold Share; simp; omega, by show wh < _; omega⟩
        . exact ⟨_, _, rfl, kPair.same (s4.trans s5) k3, by unfold Share; simp; omega, by show -p < _; omega⟩
        . exact ⟨_, _, rfl, kPair.same s5 k4, by unfold Share; simp, by decide⟩
      obtain ⟨v, b, hv, kb, nb, bb⟩ := pick
      generalize upd H4 tl (.lst [V.ref t1, V.ref t2, V.ref t3, V.ref t4]) = H5 at *
      have S5 := S.same s15
      wtm_at "rd"
      refine rd_ixL (SqL.of h5) hv ?_
      wtm_at "rd"
      refine rd_ixP0 kb ?_
      wtm_at "rd"
      refine rd_ixP1 kb ?_
      wtm_at "rd"
      exact ⟨r, b.1, b.2, F, st, rfl, S5.r, bb, hc, nb, λ H6 s6 => q H6 F st ks (S5.same s6) rfl (.of_same (s15.trans s6))⟩
    . refine use_methR S.r (by unfold RwM; decide) λ _ => ?_
      wtm_at "rd"
      refine ⟨r, p, wh, F, st, rfl, S.r, by omega, hc, λ h => absurd ⟨w1, p0, pw⟩ h, λ _ H1 F1 s1 R1 f1 e1 e2 e3 pm1 => ?_⟩
      obtain ⟨xs, o, pk⟩ := S.ex
      have o1 := f1.out o
      have os1 := f1.out S.os
      have pk1 := pairs_keep f1.tup pk
      wtm_at "rd"
      refine ⟨sl, _, _, 1, rfl, rfl, os1.2, rfl, ?_⟩
      wtm_at "rd"
      refine ⟨sl, _, _, 2, rfl, rfl, upd_same, rfl, ?_⟩
      rw [upd_upd]
      rw [show ([V.int (st.came : Nat), V.int st.part, V.int st.whole].set 1 (V.int p)).set 2 (V.int wh) = [V.int (st.came : Nat), V.int p, V.int wh] from rfl]
      have w2 : Fr (kl :: sl :: F1) (kl :: sl :: F1) H1 (upd H1 sl (.lst [V.int (st.came : Nat), V.int p, V.int wh])) := .write (by simp) os1.2
      have R2 : RRep L (upd H1 sl (.lst [V.int (st.came : Nat), V.int p, V.int wh])) r F1 s1 := R1.keep (λ b o' hb q' => by rw [upd_ne (λ e => os1.1 (by rw [<- e]; exact hb))]; exact q') w2.tup
      wtm_at "rd"
      refine q _ F1 s1 ks ⟨R2, pm1.trans S.pm, S.srt, ⟨xs, ⟨o1.1, by rw [upd_ne S.ne]; exact o1.2⟩, pairs_keep w2.tup pk1⟩, ⟨os1.1, by rw [upd_same, e1, e2, e3]⟩, S.ne⟩ e3 ((Fr.cons2 f1 kl sl).trans w2)
def spDeed6 (L : Lk) : Sp := λ vs H Q _ => ∃ r kl sl c F s ks, vs = [.ref r, .ref kl, .ref sl, .int c] /\ R6 L H r F s kl ks sl /\ s.came < 800 /\
  ∀ H' F' s' ks', R6 L H' r F' s' kl ks' sl -> s'.came <= s.came + 1 -> Fr (kl :: sl :: F) (kl :: sl :: F') H H' -> Q (.bl true) H'
theorem ok__law_deed (T : Txt K mg L) : FnOk P w K mg base (CXE P w) 30 L.a__law_deed L.d__law_deed ["_law_row", "_law_kept", "_law_state", "_law_cell"] (spDeed6 L) := by
  refine T.f__law_deed.ok0 sc__law_deed (λ vs H Q E h => ?_) (λ cdv A outer s H vs Q E hr h => ?_)
  . obtain ⟨r, kl, sl, c, F, st, ks, rfl, _⟩ := h
    rfl
  . obtain ⟨r, kl, sl, c, F, st, ks, rfl, S, hc, q⟩ := h
    refine ⟨_, (pss_cons (ps_set (i := 4) sc__law_deed.nd rfl (Or.inl rfl) (pe_op op_mod (pv 3) pe_int))
      (pss_cons (ps_set (i := 5) sc__law_deed.nd rfl (Or.inl rfl) (pe_op op_fdivB (pv 3) pe_int))
      (pss_cons (ps_if (PW.pt (pw_or (pt_cmpR op_lt (pv 4) pe_int (nomark _)) (pw_or1 (PW.pt (pw_and (pt_cmpR op_lt (pv 4) pe_int (nomark _)) (pw_and1 (pt_cmpR (op_eqL kPair (hu_k hr (by decide))) (pv 1) (pe_lst pa_nil) (nomark _)))))))) (pss_one (ps_ret (pe_call (ok__law_put (K := K) T) (hr.mono (by decide)) (by rfl) T.m__law_put T.k__law_put T.b__law_put .nil pass0X (pa_cons (pv 0) (pa_cons (pv 1) (pa_cons (pv 2) (pa_cons (pe_call (ok__law_number (K := K) T) (hr.mono (by decide)) (by rfl) T.m__law_number T.k__law_number T.b__law_number .nil pass0X (pa_cons (pv 5) pa_nil)) pa_nil))))))) pss_nil)
      (pss_cons (ps_if (pt_cmpR op_eq (pv 4) pe_int (nomark _)) (pss_one (ps_ret (pe_call (ok__law_put (K := K) T) (hr.mono (by decide)) (by rfl) T.m__law_put T.k__law_put T.b__law_put .nil pass0X (pa_cons (pv 0) (pa_cons (pv 1) (pa_cons (pv 2) (pa_cons (pe_ix (ix_tupK K) (pe_ix (ix_listK K) (pv 1) (pe_op op_mod (pv 5) (pe_callB (call_lenK K) (by rfl) T.z_len bt_len (pa_cons (pv 1) pa_nil))) (λ _ _ => rfl)) pe_int (λ _ _ => rfl)) pa_nil))))))) pss_nil)
      (pss_cons (ps_if (pt_cmpR op_eq (pv 4) pe_int (nomark _)) (pss_cons (ps_set (i := 6) sc__law_deed.nd rfl (Or.inl rfl) (pe_op op_sub (pe_op op_add (pe_ix (ix_tupK K) (pe_methD0 (pv 0) (mo_row_share (K := K) T) (hr.mono (by decide)) .nil pass0X) pe_int (λ _ _ => rfl)) (pe_op op_mod (pv 5) pe_int)) pe_int))
      (pss_one (ps_ret (pe_call (ok__law_put (K := K) T) (hr.mono (by decide)) (by rfl) T.m__law_put T.k__law_put T.b__law_put .nil pass0X (pa_cons (pv 0) (pa_cons (pv 1) (pa_cons (pv 2) (pa_cons (pe_callB (call_max2 rfl) (by rfl) T.z_max bt_max (pa_cons (pe_op op_sub pe_int (pe_powc (v := 10 ^ 60) rfl (by decide))) (pa_cons (pe_callB (call_min2 rfl) (by rfl) T.z_min bt_min (pa_cons (pe_op op_sub (pe_powc (v := 10 ^ 60) rfl (by decide)) pe_int) (pa_cons (pv 6) pa_nil))) pa_nil))) pa_nil)))))))) pss_nil)
      (pss_cons (ps_if (pt_cmpR op_eq (pv 4) pe_int (nomark _)) (pss_one (ps_ret (pe_call (ok__law_taken_here (K := K) T) (hr.mono (by decide)) (by rfl) T.m__law_taken_here T.k__law_taken_here T.b__law_taken_here .nil pass0X (pa_cons (pv 0) (pa_cons (pv 1) (pa_cons (pe_ix (ix_listK K) (pv 1) pe_int (λ _ _ => rfl)) pa_nil)))))) pss_nil)
      (pss_cons (ps_if (pt_cmpR op_eq (pv 4) pe_int (nomark _)) (pss_one (ps_ret (pe_call (ok__law_taken_here (K := K) T) (hr.mono (by decide)) (by rfl) T.m__law_taken_here T.k__law_taken_here T.b__law_taken_here .nil pass0X (pa_cons (pv 0) (pa_cons (pv 1) (pa_cons (pe_methD0 (pv 0) (mo_row_share (K := K) T) (hr.mono (by decide)) .nil pass0X) pa_nil)))))) pss_nil)
      (pss_cons (ps_if (PW.pt (pw_and (pt_cmpR op_eq (pv 4) pe_int (nomark _)) (pw_and1 (pt_cmpR (op_neL kPair (hu_k hr (by decide))) (pe_ix (ix_tupK K) (pe_methD0 (pv 0) (mo_row_piles (K := K) T) (hr.mono (by decide)) .nil pass0X) pe_int (λ _ _ => rfl)) (pe_lst pa_nil) (nomark _))))) (pss_one (ps_ret (pe_call (ok__law_taken_here (K := K) T) (hr.mono (by decide)) (by rfl) T.m__law_taken_here T.k__law_taken_here T.b__law_taken_here .nil pass0X (pa_cons (pv 0) (pa_cons (pv 1) (pa_cons (pe_ix (ix_listK K) (pe_ix (ix_tupK K) (pe_methD0 (pv 0) (mo_row_piles (K := K) T) (hr.mono (by decide)) .nil pass0X) pe_int (λ _ _ => rfl)) pe_int (λ _ _ => rfl)) pa_nil)))))) pss_nil)
      (pss_cons (ps_if (pt_cmpR op_lt (pv 4) pe_int (nomark _)) (pss_one (ps_ret (pe_call (ok__law_taken (K := K) T) (hr.mono (by decide)) (by rfl) T.m__law_taken T.k__law_taken T.b__law_taken .nil pass0X (pa_cons (pv 0) (pa_cons (pv 1) (pa_cons (pe_op op_mod (pv 5) (pe_callB (call_lenK K) (by rfl) T.z_len bt_len (pa_cons (pv 1) pa_nil))) pa_nil)))))) pss_nil)
      (pss_cons (ps_if (pt_cmpR op_lt (pv 4) pe_int (nomark _)) (pss_one (ps_ret (pe_call (ok__law_turned (K := K) T) (hr.mono (by decide)) (by rfl) T.m__law_turned T.k__law_turned T.b__law_turned .nil pass0X (pa_cons (pv 0) (pa_cons (pv 2) (pa_cons (pv 5) pa_nil)))))) pss_nil)
      (pss_one (ps_ret (pe_call (ok__law_asked (K := K) T) (hr.mono (by decide)) (by rfl) T.m__law_asked T.k__law_asked T.b__law_asked .nil pass0X (pa_cons (pv 0) (pa_cons (pv 1) (pa_cons (pe_op op_sub (pe_op op_mod (pv 5) (pe_op op_add (pe_ix (ix_listK K) (pv 2) pe_int (λ _ _ => rfl)) pe_int)) pe_int) pa_nil)))))))))))))))), ?_⟩
    refine rd_start (σ := [some _, some _, some _, some _, none, none, none]) rfl ?_
    have sz : 1000 <= sizeLine := by decide
    have lk := S.len
    have putX : ∀ {E1 : XK} {n : Int} {H1 : Hp}, Same H H1 -> spPut6 L ([.ref r, .ref kl, .ref sl, .int n] ++ []) H1 Q E1 := λ {E1 n H1} s1 => ⟨r, kl, sl, n, F, st, ks, rfl, S.same s1, hc, λ H2 F2 s2 ks2 S2 e2 f2 => q H2 F2 s2 ks2 S2 (by omega) ((Fr.of_same (F := kl :: sl :: F) s1).trans f2)⟩
    have hereX : ∀ {E1 : XK} {x : V} {t : Th} {H1 : Hp}, Same H H1 -> kPair.R H1 x t -> t ∈ ks -> spTakenH L ([.ref r, .ref kl, x] ++ []) H1 Q E1 := λ {E1 x t H1} s1 hx hm => ⟨r, kl, sl, x, t, F, st, ks, rfl, S.same s1, hx, hm, by omega, λ H2 F2 s2 ks2 S2 e2 f2 => q H2 F2 s2 ks2 S2 (by omega) ((Fr.of_same (F := kl :: sl :: F) s1).trans f2)⟩
    wtm_at "rd"
    . refine use_number λ n _ _ => ?_
      wtm_at "rd"
      exact putX (Same.refl _)
    . refine ⟨by show 0 <= sizeLine; decide, λ e he => ?_⟩
      have s1 := same_new he (.lst [])
      have S1 := S.same s1
      obtain ⟨xs, o, pk⟩ := S1.ex
      have lx := pk.len
      refine rd_eqN o.2 pk upd_same (λ z => ?_) (λ z => ?_)
      . wtm_at "rd"
        refine use_number λ n _ _ => ?_
        wtm_at "rd"
        exact putX s1
      . have l0 := List.length_pos_iff.mpr z
        have nz : st.all ≠ [] := λ h => z (List.eq_nil_of_length_eq_zero (by rw [<- S.pm.length_eq, h]; rfl))
        obtain ⟨j, hj, ej⟩ := idx_in (c / 16) l0
        generalize upd H e (.lst []) = H1 at *
        wtm_at "rd"
        . refine rd_lenL (SqL.of o.2) ?_
          rw [lx]
          wtm_at "rd"
          rw [ej]
          refine rd_ixLP (SqL.of o.2) pk (List.getElem?_eq_getElem hj) λ x hx => ?_
          wtm_at "rd"
          refine rd_ixP0 hx ?_
          wtm_at "rd"
          exact putX s1
        . refine use_methR S1.r (by unfold RwM; decide) λ _ => ?_
          wtm_at "rd"
          refine ⟨r, F, st, rfl, S1.r, λ h => absurd h nz, λ x t h0 hx => ?_⟩
          wtm_at "rd"
          refine rd_ixP0 hx ?_
          wtm_at "rd"
          refine ⟨_, _, rfl, ?_⟩
          wtm_at "rd"
          refine ⟨_, _, rfl, ?_⟩
          wtm_at "rd"
          exact putX s1
        . refine rd_ixLP (i := 0) (SqL.of o.2) pk (List.getElem?_eq_getElem l0) λ x hx => ?_
          wtm_at "rd"
          exact hereX s1 hx (List.getElem_mem l0)
        . refine use_methR S1.r (by unfold RwM; decide) λ _ => ?_
          wtm_at "rd"
          refine ⟨r, F, st, rfl, S1.r, λ h => absurd h nz, λ x t h0 hx => ?_⟩
          wtm_at "rd"
          exact hereX s1 hx (S.pm.mem_iff.mp (List.mem_append_left _ (List.mem_of_getElem? h0)))
        . have tk : ∀ {E1 : XK} {H3 : Hp}, Same H1 H3 -> spTaken6 L ([.ref r, .ref kl, .int ((j : Nat) : Int)] ++ []) H3 Q E1 := λ {E1 H3} s3 => ⟨r, kl, sl, j, _, F, st, ks, rfl, S1.same s3, List.getElem?_eq_getElem hj, by omega, λ H2 F2 s2 ks2 S2 e2 f2 => q H2 F2 s2 ks2 S2 (by omega) ((Fr.of_same (F := kl :: sl :: F) (s1.trans s3)).trans f2)⟩
          refine use_methR S1.r (by unfold RwM; decide) λ _ => ?_
          wtm_at "rd"
          refine use_piles S1.r λ H2 x l1 l2 us vs s2 nx n1 n2 hne h1 h2 p2 h3 p3 => ?_
          wtm_at "rd"
          refine rd_ixT (v := .ref l2) (SqT.of h1) rfl ?_
          wtm_at "rd"
          refine ⟨by show 0 <= sizeLine; decide, λ e2 he2 => ?_⟩
          have s3 := same_new he2 (.lst [])
          wtm_at "rd"
          refine rd_neN (s3 _ _ h3) (pairs_keep s3.tup p3) upd_same (λ zh => ?_) (λ zh => ?_)
          . wtm_at "rd"
            refine rd_lenL (SqL.of ((s2.trans s3) _ _ o.2)) ?_
            rw [lx]
            wtm_at "rd"
            rw [ej]
            exact tk (s2.trans s3)
          . have h0 := List.length_pos_iff.mpr zh
            have s13 := s1.trans (s2.trans s3)
            have S3 := S1.same (s2.trans s3)
            generalize upd H2 e2 (.lst []) = H3 at *
            wtm_at "rd"
            refine use_methR S3.r (by unfold RwM; decide) λ _ => ?_
            wtm_at "rd"
            refine use_piles S3.r λ H4 x' m1 m2 us' vs' s4 nx' n1' n2' hne' h1' h2' p2' h3' p3' => ?_
            wtm_at "rd"
            refine rd_ixT (v := .ref m2) (SqT.of h1') rfl ?_
            wtm_at "rd"
            refine rd_ixLP (i := 0) (SqL.of h3') p3' (List.getElem?_eq_getElem h0) λ y hy => ?_
            wtm_at "rd"
            exact hereX (s13.trans s4) hy (S.pm.mem_iff.mp (List.mem_append_right _ (List.getElem_mem h0)))
        . refine rd_lenL (SqL.of o.2) ?_
          rw [lx]
          wtm_at "rd"
          rw [ej]
          exact ⟨r, kl, sl, j, _, F, st, ks, rfl, S1, List.getElem?_eq_getElem hj, by omega, λ H2 F2 s2 ks2 S2 e2 f2 => q H2 F2 s2 ks2 S2 (by omega) ((Fr.of_same (F := kl :: sl :: F) s1).trans f2)⟩
    . exact ⟨r, kl, sl, _, F, st, ks, rfl, S, by omega, λ H2 F2 s2 ks2 S2 e2 f2 => q H2 F2 s2 ks2 S2 (by omega) f2⟩
    . refine rd_ixL (v := .int (st.came : Nat)) (SqL.of S.os.2) rfl ?_
      wtm_at "rd"
      exact ⟨r, kl, sl, _, F, st, ks, rfl, S, by omega, λ H2 F2 s2 ks2 S2 e2 f2 => q H2 F2 s2 ks2 S2 (by omega) f2⟩
def spAtPlace : Sp := λ vs H Q _ => ∃ (b : Nat) (kl sl : Addr) (xs : List V) (m : Nat) (x0 : V) (p w : Int), vs = [.int (b : Nat), .ref kl, .ref sl] /\ H kl = some (.lst xs) /\ xs.length = m /\ m < 1000 /\ b < m /\ H sl = some (.lst [x0, .int p, .int w]) /\ Share p w /\ w < 2 ^ 250 /\ Mp.PlaceIs m p w ((b : Int) + 1) /\ Q (.bl true) H
theorem ok__law_at_place (T : Txt K mg L) : FnOk P w K mg base (CXE P w) 22 L.a__law_at_place L.d__law_at_place ["_law_before", "_law_kept", "_law_state"] spAtPlace := by
  refine T.f__law_at_place.ok0 sc__law_at_place (λ vs H Q E h => ?_) (λ cdv A outer s H vs Q E hr h => ?_)
  . obtain ⟨b, kl, sl, xs, m, x0, p, w, rfl, _⟩ := h
    rfl
  . obtain ⟨b, kl, sl, xs, m, x0, p, wh, rfl, hl, lx, hm, hb, hs, hS, hw, I, q⟩ := h
    refine ⟨_, (pss_cons (ps_set (i := 3) sc__law_at_place.nd rfl (Or.inl rfl) (pe_op op_add (pv 0) pe_int))
      (pss_cons (ps_if (pt_cmpR op_lt (pe_op op_mulB (pv 3) (pe_ix (ix_listK K) (pv 2) pe_int (λ _ _ => rfl))) (pe_op op_mulB (pe_callB (call_lenK K) (by rfl) T.z_len bt_len (pa_cons (pv 1) pa_nil)) (pe_ix (ix_listK K) (pv 2) pe_int (λ _ _ => rfl))) (nomark _)) (pss_one (ps_ret pe_bl)) pss_nil)
      (pss_one (ps_ret (pe_or (pe_cmpR op_eq (pv 0) pe_int (nomark _)) (pe_one (pe_cmpR op_lt (pe_op op_mulB (pv 0) (pe_ix (ix_listK K) (pv 2) pe_int (λ _ _ => rfl))) (pe_op op_mulB (pe_callB (call_lenK K) (by rfl) T.z_len bt_len (pa_cons (pv 1) pa_nil)) (pe_ix (ix_listK K) (pv 2) pe_int (λ _ _ => rfl))) (nomark _)))))))), ?_⟩
    refine rd_start (σ := [some _, some _, some _, none]) rfl ?_
    obtain ⟨w1, p0, pw⟩ := hS
    have i1 := I.enough (by omega)
    have i2 := I.least (by omega)
    have e0 : ((b : Int) + 1 - 1) = b := by omega
    rw [e0] at i2
    wtm_at "rd"
    refine rd_ixL (v := .int wh) (SqL.of hs) rfl ?_
    wtm_at "rd"
    refine rd_lenL (SqL.of hl) ?_
    rw [lx]
    wtm_at "rd"
    refine rd_ixL (v := .int p) (SqL.of hs) rfl ?_
    generalize h1 : (m : Int) * p = mp at *
    generalize h2 : ((b : Int) + 1) * wh = bw at *
    generalize h3 : (b : Int) * wh = bw0 at *
    wtm_at "rd"
    . exact q
    . refine rd_ixL (v := .int wh) (SqL.of hs) rfl ?_
      wtm_at "rd"
      refine rd_lenL (SqL.of hl) ?_
      rw [lx]
      wtm_at "rd"
      refine rd_ixL (v := .int p) (SqL.of hs) rfl ?_
      wtm_at "rd"
      rw [decide_eq_true (show (b : Int) * wh < (m : Int) * p by omega)]
      exact q
def Held6 (G : List Addr) (H : Hp) (hs : List V) : Prop := ∀ h ∈ hs, ∃ t b1 b2 lo hi, h = .ref t /\ H t = some (.tup [.ref b1, .ref b2]) /\ Bef G H b1 lo hi /\ Bef G H b2 lo hi
theorem Held6.fr {G G' : List Addr} {H H' : Hp} {hs : List V} (h : Held6 G H hs) (f : Fr G G' H H') : Held6 G' H' hs := λ x hx => by
  obtain ⟨t, b1, b2, lo, hi, e, h1, h2, h3⟩ := h x hx
  exact ⟨t, b1, b2, lo, hi, e, f.tup _ _ h1, h2.fr f, h3.fr f⟩
theorem Bef.new {G : List Addr} {H : Hp} {t l1 l2 : Addr} {xs ys : List V} {lo hi : List Th} (h1 : H t = some (.tup [.ref l1, .ref l2])) (n1 : l1 ∉ G) (n2 : l2 ∉ G) (h2 : H l1 = some (.lst xs)) (p2 : Paired (kPair.R H) xs lo) (h3 : H l2 = some (.lst ys)) (p3 : Paired (kPair.R H) ys hi) : Bef G H t lo hi := ⟨l1, l2, xs, ys, h1, ⟨n1, h2⟩, p2, ⟨n2, h3⟩, p3⟩
theorem before_count {s : RSt} (O : ROk s) {ks : List Th} (pm : s.all.Perm ks) {t : Th} (h0 : s.lo[0]? = some t) : (ks.filter λ u => pLt u t).length + 1 = s.lo.length := by
  have p1 : (ks.filter λ u => pLt u t).length = (s.all.filter λ u => pLt u t).length := (pm.symm.filter _).length_eq
  have tm : t ∈ s.lo := List.mem_of_getElem? h0
  have pe := List.perm_cons_erase tm
  have p2 : (s.lo.filter λ u => pLt u t).length = ((t :: s.lo.erase t).filter λ u => pLt u t).length := (pe.filter _).length_eq
  have nd : ((t :: s.lo.erase t).map (·.2)).Nodup := nod_perm pe.symm O.nlo
  rw [List.map_cons, List.nodup_cons] at nd
  have e1 : (s.lo.erase t).filter (λ u => pLt u t) = s.lo.erase t := List.filter_eq_self.mpr λ u hu => by
    have hu' : u ∈ s.lo := List.mem_of_mem_erase hu
    rcases top_lo O.flo h0 u hu' with rfl | h
    . exact absurd (List.mem_map_of_mem hu) nd.1
    . exact h
  have e2 : s.hi.filter (λ u => pLt u t) = [] := List.filter_eq_nil_iff.mpr λ u hu => by
    rw [pLt_asym _ _ (O.ord t tm u hu)]; simp
  rw [p1, RSt.all, List.filter_append, e2, List.append_nil, p2, List.filter_cons, if_neg (by rw [pLt_irr]; simp), e1]
  have := pe.length_eq
  rw [List.length_cons] at this
  omega
def spLook6 (L : Lk) : Sp := λ vs H Q _ => ∃ r kl sl fl hl F s ks hs, vs = [.ref r, .ref kl, .ref sl, .bl fl, .ref hl] /\ R6 L H r F s kl ks sl /\ s.came < 900 /\ Out (kl :: sl :: F) H hl (.lst hs) /\ Held6 (hl :: kl :: sl :: F) H hs /\ hs.length < 800 /\
  ∀ H' F' hs', R6 L H' r F' s kl ks sl -> Fr (hl :: kl :: sl :: F) (hl :: kl :: sl :: F') H H' -> Out (kl :: sl :: F') H' hl (.lst hs') -> Held6 (hl :: kl :: sl :: F') H' hs' -> hs'.length = hs.length + 1 -> Q (.bl true) H'
theorem ok__law_look (T : Txt K mg L) : FnOk P w K mg base (CXE P w) 30 L.a__law_look L.d__law_look ["_law_row", "_law_kept", "_law_state", "_law_flip", "_law_held"] (spLook6 L) := by
  refine T.f__law_look.ok0 sc__law_look (λ vs H Q E h => ?_) (λ cdv A outer s H vs Q E hr h => ?_)
  . obtain ⟨r, kl, sl, fl, hl, F, st, ks, hs, rfl, _⟩ := h
    rfl
  . obtain ⟨r, kl, sl, fl, hl, F, st, ks, hs, rfl, S, hc, oh, hH, lh, q⟩ := h
    refine ⟨_, (pss_join (ps_if (PW.pt (pw_and (pt_val (pv 3)) (pw_and (pt_cmpR (op_neL kPair (hu_k hr (by decide))) (pv 1) (pe_lst pa_nil) (nomark _)) (pw_and1 (pt_cmpR (op_notInD kPair (hu_k hr (by decide))) (pe_methD0 (pv 0) (mo_row_share (K := K) T) (hr.mono (by decide)) .nil pass0X) (pv 1) rfl))))) (pss_one (ps_ret pe_bl)) pss_nil)
      (pss_cons (ps_set (i := 5) sc__law_look.nd rfl (Or.inl rfl) (pe_methD0 (pv 0) (mo_row_piles (K := K) T) (hr.mono (by decide)) .nil pass0X))
      (pss_cons (ps_if (PW.pt (pw_or (pt_not (pt_val (pe_callB (call_isiTK K) (by rfl) T.z_isinstance bt_isinstance (pa_cons (pv 5) (pa_cons (pe_bltn (v := .ty "tuple") (by rfl) T.z_tuple bt_tuple rfl) pa_nil))))) (pw_or1 (pt_cmpR op_ne (pe_callB (call_lenK K) (by rfl) T.z_len bt_len (pa_cons (pv 5) pa_nil)) pe_int (nomark _))))) (pss_one (ps_ret pe_bl)) pss_nil)
      (pss_cons (ps_if (PW.pt (pw_or (pt_not (pt_val (pe_call (ok__law_form (K := K) T) (hr.mono (by decide)) (by rfl) T.m__law_form T.k__law_form T.b__law_form .nil pass0X (pa_cons (pe_ix (ix_tupK K) (pv 5) pe_int (λ _ _ => rfl)) (pa_cons pe_bl pa_nil))))) (pw_or1 (pt_not (pt_val (pe_call (ok__law_form (K := K) T) (hr.mono (by decide)) (by rfl) T.m__law_form T.k__law_form T.b__law_form .nil pass0X (pa_cons (pe_ix (ix_tupK K) (pv 5) pe_int (λ _ _ => rfl)) (pa_cons pe_bl pa_nil)))))))) (pss_one (ps_ret pe_bl)) pss_nil)
      (pss_cons (ps_if (PW.pt (pw_or (pt_cmpR (op_neL kPair (hu_k hr (by decide))) (pe_callB call_sorted (by rfl) T.z_sorted bt_sorted (pa_cons (pe_op op_cat (pe_ix (ix_tupK K) (pv 5) pe_int (λ _ _ => rfl)) (pe_ix (ix_tupK K) (pv 5) pe_int (λ _ _ => rfl))) pa_nil)) (pe_callB call_sorted (by rfl) T.z_sorted bt_sorted (pa_cons (pv 1) pa_nil)) (nomark _)) (pw_or1 (pt_not (pt_val (pe_call (ok__law_is (K := K) T) (hr.mono (by decide)) (by rfl) T.m__law_is T.k__law_is T.b__law_is .nil pass0X (pa_cons (pe_methD0 (pv 0) (mo_row_many (K := K) T) (hr.mono (by decide)) .nil pass0X) (pa_cons (pe_callB (call_lenK K) (by rfl) T.z_len bt_len (pa_cons (pv 1) pa_nil)) pa_nil)))))))) (pss_one (ps_ret pe_bl)) pss_nil)
      (pss_cons (ps_expr (pe_bmK K PySem.F.plainAttrs_list PySem.F.slot_list_append PySem.F.type_list_append mt_append (pv 4) (pa_cons (pe_tup (pa_cons (pv 5) (pa_cons (pe_tup (pa_cons (pe_callTy (call_listK K) (by rfl) T.z_list bt_list (pa_cons (pe_ix (ix_tupK K) (pv 5) pe_int (λ _ _ => rfl)) pa_nil)) (pa_cons (pe_callTy (call_listK K) (by rfl) T.z_list bt_list (pa_cons (pe_ix (ix_tupK K) (pv 5) pe_int (λ _ _ => rfl)) pa_nil)) pa_nil))) pa_nil))) pa_nil)))
      (pss_cons (ps_if (pt_cmpR (op_eqL kPair (hu_k hr (by decide))) (pv 1) (pe_lst pa_nil) (nomark _)) (pss_one (ps_ret (pe_call (ok__law_empty (K := K) T) (hr.mono (by decide)) (by rfl) T.m__law_empty T.k__law_empty T.b__law_empty .nil pass0X (pa_cons (pv 0) pa_nil)))) pss_nil)
      (pss_cons (ps_set (i := 6) sc__law_look.nd rfl (Or.inl rfl) (pe_ix (ix_listK K) (pv 1) (pe_op op_fdivB (pe_callB (call_lenK K) (by rfl) T.z_len bt_len (pa_cons (pv 1) pa_nil)) pe_int) (λ _ _ => rfl)))
      (pss_cons (ps_if (PW.pt (pw_or (pt_not (pt_val (pe_call (ok__law_is (K := K) T) (hr.mono (by decide)) (by rfl) T.m__law_is T.k__law_is T.b__law_is .nil pass0X (pa_cons (pe_methD0 (pv 0) (mo_row_oldest (K := K) T) (hr.mono (by decide)) .nil pass0X) (pa_cons (pe_ix (ix_tupK K) (pe_ix (ix_listK K) (pv 1) pe_int (λ _ _ => rfl)) pe_int (λ _ _ => rfl)) pa_nil))))) (pw_or1 (pt_not (pt_val (pe_call (ok__law_is (K := K) T) (hr.mono (by decide)) (by rfl) T.m__law_is T.k__law_is T.b__law_is .nil pass0X (pa_cons (pe_methD (pv 0) (mo_row_number_of (K := K) T) (hr.mono (by decide)) .nil pass0X (pa_cons (pe_ix (ix_tupK K) (pv 6) pe_int (λ _ _ => rfl)) pa_nil)) (pa_cons (pe_ix (ix_tupK K) (pv 6) pe_int (λ _ _ => rfl)) pa_nil)))))))) (pss_one (ps_ret pe_bl)) pss_nil)
      (pss_cons (ps_set (i := 7) sc__law_look.nd rfl (Or.inr rfl) (pe_methD0 (pv 0) (mo_row_share (K := K) T) (hr.mono (by decide)) .nil pass0X))
      (pss_cons (ps_if (PW.pt (pw_or (pt_not (pt_val (pe_call (ok__law_thing (K := K) T) (hr.mono (by decide)) (by rfl) T.m__law_thing T.k__law_thing T.b__law_thing .nil pass0X (pa_cons (pv 7) pa_nil)))) (pw_or (pt_cmpR (op_eqL kPair (hu_k hr (by decide))) (pe_ix (ix_tupK K) (pv 5) pe_int (λ _ _ => rfl)) (pe_lst pa_nil) (nomark _)) (pw_or1 (pt_cmpR (op_neT kInt kInt (hu_k hr (by decide))) (pv 7) (pe_ix (ix_listK K) (pe_ix (ix_tupK K) (pv 5) pe_int (λ _ _ => rfl)) pe_int (λ _ _ => rfl)) (nomark _)))))) (pss_one (ps_ret pe_bl)) pss_nil)
      (pss_join (ps_if (PW.pt (pw_and (pt_cmpR (op_neL kPair (hu_k hr (by decide))) (pe_ix (ix_tupK K) (pv 5) pe_int (λ _ _ => rfl)) (pe_lst pa_nil) (nomark _)) (pw_and1 (pt_not (pt_cmpR (op_ltTK K (hu_0 hr)) (pv 7) (pe_ix (ix_listK K) (pe_ix (ix_tupK K) (pv 5) pe_int (λ _ _ => rfl)) pe_int (λ _ _ => rfl)) (nomark _)))))) (pss_one (ps_ret pe_bl)) pss_nil)
      (pss_cons (ps_set (i := 8) sc__law_look.nd rfl (Or.inl rfl) (pe_callB (call_lenK K) (by rfl) T.z_len bt_len (pa_cons (pe_comp1 rfl (CmpSc.of (fs := defScope s__law_look) (fN := ["_law_row", "_law_kept", "_law_state", "_law_flip", "_law_held", "_law_both", "_law_one", "_law_told", "_law_before"]) (cap := ["_law_told"]) (src := [7]) rfl rfl (by decide +kernel)) (pi_listK K (pv 1)) (λ _ _ _ _ => pg_name (i := 0) (show (["_law_one", "_law_told"] : List Str).Nodup by decide +kernel) rfl (Or.inl rfl)) (λ _ _ _ _ => (pt_cmpR (op_ltTK K (hu_0 hr)) (pv 0) (pv 1) (nomark _))) (λ _ _ _ _ => (pv 0))) pa_nil)))
      (pss_one (ps_ret (pe_and (pe_cmpR op_eq (pe_op op_add (pv 8) pe_int) (pe_callB (call_lenK K) (by rfl) T.z_len bt_len (pa_cons (pe_ix (ix_tupK K) (pv 5) pe_int (λ _ _ => rfl)) pa_nil)) (nomark _)) (pe_one (pe_call (ok__law_at_place (K := K) T) (hr.mono (by decide)) (by rfl) T.m__law_at_place T.k__law_at_place T.b__law_at_place .nil pass0X (pa_cons (pv 8) (pa_cons (pv 1) (pa_cons (pv 2) pa_nil))))))))))))))))))))), ?_⟩
    refine rd_start (σ := [some _, some _, some _, some _, some _, none, none, none, none]) rfl ?_
    have sz : 1000 <= sizeLine := by decide
    have lk := S.len
    have O := S.r.ok
    have hall : st.all.length = st.lo.length + st.hi.length := List.length_append
    have lpm := S.pm.length_eq
    wtm_at "rd"
    refine rd_join (λ σ' H' => Same H H' /\ σ' = [some (.ref r), some (.ref kl), some (.ref sl), some (.bl fl), some (.ref hl), none, none, none, none]) ?_ ?_
    . cases fl
      . wtm_at "rd"
        exact ⟨Same.refl _, rfl⟩
      . wtm_at "rd"
        refine ⟨by show 0 <= sizeLine; decide, λ e he => ?_⟩
        have s1 := same_new he (.lst [])
        have S1 := S.same s1
        obtain ⟨xs, o, pk⟩ := S1.ex
        wtm_at "rd"
        refine rd_neN o.2 pk upd_same (λ z => ?_) (λ z => ?_)
        . wtm_at "rd"
          exact ⟨s1, rfl⟩
        . have nz : st.all ≠ [] := λ h => z (List.eq_nil_of_length_eq_zero (by rw [<- S.pm.length_eq, h]; rfl))
          wtm_at "rd"
          refine use_methR S1.r (by unfold RwM; decide) λ _ => ?_
          wtm_at "rd"
          refine ⟨r, F, st, rfl, S1.r, λ h => absurd h nz, λ x t h0 hx => ?_⟩
          wtm_at "rd"
          refine rd_ninP hx o.2 pk (S.pm.mem_iff.mp (List.mem_append_left _ (List.mem_of_getElem? h0))) ?_
          wtm_at "rd"
          exact ⟨s1, rfl⟩
    rintro _ H1 ⟨s1, rfl⟩
    have S1 := S.same s1
    have oh1 := s1.out oh
    have hH1 := hH.fr (.of_same s1)
    have f1 : Fr (hl :: kl :: sl :: F) (hl :: kl :: sl :: F) H H1 := .of_same s1
    wtm_at "rd"
    refine use_methR S1.r (by unfold RwM; decide) λ _ => ?_
    wtm_at "rd"
    refine use_piles S1.r λ H2 bt l1 l2 us vs s2 nb n1 n2 hne h1 h2 p2 h3 p3 => ?_
    have S2 := S1.same s2
    have lu := p2.len
    have lv := p3.len
    wtm_at "rd"
    refine ⟨_, _, _, true, rfl, .ty (.tup h1), by kernel_rfl, ?_⟩
    wtm_at "rd"
    refine rd_lenT (SqT.of h1) ?_
    rw [show ((([V.ref l1, V.ref l2] : List V).length : Nat) : Int) = 2 from rfl]
    wtm_at "rd"
    refine rd_ixT (v := .ref l1) (SqT.of h1) rfl ?_
    wtm_at "rd"
    refine use_form h2 p2 O.flo (by omega) ?_
    wtm_at "rd"
    refine rd_ixT (v := .ref l2) (SqT.of h1) rfl ?_
    wtm_at "rd"
    refine use_form h3 p3 O.fhi (by omega) ?_
    wtm_at "rd"
    refine rd_ixT (v := .ref l1) (SqT.of h1) rfl ?_
    wtm_at "rd"
    refine rd_ixT (v := .ref l2) (SqT.of h1) rfl ?_
    wtm_at "rd"
    refine ⟨l1, l2, us, vs, rfl, rfl, h2, h3, by omega, λ cp hcp => ?_⟩
    have s3 := same_new hcp (.lst (us ++ vs))
    have pc : Paired (kPair.R (upd H2 cp (.lst (us ++ vs)))) (us ++ vs) st.all := pairs_keep s3.tup (p2.app p3)
    wtm_at "rd"
    refine ⟨cp, us ++ vs, st.all, rfl, upd_same, pc, λ p1 zs qs hp1 hzs hqs sqs _ => ?_⟩
    have s4 := same_new hp1 (.lst zs)
    have S4 := S2.same (s3.trans s4)
    obtain ⟨xs, o, pk⟩ := S4.ex
    have lx := pk.len
    wtm_at "rd"
    refine ⟨kl, xs, ks, rfl, o.2, pk, λ p5 zs' qs' hp5 hzs' hqs' sqs' _ => ?_⟩
    have s5 := same_new hp5 (.lst zs')
    wtm_at "rd"
    refine rd_neL' (s5 _ _ upd_same) (pairs_keep (s4.trans s5).tup hzs) upd_same (pairs_keep s5.tup hzs') (perm_sorted S.pm hqs hqs' sqs sqs') ?_
    have s25 := s3.trans (s4.trans s5)
    have S5 := S2.same s25
    have oh5 := (s2.trans s25).out oh1
    have hH5 := hH1.fr (.of_same (s2.trans s25))
    have f5 := f1.trans (.of_same (F := hl :: kl :: sl :: F) (s2.trans s25))
    have h1' := s25 _ _ h1
    have h2' := s25 _ _ h2
    have h3' := s25 _ _ h3
    have p2' := pairs_keep s25.tup p2
    have p3' := pairs_keep s25.tup p3
    have hG : ∀ b ∈ hl :: kl :: sl :: F, H1 b ≠ none := λ b hb => by
      rcases List.mem_cons.mp hb with rfl | hb
      . rw [oh1.2]; simp
      . exact S1.dom b hb
    have m1 : l1 ∉ hl :: kl :: sl :: F := λ z => hG _ z n1
    have m2 : l2 ∉ hl :: kl :: sl :: F := λ z => hG _ z n2
    clear s3 s4 s5 s25 pc hzs hzs' S4 S2 h1 h2 h3 p2 p3 o pk sqs sqs' hqs hqs' hp1 hp5 hcp
    generalize upd (upd (upd H2 cp (.lst (us ++ vs))) p1 (.lst zs)) p5 (.lst zs') = H5 at *
    wtm_at "rd"
    refine use_methR S5.r (by unfold RwM; decide) λ _ => ?_
    wtm_at "rd"
    refine ⟨r, F, st, rfl, S5.r, λ H6 F6 R6' f6 => ?_⟩
    have S6 := S5.step R6' f6
    have f6' : Fr (hl :: kl :: sl :: F) (hl :: kl :: sl :: F6) H5 H6 := (Fr.cons2 f6 kl sl).cons hl
    have oh6 := (Fr.cons2 f6 kl sl).out oh5
    have hH6 := hH5.fr f6'
    have B6 := (Bef.new h1' m1 m2 h2' p2' h3' p3').fr f6'
    obtain ⟨xs, o, pk⟩ := S6.ex
    have lx := pk.len
    wtm_at "rd"
    refine rd_lenL (SqL.of o.2) ?_
    wtm_at "rd"
    refine use_is (by rw [lpm, lx]) ?_
    have ff := f5.trans f6'
    clear f6' f5 hH5 oh5 S5 f6 h1' h2' h3' p2' p3' hG m1 m2
    have hG6 : ∀ b ∈ hl :: kl :: sl :: F6, H6 b ≠ none := λ b hb => by
      rcases List.mem_cons.mp hb with rfl | hb
      . rw [oh6.2]; simp
      . exact S6.dom b hb
    clear o pk lx xs
    obtain ⟨l1, l2, us, vs, k1, k2, k3, k4, k5⟩ := B6.ex
    wtm_at "rd"
    refine ⟨.inl ⟨rfl, _, SqL.of oh6.2⟩, ?_⟩
    wtm_at "rd"
    refine rd_ixT (v := .ref l1) (SqT.of k1) rfl ?_
    wtm_at "rd"
    refine ⟨l1, us, rfl, .inl (SqL.of k2.2), λ c1 hc1 => ?_⟩
    have s7 := same_new hc1 (.lst us)
    wtm_at "rd"
    refine rd_ixT (v := .ref l2) (SqT.of (s7 _ _ k1)) rfl ?_
    wtm_at "rd"
    refine ⟨l2, vs, rfl, .inl (SqL.of (s7 _ _ k4.2)), λ c2 hc2 => ?_⟩
    have s8 := same_new hc2 (.lst vs)
    wtm_at "rd"
    refine ⟨(by decide : (2 : Nat) <= sizeLine), λ t1 ht1 => ?_⟩
    have s9 := same_new ht1 (.tup [V.ref c1, V.ref c2])
    wtm_at "rd"
    refine ⟨(by decide : (2 : Nat) <= sizeLine), λ t2 ht2 => ?_⟩
    have s10 := same_new ht2 (.tup [V.ref bt, V.ref t1])
    have s6x := s7.trans (s8.trans (s9.trans s10))
    have g2 : (upd (upd (upd (upd H6 c1 (.lst us)) c2 (.lst vs)) t1 (.tup [V.ref c1, V.ref c2])) t2 (.tup [V.ref bt, V.ref t1])) t2 = some (.tup [V.ref bt, V.ref t1]) := upd_same
    have Bn : Bef (hl :: kl :: sl :: F6) (upd (upd (upd (upd H6 c1 (.lst us)) c2 (.lst vs)) t1 (.tup [V.ref c1, V.ref c2])) t2 (.tup [V.ref bt, V.ref t1])) t1 st.lo st.hi :=
      Bef.new (s10 _ _ upd_same) (λ z => hG6 _ z hc1) (λ z => hG6 _ z (none_of s7 hc2)) (s10 _ _ (s9 _ _ (s8 _ _ upd_same))) (pairs_keep s6x.tup k3) (s10 _ _ (s9 _ _ upd_same)) (pairs_keep s6x.tup k5)
    have S7 := S6.same s6x
    have oh7 := s6x.out oh6
    have hH7 := hH6.fr (.of_same s6x)
    have B7 := B6.fr (.of_same s6x)
    have ff7 := ff.trans (.of_same (F := hl :: kl :: sl :: F6) s6x)
    clear s7 s8 s9 s10 s6x k1 k2 k3 k4 k5 B6 hH6 oh6 S6 ff hG6 R6' hc1 hc2 ht1 ht2
    generalize upd (upd (upd (upd H6 c1 (.lst us)) c2 (.lst vs)) t1 (.tup [V.ref c1, V.ref c2])) t2 (.tup [V.ref bt, V.ref t1]) = H7 at *
    wtm_at "rd"
    refine ⟨hl, hs, .ref t2, rfl, rfl, oh7.2, by omega, ?_⟩
    have w8 : Fr (hl :: kl :: sl :: F6) (hl :: kl :: sl :: F6) H7 (upd H7 hl (.lst (hs ++ [.ref t2]))) := .write (by simp) oh7.2
    have keep8 : ∀ b o', b ∈ kl :: sl :: F6 -> H7 b = some o' -> upd H7 hl (.lst (hs ++ [.ref t2])) b = some o' := λ b o' hb h => by rw [upd_ne (λ e => oh7.1 (by rw [<- e]; exact hb))]; exact h
    have S8 : R6 L (upd H7 hl (.lst (hs ++ [.ref t2]))) r F6 st kl ks sl := by
      obtain ⟨xs, o, pk⟩ := S7.ex
      exact ⟨S7.r.keep (λ b o' hb h => keep8 b o' (by simp [hb]) h) w8.tup, S7.pm, S7.srt, ⟨xs, ⟨o.1, keep8 _ _ (by simp) o.2⟩, pairs_keep w8.tup pk⟩, ⟨S7.os.1, keep8 _ _ (by simp) S7.os.2⟩, S7.ne⟩
    have oh8 : Out (kl :: sl :: F6) (upd H7 hl (.lst (hs ++ [.ref t2]))) hl (.lst (hs ++ [.ref t2])) := ⟨oh7.1, upd_same⟩
    have hH8 : Held6 (hl :: kl :: sl :: F6) (upd H7 hl (.lst (hs ++ [.ref t2]))) (hs ++ [.ref t2]) := λ x hx => by
      rcases List.mem_append.mp hx with h | h
      . exact (hH7.fr w8) x h
      . have e : x = .ref t2 := by simpa using h
        exact ⟨t2, bt, t1, st.lo, st.hi, e, w8.tup _ _ g2, B7.fr w8, Bn.fr w8⟩
    have B8 := B7.fr w8
    have ff8 := ff7.trans w8
    have lhs : (hs ++ [V.ref t2]).length = hs.length + 1 := by simp
    clear w8 keep8 hH7 oh7 S7 B7 Bn g2 ff7
    generalize upd H7 hl (.lst (hs ++ [.ref t2])) = H8 at *
    generalize hs ++ [.ref t2] = hs8 at *
    have fin : ∀ H' F', R6 L H' r F' st kl ks sl -> Fr F6 F' H8 H' -> Q (.bl true) H' := λ H' F' S' f' => q H' F' hs8 S' (ff8.trans ((Fr.cons2 f' kl sl).cons hl)) ((Fr.cons2 f' kl sl).out oh8) (hH8.fr ((Fr.cons2 f' kl sl).cons hl)) lhs
    clear hH8 oh8 ff8 lhs q
    wtm_at "rd"
    refine ⟨by show 0 <= sizeLine; decide, λ e he => ?_⟩
    have s9 := same_new he (.lst [])
    have S9 := S8.same s9
    have B9 := B8.fr (.of_same s9)
    have f9 : Fr F6 F6 H8 (upd H8 e (.lst [])) := .of_same s9
    obtain ⟨xs, o, pk⟩ := S9.ex
    wtm_at "rd"
    refine rd_eqN o.2 pk upd_same (λ z => ?_) (λ z => ?_)
    . wtm_at "rd"
      exact ⟨r, F6, st, rfl, S9.r, List.eq_nil_of_length_eq_zero (by rw [lpm, z]; rfl), λ H' s' => fin H' F6 (S9.same s') (f9.trans (.of_same s'))⟩
    . have l0 := List.length_pos_iff.mpr z
      have nz : st.all ≠ [] := λ h => z (List.eq_nil_of_length_eq_zero (by rw [<- lpm, h]; rfl))
      have lx := pk.len
      have hmid : ks.length / 2 < ks.length := by omega
      have m0 : ks[0] ∈ st.all := S9.pm.mem_iff.mpr (List.getElem_mem l0)
      have old : ∀ u ∈ st.all, ks[0].2 <= u.2 := λ u hu => by
        have hm := S9.pm.mem_iff.mp hu
        have sr := S9.srt
        cases ks with
        | nil => cases hm
        | cons k0 kr =>
          rcases List.mem_cons.mp hm with e | e
          . rw [e]; exact Int.le_refl _
          . exact Int.le_of_lt ((List.pairwise_cons.mp sr).1 u e)
      clear S8 B8 s9 he
      generalize upd H8 e (.lst []) = H9 at *
      wtm_at "rd"
      refine rd_lenL (SqL.of o.2) ?_
      rw [lx]
      wtm_at "rd"
      rw [show ((ks.length : Nat) : Int) / 2 = ((ks.length / 2 : Nat) : Int) by omega]
      refine rd_ixLP (SqL.of o.2) pk (List.getElem?_eq_getElem hmid) λ x hx => ?_
      wtm_at "rd"
      refine use_methR S9.r (by unfold RwM; decide) λ _ => ?_
      wtm_at "rd"
      refine use_roldest S9.r m0 old λ H10 F10 R10 f10 => ?_
      have S10 := S9.step R10 f10
      obtain ⟨xs10, o10, pk10⟩ := S10.ex
      wtm_at "rd"
      refine rd_ixLP (i := 0) (SqL.of o10.2) pk10 (List.getElem?_eq_getElem l0) λ y hy => ?_
      wtm_at "rd"
      refine rd_ixP1 hy ?_
      wtm_at "rd"
      refine use_is rfl ?_
      have hx10 := pairs_tup f10.tup hx
      wtm_at "rd"
      refine use_methR S10.r (by unfold RwM; decide) λ _ => ?_
      wtm_at "rd"
      refine rd_ixP1 hx10 ?_
      wtm_at "rd"
      refine use_rnum S10.r (S10.pm.mem_iff.mpr (List.getElem_mem hmid)) rfl λ H11 F11 R11 f11 => ?_
      have S11 := S10.step R11 f11
      have hx11 := pairs_tup f11.tup hx10
      have B11 := (B9.fr ((Fr.cons2 f10 kl sl).cons hl)).fr ((Fr.cons2 f11 kl sl).cons hl)
      have f8 := f9.trans (f10.trans f11)
      obtain ⟨xs11, o11, pk11⟩ := S11.ex
      obtain ⟨l1, l2, us, vs, k1, k2, k3, k4, k5⟩ := B11.ex
      have lu := k3.len
      have lv := k5.len
      have lx11 := pk11.len
      have z0 : 0 < st.lo.length := by
        rcases Nat.eq_zero_or_pos st.lo.length with h | h
        . exact absurd (O.lo_nil (List.eq_nil_of_length_eq_zero h)) nz
        . exact h
      have h0 : st.lo[0]? = some st.lo[0] := List.getElem?_eq_getElem z0
      generalize st.lo[0] = t at h0
      clear S9 S10 f9 f10 f11 B9 o pk o10 pk10 hx hx10 R10 R11
      wtm_at "rd"
      refine rd_ixP0 hx11 ?_
      wtm_at "rd"
      refine use_is rfl ?_
      wtm_at "rd"
      refine use_methR S11.r (by unfold RwM; decide) λ _ => ?_
      wtm_at "rd"
      refine ⟨r, F11, st, rfl, S11.r, λ h => absurd h nz, λ tx t' h0' ht => ?_⟩
      rw [h0] at h0'; cases h0'
      wtm_at "rd"
      refine use_thing ht ?_
      wtm_at "rd"
      refine rd_ixT (v := .ref l1) (SqT.of k1) rfl ?_
      wtm_at "rd"
      refine ⟨by show 0 <= sizeLine; decide, λ e2 he2 => ?_⟩
      have s12 := same_new he2 (.lst [])
      wtm_at "rd"
      refine rd_eqN (s12 _ _ k2.2) (pairs_keep s12.tup k3) upd_same (λ h => absurd h (λ h => by rw [h] at z0; cases z0)) (λ _ => ?_)
      have S12 := S11.same s12
      have o12 := s12.out o11
      have pk12 := pairs_keep s12.tup pk11
      have k1' := s12 _ _ k1
      have k2' := s12 _ _ k2.2
      have k3' := pairs_keep s12.tup k3
      have k4' := s12 _ _ k4.2
      have k5' := pairs_keep s12.tup k5
      have ht' := pairs_tup s12.tup ht
      have f8' := f8.trans (.of_same (F := F11) s12)
      clear s12 S11 o11 pk11 k1 k2 k3 k4 k5 ht f8 he2
      generalize upd H11 e2 (.lst []) = H12 at *
      wtm_at "rd"
      refine rd_ixT (v := .ref l1) (SqT.of k1') rfl ?_
      wtm_at "rd"
      refine rd_ixLP (i := 0) (SqL.of k2') k3' h0 λ tx2 ht2 => ?_
      wtm_at "rd"
      refine rd_neP' ht' ht2 rfl ?_
      wtm_at "rd"
      refine rd_join (λ σ' H' => Same H12 H' /\ σ' = [some (.ref r), some (.ref kl), some (.ref sl), some (.bl fl), some (.ref hl), some (.ref bt), some x, some tx, none]) ?_ ?_
      . wtm_at "rd"
        refine rd_ixT (v := .ref l2) (SqT.of k1') rfl ?_
        wtm_at "rd"
        refine ⟨by show 0 <= sizeLine; decide, λ e3 he3 => ?_⟩
        have s13 := same_new he3 (.lst [])
        wtm_at "rd"
        refine rd_neN (s13 _ _ k4') (pairs_keep s13.tup k5') upd_same (λ _ => ?_) (λ zh => ?_)
        . wtm_at "rd"
          exact ⟨s13, rfl⟩
        . have g0 := List.length_pos_iff.mpr zh
          wtm_at "rd"
          refine rd_ixT (v := .ref l2) (SqT.of (s13 _ _ k1')) rfl ?_
          wtm_at "rd"
          refine rd_ixLP (i := 0) (SqL.of (s13 _ _ k4')) (pairs_keep s13.tup k5') (List.getElem?_eq_getElem g0) λ y3 hy3 => ?_
          wtm_at "rd"
          refine rd_ltP (pairs_tup s13.tup ht') hy3 ?_
          rw [O.ord t (List.mem_of_getElem? h0) _ (List.getElem_mem g0)]
          wtm_at "rd"
          exact ⟨s13, rfl⟩
      rintro _ H13 ⟨s13, rfl⟩
      have S13 := S12.same s13
      have cnt := before_count O S13.pm h0
      wtm_at "rd"
      refine rd_compF (λ u => pLt u t) rfl (s13 _ _ o12.2) (pairs_keep s13.tup pk12) (by omega) (λ x4 p4 rest H14 B er rp s14 hB => ?_) λ D ys hD py => ?_
      . subst er
        wtm_at "rd"
        refine rd_ltP rp (pairs_tup (s13.trans s14).tup ht') ?_
        wtm_at "rd"
        exact hB
      . have s14 := same_new hD (.lst ys)
        have S14 := S13.same s14
        have lys := py.len
        have s134 := s13.trans s14
        have hD' : upd H13 D (.lst ys) D = some (.lst ys) := upd_same
        generalize upd H13 D (.lst ys) = H14 at *
        wtm_at "rd"
        refine rd_lenL (SqL.of hD') ?_
        rw [lys]
        generalize hb : (ks.filter λ u => pLt u t).length = b at *
        wtm_at "rd"
        refine rd_ixT (v := .ref l1) (SqT.of (s134 _ _ k1')) rfl ?_
        wtm_at "rd"
        refine rd_lenL (SqL.of (s134 _ _ k2')) ?_
        rw [lu, <- cnt]
        wtm_at "rd"
        have I := Mp.placeF_is (m := (st.all.length : Nat)) (by omega) O.sh.1 O.sh.2.1 O.sh.2.2
        rw [<- O.cnt, lpm, show (st.lo.length : Int) = (b : Int) + 1 by omega] at I
        refine ⟨b, kl, sl, xs11, ks.length, _, _, _, rfl, s134 _ _ o12.2, lx11, by omega, by omega, S14.os.2, O.sh, O.wb, I, ?_⟩
        exact fin H14 F11 S14 (f8'.trans (.of_same s134))
end
end K06
namespace K06
open PySem L2 Hm
section
variable {P : Program} {w : World} {K : PySem.W.Frag} {mg : Str -> Option Value} {base : Heap} {L : Lk}
def spLaw (K : PySem.W.Frag) : Sp := λ vs H Q _ => ∃ (a : Addr) (ns : List Int), vs = [.ref a] /\ SqL K H a (ns.map V.int) /\ ns.length <= 63 /\ ∀ H', Q (.bl true) H'
theorem ok_law (T : Txt K mg L) : FnOk P w K mg base (CXE P w) 60 L.a_law L.d_law ["_law_script"] (spLaw K) := by
  refine T.f_law.ok0 sc_law (λ vs H Q E h => ?_) (λ cdv A outer s H vs Q E hr h => ?_)
  . obtain ⟨a, ns, rfl, _⟩ := h
    rfl
  . obtain ⟨a, ns, rfl, hS, hlen, k⟩ := h
    refine ⟨_, (pss_cons (ps_set (i := 1) sc_law.nd rfl (Or.inl rfl) (pe_op op_add pe_int (pe_op op_mod (pe_op op_fdivB (pe_call (ok__law_at (K := K) T) (hr.mono (by decide)) (by rfl) T.m__law_at T.k__law_at T.b__law_at .nil pass0X (pa_cons (pv 0) (pa_cons pe_int pa_nil))) pe_int) pe_int)))
      (pss_join (ps_if (pt_cmpR op_eq (pe_op op_mod (pe_call (ok__law_at (K := K) T) (hr.mono (by decide)) (by rfl) T.m__law_at T.k__law_at T.b__law_at .nil pass0X (pa_cons (pv 0) (pa_cons pe_int pa_nil))) pe_int) pe_int (nomark _)) (pss_one (ps_set (i := 1) sc_law.nd rfl (Or.inl rfl) (pe_op op_add pe_int (pe_op op_mod (pe_op op_fdivB (pe_call (ok__law_at (K := K) T) (hr.mono (by decide)) (by rfl) T.m__law_at T.k__law_at T.b__law_at .nil pass0X (pa_cons (pv 0) (pa_cons pe_int pa_nil))) pe_int) (pe_powc (v := 10 ^ 59) rfl (by decide)))))) pss_nil)
      (pss_cons (ps_set (i := 2) sc_law.nd rfl (Or.inl rfl) (pe_op op_mod (pe_call (ok__law_at (K := K) T) (hr.mono (by decide)) (by rfl) T.m__law_at T.k__law_at T.b__law_at .nil pass0X (pa_cons (pv 0) (pa_cons pe_int pa_nil))) (pe_op op_add (pv 1) pe_int)))
      (pss_cons (ps_set (i := 3) sc_law.nd rfl (Or.inl rfl) (pe_ix (ix_listK K) (pe_lst (pa_cons (pe_tup (pa_cons (pe_op op_sub (pe_un un_neg pe_int) (pv 2)) (pa_cons (pv 1) pa_nil))) (pa_cons (pe_tup (pa_cons (pe_op op_add (pe_op op_add (pv 1) pe_int) (pv 2)) (pa_cons (pv 1) pa_nil))) (pa_cons (pe_tup (pa_cons (pv 2) (pa_cons (pe_un un_neg (pv 2)) pa_nil))) (pa_cons (pe_tup (pa_cons pe_int (pa_cons pe_int pa_nil))) pa_nil))))) (pe_op op_mod (pe_op op_fdivB (pe_call (ok__law_at (K := K) T) (hr.mono (by decide)) (by rfl) T.m__law_at T.k__law_at T.b__law_at .nil pass0X (pa_cons (pv 0) (pa_cons pe_int pa_nil))) pe_int) pe_int) (λ _ _ => rfl)))
      (pss_cons (ps_if (pt_not (pt_val (pe_call (ok__law_no_row (K := K) T) (hr.mono (by decide)) (by rfl) T.m__law_no_row T.k__law_no_row T.b__law_no_row .nil pass0X (pa_cons (pe_ix (ix_tupK K) (pv 3) pe_int (λ _ _ => rfl)) (pa_cons (pe_ix (ix_tupK K) (pv 3) pe_int (λ _ _ => rfl)) pa_nil))))) (pss_one (ps_ret pe_bl)) pss_nil)
      (pss_cons (ps_set (i := 4) sc_law.nd rfl (Or.inl rfl) (pe_call (ok__law_made (K := K) T) (hr.mono (by decide)) (by rfl) T.m__law_made T.k__law_made T.b__law_made .nil pass0X (pa_cons (pe_op op_fdivB (pe_call (ok__law_at (K := K) T) (hr.mono (by decide)) (by rfl) T.m__law_at T.k__law_at T.b__law_at .nil pass0X (pa_cons (pv 0) (pa_cons pe_int pa_nil))) pe_int) (pa_cons (pv 2) (pa_cons (pv 1) pa_nil)))))
      (pss_cons (ps_set (i := 5) sc_law.nd rfl (Or.inl rfl) (pe_ix (ix_tupK K) (pv 4) pe_int (λ _ _ => rfl)))
      (pss_cons (ps_set (i := 6) sc_law.nd rfl (Or.inl rfl) (pe_lst pa_nil))
      (pss_cons (ps_set (i := 7) sc_law.nd rfl (Or.inl rfl) (pe_lst (pa_cons pe_int (pa_cons (pe_ix (ix_tupK K) (pv 4) pe_int (λ _ _ => rfl)) (pa_cons (pe_ix (ix_tupK K) (pv 4) pe_int (λ _ _ => rfl)) pa_nil)))))
      (pss_cons (ps_set (i := 8) sc_law.nd rfl (Or.inl rfl) (pe_lst pa_nil))
      (pss_cons (ps_set (i := 9) sc_law.nd rfl (Or.inl rfl) (pe_op op_mod (pe_op op_fdivB (pe_call (ok__law_at (K := K) T) (hr.mono (by decide)) (by rfl) T.m__law_at T.k__law_at T.b__law_at .nil pass0X (pa_cons (pv 0) (pa_cons pe_int pa_nil))) pe_int) pe_int))
      (pss_join (ps_if (pt_cmpR op_eq (pe_op op_mod (pe_call (ok__law_at (K := K) T) (hr.mono (by decide)) (by rfl) T.m__law_at T.k__law_at T.b__law_at .nil pass0X (pa_cons (pv 0) (pa_cons pe_int pa_nil))) pe_int) pe_int (nomark _)) (pss_one (ps_set (i := 9) sc_law.nd rfl (Or.inl rfl) (pe_op op_mod (pe_op op_fdivB (pe_call (ok__law_at (K := K) T) (hr.mono (by decide)) (by rfl) T.m__law_at T.k__law_at T.b__law_at .nil pass0X (pa_cons (pv 0) (pa_cons pe_int pa_nil))) pe_int) pe_int))) pss_nil)
      (pss_cons (ps_for PassesOwn.never rfl (pi_listK K (pe_call (ok__law_numbers (K := K) T) (hr.mono (by decide)) (by rfl) T.m__law_numbers T.k__law_numbers T.b__law_numbers .nil pass0X (pa_cons (pe_call (ok__law_at (K := K) T) (hr.mono (by decide)) (by rfl) T.m__law_at T.k__law_at T.b__law_at .nil pass0X (pa_cons (pv 0) (pa_cons pe_int pa_nil))) (pa_cons (pv 9) pa_nil)))) (pg_name (i := 10) sc_law.nd rfl (Or.inl rfl))
      (pss_one (ps_if (pt_not (pt_val (pe_call (ok__law_put (K := K) T) (hr.mono (by decide)) (by rfl) T.m__law_put T.k__law_put T.b__law_put .nil pass0X (pa_cons (pv 5) (pa_cons (pv 6) (pa_cons (pv 7) (pa_cons (pv 10) pa_nil))))))) (pss_one (ps_ret pe_bl)) pss_nil)))
      (pss_cons (ps_if (pt_not (pt_val (pe_call (ok__law_look (K := K) T) (hr.mono (by decide)) (by rfl) T.m__law_look T.k__law_look T.b__law_look .nil pass0X (pa_cons (pv 5) (pa_cons (pv 6) (pa_cons (pv 7) (pa_cons pe_bl (pa_cons (pv 8) pa_nil)))))))) (pss_one (ps_ret pe_bl)) pss_nil)
      (pss_cons (ps_for PassesOwn.never rfl (pi_enum K (by rfl) T.z_enumerate (pa_cons (pe_slice (sl_listK K) (pv 0) (po_some pe_int) (po_some pe_int)) pa_nil)) (pg_tup rfl (pgs_cons (pg_name (i := 11) sc_law.nd rfl (Or.inl rfl)) (pgs_cons (pg_name (i := 12) sc_law.nd rfl (Or.inl rfl)) pgs_nil)))
      (pss_cons (ps_if (pt_not (pt_val (pe_call (ok__law_deed (K := K) T) (hr.mono (by decide)) (by rfl) T.m__law_deed T.k__law_deed T.b__law_deed .nil pass0X (pa_cons (pv 5) (pa_cons (pv 6) (pa_cons (pv 7) (pa_cons (pv 12) pa_nil))))))) (pss_one (ps_ret pe_bl)) pss_nil)
      (pss_one (ps_if (pt_not (pt_val (pe_call (ok__law_look (K := K) T) (hr.mono (by decide)) (by rfl) T.m__law_look T.k__law_look T.b__law_look .nil pass0X (pa_cons (pv 5) (pa_cons (pv 6) (pa_cons (pv 7) (pa_cons (pe_cmpR op_eq (pe_op op_mod (pe_op op_add (pe_op op_fdivB (pv 12) pe_int) (pv 11)) pe_int) pe_int (nomark _)) (pa_cons (pv 8) pa_nil)))))))) (pss_one (ps_ret pe_bl)) pss_nil))))
      (pss_one (ps_ret (pe_cmpR (op_eqL (kTup (kTup (kLst kPair) (kLst kPair)) (kTup (kLst kPair) (kLst kPair))) (hu_k hr (by decide))) (pe_comp1 rfl (CmpSc.of (fs := defScope s_law) (fN := ["_law_script", "_law_whole", "_law_part", "_law_bad", "_law_made_here", "_law_row", "_law_kept", "_law_state", "_law_held", "_law_many", "_law_number_here", "_law_k", "_law_cell"]) (cap := []) (src := []) rfl rfl (by decide +kernel)) (pi_listK K (pv 8)) (λ _ _ _ _ => pg_name (i := 0) (show (["_law_pair"] : List Str).Nodup by decide +kernel) rfl (Or.inl rfl)) (λ _ _ _ _ => (pt_cmpR (op_neT (kLst kPair) (kLst kPair) (hu_k hr (by decide))) (pe_ix (ix_tupK K) (pv 0) pe_int (λ _ _ => rfl)) (pe_ix (ix_tupK K) (pv 0) pe_int (λ _ _ => rfl)) (nomark _))) (λ _ _ _ _ => (pv 0))) (pe_lst pa_nil) (nomark _))))))))))))))))))), ?_⟩
    refine rd_start (σ := [some _, none, none, none, none, none, none, none, none, none, none, none, none]) rfl ?_
    have sz : 1000 <= sizeLine := by decide
    wtm_at "rd"
    refine use_at hS (by decide) ?_
    wtm_at "rd"
    refine rd_join (λ σ' H' => H' = H /\ ∃ wh : Int, 1 <= wh /\ wh < 2 ^ 220 /\ σ' = [some (.ref a), some (.int wh), none, none, none, none, none, none, none, none, none, none, none]) ?_ ?_
    . wtm_at "rd"
      refine use_at hS (by decide) ?_
      wtm_at "rd"
      . refine use_at hS (by decide) ?_
        wtm_at "rd"
        exact ⟨rfl, _, by omega, by omega, rfl⟩
      . exact ⟨rfl, _, by omega, by omega, rfl⟩
    rintro _ H ⟨rfl, wh, w1, w2, rfl⟩
    have p0 := Int.emod_nonneg (cell ns 1) (show wh + 1 ≠ 0 by omega)
    have pw := Int.emod_lt_of_pos (cell ns 1) (show 0 < wh + 1 by omega)
    wtm_at "rd"
    refine use_at hS (by decide) ?_
    wtm_at "rd"
    generalize cell ns 1 % (wh + 1) = p at *
    refine ⟨(by decide : (2 : Nat) <= sizeLine), λ t1 ht1 => ?_⟩
    have s1 := same_new ht1 (.tup [V.int (-1 - p), V.int wh])
    have k1 : kPair.R (upd H t1 (.tup [V.int (-1 - p), V.int wh])) (.ref t1) (-1 - p, wh) := kPair_of upd_same
    generalize upd H t1 (.tup [V.int (-1 - p), V.int wh]) = H1 at *
    wtm_at "rd"
    refine ⟨(by decide : (2 : Nat) <= sizeLine), λ t2 ht2 => ?_⟩
    have s2 := same_new ht2 (.tup [V.int (wh + 1 + p), V.int wh])
    have k2 : kPair.R (upd H1 t2 (.tup [V.int (wh + 1 + p), V.int wh])) (.ref t2) (wh + 1 + p, wh) := kPair_of upd_same
    generalize upd H1 t2 (.tup [V.int (wh + 1 + p), V.int wh]) = H2 at *
    wtm_at "rd"
    refine ⟨(by decide : (2 : Nat) <= sizeLine), λ t3 ht3 => ?_⟩
    have s3 := same_new ht3 (.tup [V.int p, V.int (-p)])
    have k3 : kPair.R (upd H2 t3 (.tup [V.int p, V.int (-p)])) (.ref t3) (p, -p) := kPair_of upd_same
    generalize upd H2 t3 (.tup [V.int p, V.int (-p)]) = H3 at *
    wtm_at "rd"
    refine ⟨(by decide : (2 : Nat) <= sizeLine), λ t4 ht4 => ?_⟩
    have s4 := same_new ht4 (.tup [V.int 0, V.int 0])
    have k4 : kPair.R (upd H3 t4 (.tup [V.int 0, V.int 0])) (.ref t4) (0, 0) := kPair_of upd_same
    generalize upd H3 t4 (.tup [V.int 0, V.int 0]) = H4 at *
    wtm_at "rd"
    refine ⟨(by decide : (4 : Nat) <= sizeLine), λ tl htl => ?_⟩
    have s5 := same_new htl (.lst [V.ref t1, V.ref t2, V.ref t3, V.ref t4])
    have h5 : upd H4 tl (.lst [V.ref t1, V.ref t2, V.ref t3, V.ref t4]) tl = some (.lst [V.ref t1, V.ref t2, V.ref t3, V.ref t4]) := upd_same
    have s15 := s1.trans (s2.trans (s3.trans (s4.trans s5)))
    have pick : ∃ (v : V) (b : Th), atI [V.ref t1, V.ref t2, V.ref t3, V.ref t4] (cell ns 3 / 28 % 4) = some v /\ kPair.R (upd H4 tl (.lst [V.ref t1, V.ref t2, V.ref t3, V.ref t4])) v b /\ ¬ Share b.1 b.2 /\ b.2 < 2 ^ 250 := by
      have : cell ns 3 / 28 % 4 = 0 \/ cell ns 3 / 28 % 4 = 1 \/ cell ns 3 / 28 % 4 = 2 \/ cell ns 3 / 28 % 4 = 3 := by omega
      rcases this with e | e | e | e <;> rw [e]
      . exact ⟨_, _, rfl, kPair.same (s2.trans (s3.trans (s4.trans s5))) k1, by unfold Share; simp; omega, by show wh < _; omega⟩
      . exact ⟨_, _, rfl, kPair.same (s3.trans (s4.trans s5)) k2, by unfold Share; simp; omega, by show wh < _; omega⟩
      . exact ⟨_, _, rfl, kPair.same (s4.trans s5) k3, by unfold Share; simp; omega, by show -p < _; omega⟩
      . exact ⟨_, _, rfl, kPair.same s5 k4, by unfold Share; simp, by decide⟩
    obtain ⟨v, b, hv, kb, nb, bb⟩ := pick
    have hS5 := s15.seq hS
    clear hS s1 s2 s3 s4 s5 s15 k1 k2 k3 k4 ht1 ht2 ht3 ht4 htl
    generalize upd H4 tl (.lst [V.ref t1, V.ref t2, V.ref t3, V.ref t4]) = H5 at *
    wtm_at "rd"
    refine use_at hS5 (by decide) ?_
    wtm_at "rd"
    refine rd_ixL (SqL.of h5) hv ?_
    wtm_at "rd"
    refine rd_ixP0 kb ?_
    wtm_at "rd"
    refine rd_ixP1 kb ?_
    wtm_at "rd"
    refine ⟨b.1, b.2, rfl, bb, nb, λ H6 s6 => ?_⟩
    have hS6 := s6.seq hS5
    wtm_at "rd"
    refine use_at hS6 (by decide) ?_
    wtm_at "rd"
    refine ⟨_, p, wh, rfl, ⟨w1, p0, by omega⟩, by omega, λ p' w' r F tm H7 hs' hw' R7 f7 htm => ?_⟩
    have C7 := (Scr.of hS6).fr f7
    wtm_at "rd"
    refine rd_ixT (v := .ref r) (SqT.of htm) rfl ?_
    wtm_at "rd"
    refine ⟨by show 0 <= sizeLine; decide, λ kl hkl => ?_⟩
    have s8 := same_new hkl (.lst [])
    have C8 := C7.new (o := .lst []) hkl
    have R8 := R7.same s8
    have o8 : Out F (upd H7 kl (.lst [])) kl (.lst []) := out_new R7.dom hkl
    have htm8 := s8 _ _ htm
    generalize upd H7 kl (.lst []) = H8 at *
    wtm_at "rd"
    refine rd_ixT (v := .int p') (SqT.of htm8) rfl ?_
    wtm_at "rd"
    refine rd_ixT (v := .int w') (SqT.of htm8) rfl ?_
    wtm_at "rd"
    refine ⟨(by decide : (3 : Nat) <= sizeLine), λ sl hsl => ?_⟩
    have s9 := same_new hsl (.lst [V.int 0, V.int p', V.int w'])
    have C9 := C8.new (o := .lst [V.int 0, V.int p', V.int w']) hsl
    have nks : kl ≠ sl := ne_of_none o8.2 hsl
    have S9 : R6 L (upd H8 sl (.lst [V.int 0, V.int p', V.int w'])) r F ⟨p', w', 0, [], []⟩ kl [] sl := ⟨R8.same s9, .nil, .nil, ⟨[], s9.out o8, .nil⟩, out_new R8.dom hsl, nks⟩
    generalize upd H8 sl (.lst [V.int 0, V.int p', V.int w']) = H9 at *
    wtm_at "rd"
    refine ⟨by show 0 <= sizeLine; decide, λ hl hhl => ?_⟩
    have s10 := same_new hhl (.lst [])
    have C10' := C9.new (o := .lst []) hhl
    have S10 := S9.same s10
    have oh10 : Out (kl :: sl :: F) (upd H9 hl (.lst [])) hl (.lst []) := out_new S9.dom hhl
    have C10 : Scr K (hl :: kl :: sl :: F) (upd H9 hl (.lst [])) a (ns.map V.int) := by
      rcases C10' with h | ⟨⟨u, hu⟩, h⟩
      . exact .inl h
      . refine .inr ⟨⟨u, λ z => hu.1 ?_, hu.2⟩, h⟩
        simp only [List.mem_cons] at z ⊢
        rcases z with z | z | z | z
        . exact .inl z
        . exact .inr (.inr (.inl z))
        . exact .inr (.inl z)
        . exact .inr (.inr (.inr z))
    clear C7 C8 C9 C10' R7 R8 o8 S9 s8 s9 s10 f7 htm htm8 hkl hsl hhl hS5 hS6
    generalize upd H9 hl (.lst []) = H10 at *
    wtm_at "rd"
    refine use_at C10.sq (by decide) ?_
    wtm_at "rd"
    refine rd_join (λ σ' H' => H' = H10 /\ ∃ m : Nat, m < 61 /\ σ' = [some (.ref a), some (.int wh), some (.int p), some v, some (.ref tm), some (.ref r), some (.ref kl), some (.ref sl), some (.ref hl), some (.int (m : Nat)), none, none, none]) ?_ ?_
    . wtm_at "rd"
      refine use_at C10.sq (by decide) ?_
      wtm_at "rd"
      . refine use_at C10.sq (by decide) ?_
        wtm_at "rd"
        exact ⟨rfl, (cell ns 2 / 4 % 61).toNat, by omega, by rw [show (((cell ns 2 / 4 % 61).toNat : Nat) : Int) = cell ns 2 / 4 % 61 by omega]⟩
      . exact ⟨rfl, (cell ns 2 / 4 % 6).toNat, by omega, by rw [show (((cell ns 2 / 4 % 6).toNat : Nat) : Int) = cell ns 2 / 4 % 6 by omega]⟩
    rintro _ H10 ⟨rfl, m, hm, rfl⟩
    wtm_at "rd"
    refine use_at C10.sq (by decide) ?_
    wtm_at "rd"
    refine ⟨_, m, rfl, by omega, λ H11 nl nums s11 nnl h11 lnums => ?_⟩
    have S11 := S10.same s11
    have hG : ∀ b ∈ hl :: kl :: sl :: F, H10 b ≠ none := λ b hb => by
      rcases List.mem_cons.mp hb with rfl | hb
      . rw [oh10.2]; simp
      . exact S10.dom b hb
    have onl : Out (hl :: kl :: sl :: F) H11 nl (.lst (nums.map V.int)) := ⟨λ z => hG _ z nnl, h11⟩
    have oh11 := s11.out oh10
    have C11 := C10.fr (.of_same s11)
    clear S10 oh10 C10 hG
    refine ⟨nl, rfl, ⟨_, SqL.of onl.2⟩, ?_⟩
    refine for_list (xs := nums.map V.int) (λ i σ' H' => ∃ F' s' ks' o, R6 L H' r F' s' kl ks' sl /\ s'.came = i /\ Out (kl :: sl :: F') H' hl (.lst []) /\ Out (hl :: kl :: sl :: F') H' nl (.lst (nums.map V.int)) /\ Scr K (hl :: kl :: sl :: F') H' a (ns.map V.int) /\ σ' = [some (.ref a), some (.int wh), some (.int p), some v, some (.ref tm), some (.ref r), some (.ref kl), some (.ref sl), some (.ref hl), some (.int (m : Nat)), o, none, none]) ?_ ?_ ?_ ?_
    . exact ⟨F, _, [], none, S11, rfl, oh11, onl, C11, rfl⟩
    . rintro i _ H' _ ⟨F', s', ks', o, _, _, _, on, _⟩
      exact SqL.of on.2
    . rintro i x _ H' hx ⟨F', s', ks', o, S, hc, oh, on, C, rfl⟩
      obtain ⟨n, rfl, hn⟩ := map_get hx
      have hi : i < 61 := by
        have := (List.getElem?_eq_some_iff.mp hn).1
        omega
      wtm_at "rd"
      refine ⟨r, kl, sl, n, F', s', ks', rfl, S, by omega, λ H2 F2 s2 ks2 S2 e2 f2 => ?_⟩
      wtm_at "rd"
      exact ⟨F2, s2, ks2, _, S2, by omega, f2.out oh, (f2.cons hl).out on, C.fr (f2.cons hl), rfl⟩
    rintro _ H12 ⟨F12, s12, ks12, o12, S12, hc12, oh12, _, C12, rfl⟩
    have hc12' : s12.came <= 60 := by rw [hc12, List.length_map]; omega
    clear hc12 onl S11 oh11 C11
    wtm_at "rd"
    refine ⟨r, kl, sl, false, hl, F12, s12, ks12, [], rfl, S12, by omega, oh12, λ _ h => (by cases h), by decide, λ H13 F13 hs13 S13 f13 oh13 hH13 lh13 => ?_⟩
    have C13 := C12.fr f13
    wtm_at "rd"
    refine ⟨_, rfl, _, rfl, _, rfl, a, _, rfl, C13.sq, λ el hel => ?_⟩
    obtain ⟨ms, ems, lms⟩ := cutV_ints ns (some 4) (some 404)
    rw [ems]
    have s14 := same_new hel (.lst (ms.map V.int))
    have S14 := S13.same s14
    have oh14 := s14.out oh13
    have hH14 := hH13.fr (.of_same s14)
    have hG : ∀ b ∈ hl :: kl :: sl :: F13, H13 b ≠ none := λ b hb => by
      rcases List.mem_cons.mp hb with rfl | hb
      . rw [oh13.2]; simp
      . exact S13.dom b hb
    have oe14 : Out (hl :: kl :: sl :: F13) _ el (.lst (ms.map V.int)) := out_new hG hel
    clear hG C13 C12 S13 oh13 hH13 S12 oh12 f13
    generalize upd H13 el (.lst (ms.map V.int)) = H14 at *
    wtm_at "rd"
    refine ⟨el, rfl, ⟨_, SqL.of oe14.2⟩, ?_⟩
    refine for_enum (xs := ms.map V.int) (λ i σ' H' => ∃ F' s' ks' hs' o1 o2, R6 L H' r F' s' kl ks' sl /\ s'.came <= 60 + i /\ Out (kl :: sl :: F') H' hl (.lst hs') /\ Held6 (hl :: kl :: sl :: F') H' hs' /\ hs'.length = 1 + i /\ Out (hl :: kl :: sl :: F') H' el (.lst (ms.map V.int)) /\ σ' = [some (.ref a), some (.int wh), some (.int p), some v, some (.ref tm), some (.ref r), some (.ref kl), some (.ref sl), some (.ref hl), some (.int (m : Nat)), o12, o1, o2]) ?_ ?_ ?_ ?_
    . exact ⟨F13, s12, ks12, hs13, none, none, S14, by omega, oh14, hH14, by rw [lh13]; rfl, oe14, rfl⟩
    . rintro i _ H' _ ⟨F', s', ks', hs', o1, o2, _, _, _, _, _, oe, _⟩
      exact SqL.of oe.2
    . rintro i x _ H' t hx ⟨F', s', ks', hs', o1, o2, S, hc, oh, hH, lh, oe, rfl⟩ ht
      obtain ⟨c, rfl, hci⟩ := map_get hx
      have i63 : i < 63 := by
        have := (List.getElem?_eq_some_iff.mp hci).1
        omega
      have s1 := same_new ht (.tup [V.int (i : Nat), V.int c])
      refine ⟨t, _, rfl, SqT.of upd_same, rfl, ?_⟩
      refine ⟨_, _, rfl, ?_⟩
      refine ⟨_, _, rfl, rfl, ?_⟩
      have S1 := S.same s1
      have oh1 := s1.out oh
      have hH1 := hH.fr (.of_same s1)
      have oe1 := s1.out oe
      clear S oh hH oe
      generalize upd H' t (.tup [V.int (i : Nat), V.int c]) = H1 at *
      wtm_at "rd"
      refine ⟨r, kl, sl, c, F', s', ks', rfl, S1, by omega, λ H2 F2 s2 ks2 S2 e2 f2 => ?_⟩
      wtm_at "rd"
      refine ⟨r, kl, sl, _, hl, F2, s2, ks2, hs', rfl, S2, by omega, f2.out oh1, hH1.fr (f2.cons hl), by omega, λ H3 F3 hs3 S3 f3 oh3 hH3 lh3 => ?_⟩
      wtm_at "rd"
      exact ⟨F3, s2, ks2, hs3, _, _, S3, by omega, oh3, hH3, by omega, f3.out ((f2.cons hl).out oe1), rfl⟩
    . rintro _ H15 ⟨F15, s15, ks15, hs15, o1, o2, S15, _, oh15, hH15, lh15, _, rfl⟩
      wtm_at "rd"
      refine rd_compNone rfl oh15.2 (λ x rest H16 B hx s16 hB => ?_) λ D hD => ?_
      . obtain ⟨t, b1, b2, lo, hi, rfl, e1, B1, B2⟩ := hH15 x hx
        have e1' := s16 _ _ e1
        have B1' := B1.fr (.of_same s16)
        have B2' := B2.fr (.of_same s16)
        wtm_at "rd"
        refine rd_ixT (v := .ref b1) (SqT.of e1') rfl ?_
        wtm_at "rd"
        refine rd_ixT (v := .ref b2) (SqT.of e1') rfl ?_
        wtm_at "rd"
        refine ⟨_, _, B1'.kd, B2'.kd, ?_⟩
        rw [decide_eq_true rfl]
        exact ⟨_, rfl, hB⟩
      . wtm_at "rd"
        refine ⟨by show 0 <= sizeLine; decide, λ e2 he2 => ?_⟩
        wtm_at "rd"
        refine rd_eqN (ps := []) (xs := []) (same_new he2 _ _ _ upd_same) .nil upd_same (λ _ => k _) λ h => absurd rfl h
end
end K06
namespace K06
open PySem L2 Hm
theorem txt_mk {K : W.Frag} {h : Heap} {mg : Str -> Option Value} (X : K.In h) (G : h.Ns mainGlobals mg)
    {q0 q1 q2 q3 q4 q5 q6 q7 q8 q9 q10 q11 q12 q13 q14 q15 q16 q17 q18 q19 q20 q21 q22 q23 q24 q25 q26 q27 q28 q29 q30 q31 q32 q33 q34 q35 q36 q37 q38 q39 q40 q41 q42 q43 q44 q45 q46 q47 q48 q49 q50 q51 q52 q53 q54 q55 q56 : Addr}
    {q57 q58 : Option Addr} {q59 : Array (Option Value)} {q60 q61 q62 q63 q64 q65 : Value}
    {q66 q67 : Option Addr} {q68 : Array (Option Value)} {q69 q70 q71 q72 q73 q74 : Value}
    {q75 q76 : Option Addr} {q77 : Array (Option Value)} {q78 q79 q80 q81 q82 q83 : Value}
    {q84 q85 : Option Addr} {q86 : Array (Option Value)} {q87 q88 q89 q90 q91 q92 : Value}
    {q93 q94 : Option Addr} {q95 : Array (Option Value)} {q96 q97 q98 q99 q100 q101 : Value}
    {q102 q103 : Option Addr} {q104 : Array (Option Value)} {q105 q106 q107 q108 q109 q110 : Value}
    {q111 q112 : Option Addr} {q113 : Array (Option Value)} {q114 q115 q116 q117 q118 q119 : Value}
    {q120 q121 : Option Addr} {q122 : Array (Option Value)} {q123 q124 q125 q126 q127 q128 : Value}
    {q129 q130 : Option Addr} {q131 : Array (Option Value)} {q132 q133 q134 q135 q136 q137 : Value}
    {q138 q139 : Option Addr} {q140 : Array (Option Value)} {q141 q142 q143 q144 q145 q146 : Value}
    {q147 q148 : Option Addr} {q149 : Array (Option Value)} {q150 q151 q152 q153 q154 q155 : Value}
    {q156 q157 : Option Addr} {q158 : Array (Option Value)} {q159 q160 q161 q162 q163 q164 : Value}
    {q165 q166 : Option Addr} {q167 : Array (Option Value)} {q168 q169 q170 q171 q172 q173 : Value}
    {q174 q175 : Option Addr} {q176 : Array (Option Value)} {q177 q178 q179 q180 q181 q182 : Value}
    {q183 q184 : Option Addr} {q185 : Array (Option Value)} {q186 q187 q188 q189 q190 q191 : Value}
    {q192 q193 : Option Addr} {q194 : Array (Option Value)} {q195 q196 q197 q198 q199 q200 : Value}
    {q201 q202 : Option Addr} {q203 : Array (Option Value)} {q204 q205 q206 q207 q208 q209 : Value}
    {q210 q211 : Option Addr} {q212 : Array (Option Value)} {q213 q214 q215 q216 q217 q218 : Value}
    {q219 : Addr} {q220 : Obj} {q221 : Nat} {q222 q223 : Tok}
    {q224 q225 : Option Addr} {q226 : Array (Option Value)} {q227 q228 q229 q230 q231 q232 : Value}
    {q233 q234 : Option Addr} {q235 : Array (Option Value)} {q236 q237 q238 q239 q240 q241 : Value}
    {q242 q243 : Option Addr} {q244 : Array (Option Value)} {q245 q246 q247 q248 q249 q250 : Value}
    {q251 q252 : Option Addr} {q253 : Array (Option Value)} {q254 q255 q256 q257 q258 q259 : Value}
    {q260 q261 : Option Addr} {q262 : Array (Option Value)} {q263 q264 q265 q266 q267 q268 : Value}
    {q269 q270 : Option Addr} {q271 : Array (Option Value)} {q272 q273 q274 q275 q276 q277 : Value}
    {q278 q279 : Option Addr} {q280 : Array (Option Value)} {q281 q282 q283 q284 q285 q286 : Value}
    {q287 q288 : Option Addr} {q289 : Array (Option Value)} {q290 q291 q292 q293 q294 q295 : Value}
    {q296 q297 : Option Addr} {q298 : Array (Option Value)} {q299 q300 q301 q302 q303 q304 : Value}
    {q305 q306 : Option Addr} {q307 : Array (Option Value)} {q308 q309 q310 q311 q312 q313 : Value}
    {q314 q315 : Option Addr} {q316 : Array (Option Value)} {q317 q318 q319 q320 q321 q322 : Value}
    {q323 q324 : Option Addr} {q325 : Array (Option Value)} {q326 q327 q328 q329 q330 q331 : Value}
    {q332 q333 : Option Addr} {q334 : Array (Option Value)} {q335 q336 q337 q338 q339 q340 : Value}
    {q341 q342 : Option Addr} {q343 : Array (Option Value)} {q344 q345 q346 q347 q348 q349 : Value}
    {q350 q351 : Option Addr} {q352 : Array (Option Value)} {q353 q354 q355 q356 q357 q358 : Value}
    {q359 q360 : Option Addr} {q361 : Array (Option Value)} {q362 q363 q364 q365 q366 q367 : Value}
    {q368 q369 : Option Addr} {q370 : Array (Option Value)} {q371 q372 q373 q374 q375 q376 : Value}
    {q377 q378 : Option Addr} {q379 : Array (Option Value)} {q380 q381 q382 q383 q384 q385 : Value}
    {q386 q387 : Option Addr} {q388 : Array (Option Value)} {q389 q390 q391 q392 q393 q394 : Value}
    {q395 q396 : Option Addr} {q397 : Array (Option Value)} {q398 q399 q400 q401 q402 q403 : Value}
    {q404 q405 : Option Addr} {q406 : Array (Option Value)} {q407 q408 q409 q410 q411 q412 : Value}
    {q413 q414 : Option Addr} {q415 : Array (Option Value)} {q416 q417 q418 q419 q420 q421 : Value}
    {q422 q423 : Option Addr} {q424 : Array (Option Value)} {q425 q426 q427 q428 q429 q430 : Value}
    {q431 q432 : Option Addr} {q433 : Array (Option Value)} {q434 q435 q436 q437 q438 q439 : Value}
    {q440 q441 : Option Addr} {q442 : Array (Option Value)} {q443 q444 q445 q446 q447 q448 : Value}
    {q449 q450 : Option Addr} {q451 : Array (Option Value)} {q452 q453 q454 q455 q456 q457 : Value}
    {q458 q459 : Option Addr} {q460 : Array (Option Value)} {q461 q462 q463 q464 q465 q466 : Value}
    {q467 q468 : Option Addr} {q469 : Array (Option Value)} {q470 q471 q472 q473 q474 q475 : Value}
    {q476 q477 : Option Addr} {q478 : Array (Option Value)} {q479 q480 q481 q482 q483 q484 : Value}
    {q485 q486 : Option Addr} {q487 : Array (Option Value)} {q488 q489 q490 q491 q492 q493 : Value}
    (q494 : W.nsIn K mainGlobals "len" = some none)
    (q495 : W.nsIn K mainGlobals "max" = some none)
    (q496 : W.nsIn K mainGlobals "min" = some none)
    (q497 : W.nsIn K mainGlobals "sorted" = some none)
    (q498 : W.nsIn K mainGlobals "isinstance" = some none)
    (q499 : W.nsIn K mainGlobals "list" = some none)
    (q500 : W.nsIn K mainGlobals "tuple" = some none)
    (q501 : W.nsIn K mainGlobals "int" = some none)
    (q502 : W.nsIn K mainGlobals "bool" = some none)
    (q503 : W.nsIn K mainGlobals "range" = some none)
    (q504 : W.nsIn K mainGlobals "enumerate" = some none)
    (q505 : W.nsIn K mainGlobals "ValueError" = some none)
    (q506 : W.nsIn K mainGlobals "MidError" = some (some (.ref q0)))
    (q507 : W.nsIn K mainGlobals "NoShare" = some (some (.ref q1)))
    (q508 : W.nsIn K mainGlobals "NoThing" = some (some (.ref q2)))
    (q509 : W.nsIn K mainGlobals "Empty" = some (some (.ref q3)))
    (q510 : W.nsIn K mainGlobals "Twice" = some (some (.ref q4)))
    (q511 : W.nsIn K mainGlobals "NoWidth" = some (some (.ref q5)))
    (q512 : W.nsIn K mainGlobals "Pile" = some (some (.ref q6)))
    (q513 : W.nsIn K mainGlobals "Turned" = some (some (.ref q7)))
    (q514 : W.nsIn K mainGlobals "Midrow" = some (some (.ref q8)))
    (q515 : W.excIn K q1 bmVE "ValueError.__new__" = true)
    (q516 : W.findIn K (.ref q1) "__getattribute__" = some (some (.builtin "BaseException.__getattribute__")))
    (q517 : W.findIn K (.ref q1) "__getattr__" = some none)
    (q518 : W.findIn K (.ref q1) "__class__" = some (some (.builtin "object.__class__")))
    (q519 : W.subIn K (.ref q1) (.type "BaseException") = some true)
    (q520 : W.mroIn K q1 (.type "object") = some true)
    (q521 : (W.clsIn K q1).isSome = true)
    (q522 : W.excIn K q2 bmVE "ValueError.__new__" = true)
    (q523 : W.findIn K (.ref q2) "__getattribute__" = some (some (.builtin "BaseException.__getattribute__")))
    (q524 : W.findIn K (.ref q2) "__getattr__" = some none)
    (q525 : W.findIn K (.ref q2) "__class__" = some (some (.builtin "object.__class__")))
    (q526 : W.subIn K (.ref q2) (.type "BaseException") = some true)
    (q527 : W.mroIn K q2 (.type "object") = some true)
    (q528 : (W.clsIn K q2).isSome = true)
    (q529 : W.excIn K q3 bmVE "ValueError.__new__" = true)
    (q530 : W.findIn K (.ref q3) "__getattribute__" = some (some (.builtin "BaseException.__getattribute__")))
    (q531 : W.findIn K (.ref q3) "__getattr__" = some none)
    (q532 : W.findIn K (.ref q3) "__class__" = some (some (.builtin "object.__class__")))
    (q533 : W.subIn K (.ref q3) (.type "BaseException") = some true)
    (q534 : W.mroIn K q3 (.type "object") = some true)
    (q535 : (W.clsIn K q3).isSome = true)
    (q536 : W.excIn K q4 bmVE "ValueError.__new__" = true)
    (q537 : W.findIn K (.ref q4) "__getattribute__" = some (some (.builtin "BaseException.__getattribute__")))
    (q538 : W.findIn K (.ref q4) "__getattr__" = some none)
    (q539 : W.findIn K (.ref q4) "__class__" = some (some (.builtin "object.__class__")))
    (q540 : W.subIn K (.ref q4) (.type "BaseException") = some true)
    (q541 : W.mroIn K q4 (.type "object") = some true)
    (q542 : (W.clsIn K q4).isSome = true)
    (q543 : W.kitAny K (.ref q3) ([q1, q2, q5, q4].map Value.ref) = some false)
    (q544 : W.kitOne K (.ref q3) (.ref q3) = some true)
    (q545 : W.kitOne K (.ref q3) (.type "ValueError") = some true)
    (q546 : W.exmOne K (.ref q3) (.ref q0) = some true)
    (q547 : W.kitAny K (.ref q1) ([q3, q2, q5, q4].map Value.ref) = some false)
    (q548 : W.kitOne K (.ref q1) (.ref q1) = some true)
    (q549 : W.kitOne K (.ref q1) (.type "ValueError") = some true)
    (q550 : W.exmOne K (.ref q1) (.ref q0) = some true)
    (q551 : W.exmOne K (.ref q2) (.ref q2) = some true)
    (q552 : W.plainGet K q6 Str.empty = true)
    (q553 : W.hasDictIn K q6 = true)
    (q554 : W.plainOver K q6 = true)
    (q555 : W.findIn K (.ref q6) "__setattr__" = some (some (.builtin "object.__setattr__")))
    (q556 : W.findIn K (.ref q6) "held" = some none)
    (q557 : W.findIn K (.ref q6) "spots" = some none)
    (q558 : W.findIn K (.ref q6) "total" = some none)
    (q559 : W.plainGet K q7 Str.empty = true)
    (q560 : W.hasDictIn K q7 = true)
    (q561 : W.plainOver K q7 = true)
    (q562 : W.findIn K (.ref q7) "__setattr__" = some (some (.builtin "object.__setattr__")))
    (q563 : W.findIn K (.ref q7) "held" = some none)
    (q564 : W.findIn K (.ref q7) "spots" = some none)
    (q565 : W.findIn K (.ref q7) "total" = some none)
    (q566 : W.plainGet K q8 Str.empty = true)
    (q567 : W.hasDictIn K q8 = true)
    (q568 : W.plainOver K q8 = true)
    (q569 : W.findIn K (.ref q8) "__setattr__" = some (some (.builtin "object.__setattr__")))
    (q570 : W.findIn K (.ref q8) "high" = some none)
    (q571 : W.findIn K (.ref q8) "last_coming" = some none)
    (q572 : W.findIn K (.ref q8) "low" = some none)
    (q573 : W.findIn K (.ref q8) "numbers" = some none)
    (q574 : W.findIn K (.ref q8) "part" = some none)
    (q575 : W.findIn K (.ref q8) "whole" = some none)
    (q576 : (q6 == q7) = false)
    (q577 : W.findIn K (.ref q6) "__init__" = some (some (.ref q9)))
    (q578 : K.lookup q9 = some ⟨q60, q57, .func (W.fnOf "__init__" "Pile.__init__" (defArgs s_Pile___init__) (defBody s_Pile___init__) (defScope s_Pile___init__) .none q61 q62 q63 q58 q64 q65), q59⟩)
    (q579 : W.codeIn K q64 "Pile.__init__" = true)
    (q580 : W.keepIn K (.ref q9) = true)
    (q581 : W.findIn K (.ref q6) "ahead" = some (some (.ref q10)))
    (q582 : K.lookup q10 = some ⟨q69, q66, .func (W.fnOf "ahead" "Pile.ahead" (defArgs s_Pile_ahead) (defBody s_Pile_ahead) (defScope s_Pile_ahead) .none q70 q71 q72 q67 q73 q74), q68⟩)
    (q583 : W.codeIn K q73 "Pile.ahead" = true)
    (q584 : W.keepIn K (.ref q10) = true)
    (q585 : W.findIn K (.ref q6) "many" = some (some (.ref q11)))
    (q586 : K.lookup q11 = some ⟨q78, q75, .func (W.fnOf "many" "Pile.many" (defArgs s_Pile_many) (defBody s_Pile_many) (defScope s_Pile_many) .none q79 q80 q81 q76 q82 q83), q77⟩)
    (q587 : W.codeIn K q82 "Pile.many" = true)
    (q588 : W.keepIn K (.ref q11) = true)
    (q589 : W.findIn K (.ref q6) "told" = some (some (.ref q12)))
    (q590 : K.lookup q12 = some ⟨q87, q84, .func (W.fnOf "told" "Pile.told" (defArgs s_Pile_told) (defBody s_Pile_told) (defScope s_Pile_told) .none q88 q89 q90 q85 q91 q92), q86⟩)
    (q591 : W.codeIn K q91 "Pile.told" = true)
    (q592 : W.keepIn K (.ref q12) = true)
    (q593 : W.findIn K (.ref q6) "top" = some (some (.ref q13)))
    (q594 : K.lookup q13 = some ⟨q96, q93, .func (W.fnOf "top" "Pile.top" (defArgs s_Pile_top) (defBody s_Pile_top) (defScope s_Pile_top) .none q97 q98 q99 q94 q100 q101), q95⟩)
    (q595 : W.codeIn K q100 "Pile.top" = true)
    (q596 : W.keepIn K (.ref q13) = true)
    (q597 : W.findIn K (.ref q6) "put" = some (some (.ref q14)))
    (q598 : K.lookup q14 = some ⟨q105, q102, .func (W.fnOf "put" "Pile.put" (defArgs s_Pile_put) (defBody s_Pile_put) (defScope s_Pile_put) .none q106 q107 q108 q103 q109 q110), q104⟩)
    (q599 : W.codeIn K q109 "Pile.put" = true)
    (q600 : W.keepIn K (.ref q14) = true)
    (q601 : W.findIn K (.ref q6) "take" = some (some (.ref q15)))
    (q602 : K.lookup q15 = some ⟨q114, q111, .func (W.fnOf "take" "Pile.take" (defArgs s_Pile_take) (defBody s_Pile_take) (defScope s_Pile_take) .none q115 q116 q117 q112 q118 q119), q113⟩)
    (q603 : W.codeIn K q118 "Pile.take" = true)
    (q604 : W.keepIn K (.ref q15) = true)
    (q605 : W.findIn K (.ref q6) "fill" = some (some (.ref q16)))
    (q606 : K.lookup q16 = some ⟨q123, q120, .func (W.fnOf "fill" "Pile.fill" (defArgs s_Pile_fill) (defBody s_Pile_fill) (defScope s_Pile_fill) .none q124 q125 q126 q121 q127 q128), q122⟩)
    (q607 : W.codeIn K q127 "Pile.fill" = true)
    (q608 : W.keepIn K (.ref q16) = true)
    (q609 : W.findIn K (.ref q6) "rise" = some (some (.ref q17)))
    (q610 : K.lookup q17 = some ⟨q132, q129, .func (W.fnOf "rise" "Pile.rise" (defArgs s_Pile_rise) (defBody s_Pile_rise) (defScope s_Pile_rise) .none q133 q134 q135 q130 q136 q137), q131⟩)
    (q611 : W.codeIn K q136 "Pile.rise" = true)
    (q612 : W.keepIn K (.ref q17) = true)
    (q613 : W.findIn K (.ref q6) "is_ahead_of_upper" = some (some (.ref q18)))
    (q614 : K.lookup q18 = some ⟨q141, q138, .func (W.fnOf "is_ahead_of_upper" "Pile.is_ahead_of_upper" (defArgs s_Pile_is_ahead_of_upper) (defBody s_Pile_is_ahead_of_upper) (defScope s_Pile_is_ahead_of_upper) .none q142 q143 q144 q139 q145 q146), q140⟩)
    (q615 : W.codeIn K q145 "Pile.is_ahead_of_upper" = true)
    (q616 : W.keepIn K (.ref q18) = true)
    (q617 : W.findIn K (.ref q6) "sink" = some (some (.ref q19)))
    (q618 : K.lookup q19 = some ⟨q150, q147, .func (W.fnOf "sink" "Pile.sink" (defArgs s_Pile_sink) (defBody s_Pile_sink) (defScope s_Pile_sink) .none q151 q152 q153 q148 q154 q155), q149⟩)
    (q619 : W.codeIn K q154 "Pile.sink" = true)
    (q620 : W.keepIn K (.ref q19) = true)
    (q621 : W.findIn K (.ref q6) "place_under" = some (some (.ref q20)))
    (q622 : K.lookup q20 = some ⟨q159, q156, .func (W.fnOf "place_under" "Pile.place_under" (defArgs s_Pile_place_under) (defBody s_Pile_place_under) (defScope s_Pile_place_under) .none q160 q161 q162 q157 q163 q164), q158⟩)
    (q623 : W.codeIn K q163 "Pile.place_under" = true)
    (q624 : W.keepIn K (.ref q20) = true)
    (q625 : W.findIn K (.ref q6) "lay" = some (some (.ref q21)))
    (q626 : K.lookup q21 = some ⟨q168, q165, .func (W.fnOf "lay" "Pile.lay" (defArgs s_Pile_lay) (defBody s_Pile_lay) (defScope s_Pile_lay) .none q169 q170 q171 q166 q172 q173), q167⟩)
    (q627 : W.codeIn K q172 "Pile.lay" = true)
    (q628 : W.keepIn K (.ref q21) = true)
    (q629 : W.findIn K (.ref q7) "ahead" = some (some (.ref q22)))
    (q630 : K.lookup q22 = some ⟨q177, q174, .func (W.fnOf "ahead" "Turned.ahead" (defArgs s_Turned_ahead) (defBody s_Turned_ahead) (defScope s_Turned_ahead) .none q178 q179 q180 q175 q181 q182), q176⟩)
    (q631 : W.codeIn K q181 "Turned.ahead" = true)
    (q632 : W.keepIn K (.ref q22) = true)
    (q633 : W.nsIn K mainGlobals "check_share" = some (some (.ref q23)))
    (q634 : K.lookup q23 = some ⟨q186, q183, .func (W.fnOf "check_share" "check_share" (defArgs s_check_share) (defBody s_check_share) (defScope s_check_share) .none q187 q188 q189 q184 q190 q191), q185⟩)
    (q635 : W.codeIn K q190 "check_share" = true)
    (q636 : W.keepIn K (.ref q23) = true)
    (q637 : W.nsIn K mainGlobals "place" = some (some (.ref q24)))
    (q638 : K.lookup q24 = some ⟨q195, q192, .func (W.fnOf "place" "place" (defArgs s_place) (defBody s_place) (defScope s_place) .none q196 q197 q198 q193 q199 q200), q194⟩)
    (q639 : W.codeIn K q199 "place" = true)
    (q640 : W.keepIn K (.ref q24) = true)
    (q641 : W.nsIn K mainGlobals "move_top" = some (some (.ref q25)))
    (q642 : K.lookup q25 = some ⟨q204, q201, .func (W.fnOf "move_top" "move_top" (defArgs s_move_top) (defBody s_move_top) (defScope s_move_top) .none q205 q206 q207 q202 q208 q209), q203⟩)
    (q643 : W.codeIn K q208 "move_top" = true)
    (q644 : W.keepIn K (.ref q25) = true)
    (q645 : W.findIn K (.ref q8) "__init__" = some (some (.ref q26)))
    (q646 : K.lookup q26 = some ⟨q213, q210, .func (W.fnOf "__init__" "Midrow.__init__" (defArgs s_Midrow___init__) (defBody s_Midrow___init__) (defScope s_Midrow___init__) (.ref q219) q214 q215 q216 q211 q217 q218), q212⟩)
    (q647 : W.codeIn K q217 "Midrow.__init__" = true)
    (q648 : W.keepIn K (.ref q26) = true)
    (q649 : K.lookup q219 = some q220)
    (q650 : q220.data = .seq #[.int 1 q222, .int 2 q223] q221)
    (q651 : W.findIn K (.ref q8) "many" = some (some (.ref q27)))
    (q652 : K.lookup q27 = some ⟨q227, q224, .func (W.fnOf "many" "Midrow.many" (defArgs s_Midrow_many) (defBody s_Midrow_many) (defScope s_Midrow_many) .none q228 q229 q230 q225 q231 q232), q226⟩)
    (q653 : W.codeIn K q231 "Midrow.many" = true)
    (q654 : W.keepIn K (.ref q27) = true)
    (q655 : W.findIn K (.ref q8) "put" = some (some (.ref q28)))
    (q656 : K.lookup q28 = some ⟨q236, q233, .func (W.fnOf "put" "Midrow.put" (defArgs s_Midrow_put) (defBody s_Midrow_put) (defScope s_Midrow_put) .none q237 q238 q239 q234 q240 q241), q235⟩)
    (q657 : W.codeIn K q240 "Midrow.put" = true)
    (q658 : W.keepIn K (.ref q28) = true)
    (q659 : W.findIn K (.ref q8) "take" = some (some (.ref q29)))
    (q660 : K.lookup q29 = some ⟨q245, q242, .func (W.fnOf "take" "Midrow.take" (defArgs s_Midrow_take) (defBody s_Midrow_take) (defScope s_Midrow_take) .none q246 q247 q248 q243 q249 q250), q244⟩)
    (q661 : W.codeIn K q249 "Midrow.take" = true)
    (q662 : W.keepIn K (.ref q29) = true)
    (q663 : W.findIn K (.ref q8) "number_of" = some (some (.ref q30)))
    (q664 : K.lookup q30 = some ⟨q254, q251, .func (W.fnOf "number_of" "Midrow.number_of" (defArgs s_Midrow_number_of) (defBody s_Midrow_number_of) (defScope s_Midrow_number_of) .none q255 q256 q257 q252 q258 q259), q253⟩)
    (q665 : W.codeIn K q258 "Midrow.number_of" = true)
    (q666 : W.keepIn K (.ref q30) = true)
    (q667 : W.findIn K (.ref q8) "oldest" = some (some (.ref q31)))
    (q668 : K.lookup q31 = some ⟨q263, q260, .func (W.fnOf "oldest" "Midrow.oldest" (defArgs s_Midrow_oldest) (defBody s_Midrow_oldest) (defScope s_Midrow_oldest) .none q264 q265 q266 q261 q267 q268), q262⟩)
    (q669 : W.codeIn K q267 "Midrow.oldest" = true)
    (q670 : W.keepIn K (.ref q31) = true)
    (q671 : W.findIn K (.ref q8) "share" = some (some (.ref q32)))
    (q672 : K.lookup q32 = some ⟨q272, q269, .func (W.fnOf "share" "Midrow.share" (defArgs s_Midrow_share) (defBody s_Midrow_share) (defScope s_Midrow_share) .none q273 q274 q275 q270 q276 q277), q271⟩)
    (q673 : W.codeIn K q276 "Midrow.share" = true)
    (q674 : W.keepIn K (.ref q32) = true)
    (q675 : W.findIn K (.ref q8) "piles" = some (some (.ref q33)))
    (q676 : K.lookup q33 = some ⟨q281, q278, .func (W.fnOf "piles" "Midrow.piles" (defArgs s_Midrow_piles) (defBody s_Midrow_piles) (defScope s_Midrow_piles) .none q282 q283 q284 q279 q285 q286), q280⟩)
    (q677 : W.codeIn K q285 "Midrow.piles" = true)
    (q678 : W.keepIn K (.ref q33) = true)
    (q679 : W.findIn K (.ref q8) "turn" = some (some (.ref q34)))
    (q680 : K.lookup q34 = some ⟨q290, q287, .func (W.fnOf "turn" "Midrow.turn" (defArgs s_Midrow_turn) (defBody s_Midrow_turn) (defScope s_Midrow_turn) .none q291 q292 q293 q288 q294 q295), q289⟩)
    (q681 : W.codeIn K q294 "Midrow.turn" = true)
    (q682 : W.keepIn K (.ref q34) = true)
    (q683 : W.findIn K (.ref q8) "pile_of" = some (some (.ref q35)))
    (q684 : K.lookup q35 = some ⟨q299, q296, .func (W.fnOf "pile_of" "Midrow.pile_of" (defArgs s_Midrow_pile_of) (defBody s_Midrow_pile_of) (defScope s_Midrow_pile_of) .none q300 q301 q302 q297 q303 q304), q298⟩)
    (q685 : W.codeIn K q303 "Midrow.pile_of" = true)
    (q686 : W.keepIn K (.ref q35) = true)
    (q687 : W.findIn K (.ref q8) "settle" = some (some (.ref q36)))
    (q688 : K.lookup q36 = some ⟨q308, q305, .func (W.fnOf "settle" "Midrow.settle" (defArgs s_Midrow_settle) (defBody s_Midrow_settle) (defScope s_Midrow_settle) .none q309 q310 q311 q306 q312 q313), q307⟩)
    (q689 : W.codeIn K q312 "Midrow.settle" = true)
    (q690 : W.keepIn K (.ref q36) = true)
    (q691 : W.nsIn K mainGlobals "_law_at" = some (some (.ref q37)))
    (q692 : K.lookup q37 = some ⟨q317, q314, .func (W.fnOf "_law_at" "_law_at" (defArgs s__law_at) (defBody s__law_at) (defScope s__law_at) .none q318 q319 q320 q315 q321 q322), q316⟩)
    (q693 : W.codeIn K q321 "_law_at" = true)
    (q694 : W.keepIn K (.ref q37) = true)
    (q695 : W.nsIn K mainGlobals "_law_is" = some (some (.ref q38)))
    (q696 : K.lookup q38 = some ⟨q326, q323, .func (W.fnOf "_law_is" "_law_is" (defArgs s__law_is) (defBody s__law_is) (defScope s__law_is) .none q327 q328 q329 q324 q330 q331), q325⟩)
    (q697 : W.codeIn K q330 "_law_is" = true)
    (q698 : W.keepIn K (.ref q38) = true)
    (q699 : W.nsIn K mainGlobals "_law_number" = some (some (.ref q39)))
    (q700 : K.lookup q39 = some ⟨q335, q332, .func (W.fnOf "_law_number" "_law_number" (defArgs s__law_number) (defBody s__law_number) (defScope s__law_number) .none q336 q337 q338 q333 q339 q340), q334⟩)
    (q701 : W.codeIn K q339 "_law_number" = true)
    (q702 : W.keepIn K (.ref q39) = true)
    (q703 : W.nsIn K mainGlobals "_law_numbers" = some (some (.ref q40)))
    (q704 : K.lookup q40 = some ⟨q344, q341, .func (W.fnOf "_law_numbers" "_law_numbers" (defArgs s__law_numbers) (defBody s__law_numbers) (defScope s__law_numbers) .none q345 q346 q347 q342 q348 q349), q343⟩)
    (q705 : W.codeIn K q348 "_law_numbers" = true)
    (q706 : W.keepIn K (.ref q40) = true)
    (q707 : W.nsIn K mainGlobals "_law_thing" = some (some (.ref q41)))
    (q708 : K.lookup q41 = some ⟨q353, q350, .func (W.fnOf "_law_thing" "_law_thing" (defArgs s__law_thing) (defBody s__law_thing) (defScope s__law_thing) .none q354 q355 q356 q351 q357 q358), q352⟩)
    (q709 : W.codeIn K q357 "_law_thing" = true)
    (q710 : W.keepIn K (.ref q41) = true)
    (q711 : W.nsIn K mainGlobals "_law_form" = some (some (.ref q42)))
    (q712 : K.lookup q42 = some ⟨q362, q359, .func (W.fnOf "_law_form" "_law_form" (defArgs s__law_form) (defBody s__law_form) (defScope s__law_form) .none q363 q364 q365 q360 q366 q367), q361⟩)
    (q713 : W.codeIn K q366 "_law_form" = true)
    (q714 : W.keepIn K (.ref q42) = true)
    (q715 : W.nsIn K mainGlobals "_law_empty" = some (some (.ref q43)))
    (q716 : K.lookup q43 = some ⟨q371, q368, .func (W.fnOf "_law_empty" "_law_empty" (defArgs s__law_empty) (defBody s__law_empty) (defScope s__law_empty) .none q372 q373 q374 q369 q375 q376), q370⟩)
    (q717 : W.codeIn K q375 "_law_empty" = true)
    (q718 : W.keepIn K (.ref q43) = true)
    (q719 : W.nsIn K mainGlobals "_law_no_share" = some (some (.ref q44)))
    (q720 : K.lookup q44 = some ⟨q380, q377, .func (W.fnOf "_law_no_share" "_law_no_share" (defArgs s__law_no_share) (defBody s__law_no_share) (defScope s__law_no_share) .none q381 q382 q383 q378 q384 q385), q379⟩)
    (q721 : W.codeIn K q384 "_law_no_share" = true)
    (q722 : W.keepIn K (.ref q44) = true)
    (q723 : W.nsIn K mainGlobals "_law_no_row" = some (some (.ref q45)))
    (q724 : K.lookup q45 = some ⟨q389, q386, .func (W.fnOf "_law_no_row" "_law_no_row" (defArgs s__law_no_row) (defBody s__law_no_row) (defScope s__law_no_row) .none q390 q391 q392 q387 q393 q394), q388⟩)
    (q725 : W.codeIn K q393 "_law_no_row" = true)
    (q726 : W.keepIn K (.ref q45) = true)
    (q727 : W.nsIn K mainGlobals "_law_made" = some (some (.ref q46)))
    (q728 : K.lookup q46 = some ⟨q398, q395, .func (W.fnOf "_law_made" "_law_made" (defArgs s__law_made) (defBody s__law_made) (defScope s__law_made) .none q399 q400 q401 q396 q402 q403), q397⟩)
    (q729 : W.codeIn K q402 "_law_made" = true)
    (q730 : W.keepIn K (.ref q46) = true)
    (q731 : W.nsIn K mainGlobals "_law_no_thing" = some (some (.ref q47)))
    (q732 : K.lookup q47 = some ⟨q407, q404, .func (W.fnOf "_law_no_thing" "_law_no_thing" (defArgs s__law_no_thing) (defBody s__law_no_thing) (defScope s__law_no_thing) .none q408 q409 q410 q405 q411 q412), q406⟩)
    (q733 : W.codeIn K q411 "_law_no_thing" = true)
    (q734 : W.keepIn K (.ref q47) = true)
    (q735 : W.nsIn K mainGlobals "_law_put" = some (some (.ref q48)))
    (q736 : K.lookup q48 = some ⟨q416, q413, .func (W.fnOf "_law_put" "_law_put" (defArgs s__law_put) (defBody s__law_put) (defScope s__law_put) .none q417 q418 q419 q414 q420 q421), q415⟩)
    (q737 : W.codeIn K q420 "_law_put" = true)
    (q738 : W.keepIn K (.ref q48) = true)
    (q739 : W.nsIn K mainGlobals "_law_taken" = some (some (.ref q49)))
    (q740 : K.lookup q49 = some ⟨q425, q422, .func (W.fnOf "_law_taken" "_law_taken" (defArgs s__law_taken) (defBody s__law_taken) (defScope s__law_taken) .none q426 q427 q428 q423 q429 q430), q424⟩)
    (q741 : W.codeIn K q429 "_law_taken" = true)
    (q742 : W.keepIn K (.ref q49) = true)
    (q743 : W.nsIn K mainGlobals "_law_taken_here" = some (some (.ref q50)))
    (q744 : K.lookup q50 = some ⟨q434, q431, .func (W.fnOf "_law_taken_here" "_law_taken_here" (defArgs s__law_taken_here) (defBody s__law_taken_here) (defScope s__law_taken_here) .none q435 q436 q437 q432 q438 q439), q433⟩)
    (q745 : W.codeIn K q438 "_law_taken_here" = true)
    (q746 : W.keepIn K (.ref q50) = true)
    (q747 : W.nsIn K mainGlobals "_law_asked" = some (some (.ref q51)))
    (q748 : K.lookup q51 = some ⟨q443, q440, .func (W.fnOf "_law_asked" "_law_asked" (defArgs s__law_asked) (defBody s__law_asked) (defScope s__law_asked) .none q444 q445 q446 q441 q447 q448), q442⟩)
    (q749 : W.codeIn K q447 "_law_asked" = true)
    (q750 : W.keepIn K (.ref q51) = true)
    (q751 : W.nsIn K mainGlobals "_law_turned" = some (some (.ref q52)))
    (q752 : K.lookup q52 = some ⟨q452, q449, .func (W.fnOf "_law_turned" "_law_turned" (defArgs s__law_turned) (defBody s__law_turned) (defScope s__law_turned) .none q453 q454 q455 q450 q456 q457), q451⟩)
    (q753 : W.codeIn K q456 "_law_turned" = true)
    (q754 : W.keepIn K (.ref q52) = true)
    (q755 : W.nsIn K mainGlobals "_law_deed" = some (some (.ref q53)))
    (q756 : K.lookup q53 = some ⟨q461, q458, .func (W.fnOf "_law_deed" "_law_deed" (defArgs s__law_deed) (defBody s__law_deed) (defScope s__law_deed) .none q462 q463 q464 q459 q465 q466), q460⟩)
    (q757 : W.codeIn K q465 "_law_deed" = true)
    (q758 : W.keepIn K (.ref q53) = true)
    (q759 : W.nsIn K mainGlobals "_law_at_place" = some (some (.ref q54)))
    (q760 : K.lookup q54 = some ⟨q470, q467, .func (W.fnOf "_law_at_place" "_law_at_place" (defArgs s__law_at_place) (defBody s__law_at_place) (defScope s__law_at_place) .none q471 q472 q473 q468 q474 q475), q469⟩)
    (q761 : W.codeIn K q474 "_law_at_place" = true)
    (q762 : W.keepIn K (.ref q54) = true)
    (q763 : W.nsIn K mainGlobals "_law_look" = some (some (.ref q55)))
    (q764 : K.lookup q55 = some ⟨q479, q476, .func (W.fnOf "_law_look" "_law_look" (defArgs s__law_look) (defBody s__law_look) (defScope s__law_look) .none q480 q481 q482 q477 q483 q484), q478⟩)
    (q765 : W.codeIn K q483 "_law_look" = true)
    (q766 : W.keepIn K (.ref q55) = true)
    (q767 : W.nsIn K mainGlobals "law" = some (some (.ref q56)))
    (q768 : K.lookup q56 = some ⟨q488, q485, .func (W.fnOf "law" "law" (defArgs s_law) (defBody s_law) (defScope s_law) .none q489 q490 q491 q486 q492 q493), q487⟩)
    (q769 : W.codeIn K q492 "law" = true)
    (q770 : W.keepIn K (.ref q56) = true)
    (q771 : W.makesIn K q6 = true)
    (q772 : W.findIn K (.ref q6) "__init__" = some (some (.ref q9)))
    (q773 : W.isFn K (.ref q9) = true)
    (q774 : W.keepIn K (.ref q6) = true)
    (q775 : W.findIn K (.ref q6) "ahead" = some (some (.ref q10)))
    (q776 : W.isFn K (.ref q10) = true)
    (q777 : W.findIn K (.ref q6) "many" = some (some (.ref q11)))
    (q778 : W.isFn K (.ref q11) = true)
    (q779 : W.findIn K (.ref q6) "told" = some (some (.ref q12)))
    (q780 : W.isFn K (.ref q12) = true)
    (q781 : W.findIn K (.ref q6) "top" = some (some (.ref q13)))
    (q782 : W.isFn K (.ref q13) = true)
    (q783 : W.findIn K (.ref q6) "put" = some (some (.ref q14)))
    (q784 : W.isFn K (.ref q14) = true)
    (q785 : W.findIn K (.ref q6) "take" = some (some (.ref q15)))
    (q786 : W.isFn K (.ref q15) = true)
    (q787 : W.findIn K (.ref q6) "fill" = some (some (.ref q16)))
    (q788 : W.isFn K (.ref q16) = true)
    (q789 : W.findIn K (.ref q6) "rise" = some (some (.ref q17)))
    (q790 : W.isFn K (.ref q17) = true)
    (q791 : W.findIn K (.ref q6) "is_ahead_of_upper" = some (some (.ref q18)))
    (q792 : W.isFn K (.ref q18) = true)
    (q793 : W.findIn K (.ref q6) "sink" = some (some (.ref q19)))
    (q794 : W.isFn K (.ref q19) = true)
    (q795 : W.findIn K (.ref q6) "place_under" = some (some (.ref q20)))
    (q796 : W.isFn K (.ref q20) = true)
    (q797 : W.findIn K (.ref q6) "lay" = some (some (.ref q21)))
    (q798 : W.isFn K (.ref q21) = true)
    (q799 : W.makesIn K q7 = true)
    (q800 : W.findIn K (.ref q7) "__init__" = some (some (.ref q9)))
    (q801 : W.isFn K (.ref q9) = true)
    (q802 : W.keepIn K (.ref q7) = true)
    (q803 : W.findIn K (.ref q7) "ahead" = some (some (.ref q22)))
    (q804 : W.isFn K (.ref q22) = true)
    (q805 : W.findIn K (.ref q7) "many" = some (some (.ref q11)))
    (q806 : W.isFn K (.ref q11) = true)
    (q807 : W.findIn K (.ref q7) "told" = some (some (.ref q12)))
    (q808 : W.isFn K (.ref q12) = true)
    (q809 : W.findIn K (.ref q7) "top" = some (some (.ref q13)))
    (q810 : W.isFn K (.ref q13) = true)
    (q811 : W.findIn K (.ref q7) "put" = some (some (.ref q14)))
    (q812 : W.isFn K (.ref q14) = true)
    (q813 : W.findIn K (.ref q7) "take" = some (some (.ref q15)))
    (q814 : W.isFn K (.ref q15) = true)
    (q815 : W.findIn K (.ref q7) "fill" = some (some (.ref q16)))
    (q816 : W.isFn K (.ref q16) = true)
    (q817 : W.findIn K (.ref q7) "rise" = some (some (.ref q17)))
    (q818 : W.isFn K (.ref q17) = true)
    (q819 : W.findIn K (.ref q7) "is_ahead_of_upper" = some (some (.ref q18)))
    (q820 : W.isFn K (.ref q18) = true)
    (q821 : W.findIn K (.ref q7) "sink" = some (some (.ref q19)))
    (q822 : W.isFn K (.ref q19) = true)
    (q823 : W.findIn K (.ref q7) "place_under" = some (some (.ref q20)))
    (q824 : W.isFn K (.ref q20) = true)
    (q825 : W.findIn K (.ref q7) "lay" = some (some (.ref q21)))
    (q826 : W.isFn K (.ref q21) = true)
    (q827 : W.makesIn K q8 = true)
    (q828 : W.findIn K (.ref q8) "__init__" = some (some (.ref q26)))
    (q829 : W.isFn K (.ref q26) = true)
    (q830 : W.keepIn K (.ref q8) = true)
    (q831 : W.findIn K (.ref q8) "many" = some (some (.ref q27)))
    (q832 : W.isFn K (.ref q27) = true)
    (q833 : W.findIn K (.ref q8) "put" = some (some (.ref q28)))
    (q834 : W.isFn K (.ref q28) = true)
    (q835 : W.findIn K (.ref q8) "take" = some (some (.ref q29)))
    (q836 : W.isFn K (.ref q29) = true)
    (q837 : W.findIn K (.ref q8) "number_of" = some (some (.ref q30)))
    (q838 : W.isFn K (.ref q30) = true)
    (q839 : W.findIn K (.ref q8) "oldest" = some (some (.ref q31)))
    (q840 : W.isFn K (.ref q31) = true)
    (q841 : W.findIn K (.ref q8) "share" = some (some (.ref q32)))
    (q842 : W.isFn K (.ref q32) = true)
    (q843 : W.findIn K (.ref q8) "piles" = some (some (.ref q33)))
    (q844 : W.isFn K (.ref q33) = true)
    (q845 : W.findIn K (.ref q8) "turn" = some (some (.ref q34)))
    (q846 : W.isFn K (.ref q34) = true)
    (q847 : W.findIn K (.ref q8) "pile_of" = some (some (.ref q35)))
    (q848 : W.isFn K (.ref q35) = true)
    (q849 : W.findIn K (.ref q8) "settle" = some (some (.ref q36)))
    (q850 : W.isFn K (.ref q36) = true)
    : ∃ L : Lk, Txt K mg L /\ ∀ (s : Shared) (v : Value), BindsTo s L.d_law ⟨[v], []⟩ [("_law_script", v)] := by
  have F_Pile___init__ := fun_mk (st := s_Pile___init__) q578 q579 q580
  have b_Pile___init__ := F_Pile___init__.binds (ps := ["self"]) λ _ _ _ _ _ _ us hl => match us, hl with | [_], _ => rfl
  have F_Pile_ahead := fun_mk (st := s_Pile_ahead) q582 q583 q584
  have b_Pile_ahead := F_Pile_ahead.binds (ps := ["self", "one", "other"]) λ _ _ _ _ _ _ us hl => match us, hl with | [_, _, _], _ => rfl
  have F_Pile_many := fun_mk (st := s_Pile_many) q586 q587 q588
  have b_Pile_many := F_Pile_many.binds (ps := ["self"]) λ _ _ _ _ _ _ us hl => match us, hl with | [_], _ => rfl
  have F_Pile_told := fun_mk (st := s_Pile_told) q590 q591 q592
  have b_Pile_told := F_Pile_told.binds (ps := ["self"]) λ _ _ _ _ _ _ us hl => match us, hl with | [_], _ => rfl
  have F_Pile_top := fun_mk (st := s_Pile_top) q594 q595 q596
  have b_Pile_top := F_Pile_top.binds (ps := ["self"]) λ _ _ _ _ _ _ us hl => match us, hl with | [_], _ => rfl
  have F_Pile_put := fun_mk (st := s_Pile_put) q598 q599 q600
  have b_Pile_put := F_Pile_put.binds (ps := ["self", "thing"]) λ _ _ _ _ _ _ us hl => match us, hl with | [_, _], _ => rfl
  have F_Pile_take := fun_mk (st := s_Pile_take) q602 q603 q604
  have b_Pile_take := F_Pile_take.binds (ps := ["self", "coming"]) λ _ _ _ _ _ _ us hl => match us, hl with | [_, _], _ => rfl
  have F_Pile_fill := fun_mk (st := s_Pile_fill) q606 q607 q608
  have b_Pile_fill := F_Pile_fill.binds (ps := ["self", "thing", "at"]) λ _ _ _ _ _ _ us hl => match us, hl with | [_, _, _], _ => rfl
  have F_Pile_rise := fun_mk (st := s_Pile_rise) q610 q611 q612
  have b_Pile_rise := F_Pile_rise.binds (ps := ["self", "thing", "at"]) λ _ _ _ _ _ _ us hl => match us, hl with | [_, _, _], _ => rfl
  have F_Pile_is_ahead_of_upper := fun_mk (st := s_Pile_is_ahead_of_upper) q614 q615 q616
  have b_Pile_is_ahead_of_upper := F_Pile_is_ahead_of_upper.binds (ps := ["self", "thing", "at"]) λ _ _ _ _ _ _ us hl => match us, hl with | [_, _, _], _ => rfl
  have F_Pile_sink := fun_mk (st := s_Pile_sink) q618 q619 q620
  have b_Pile_sink := F_Pile_sink.binds (ps := ["self", "thing", "at"]) λ _ _ _ _ _ _ us hl => match us, hl with | [_, _, _], _ => rfl
  have F_Pile_place_under := fun_mk (st := s_Pile_place_under) q622 q623 q624
  have b_Pile_place_under := F_Pile_place_under.binds (ps := ["self", "at"]) λ _ _ _ _ _ _ us hl => match us, hl with | [_, _], _ => rfl
  have F_Pile_lay := fun_mk (st := s_Pile_lay) q626 q627 q628
  have b_Pile_lay := F_Pile_lay.binds (ps := ["self", "thing", "at"]) λ _ _ _ _ _ _ us hl => match us, hl with | [_, _, _], _ => rfl
  have F_Turned_ahead := fun_mk (st := s_Turned_ahead) q630 q631 q632
  have b_Turned_ahead := F_Turned_ahead.binds (ps := ["self", "one", "other"]) λ _ _ _ _ _ _ us hl => match us, hl with | [_, _, _], _ => rfl
  have F_check_share := fun_mk (st := s_check_share) q634 q635 q636
  have b_check_share := F_check_share.binds (ps := ["part", "whole"]) λ _ _ _ _ _ _ us hl => match us, hl with | [_, _], _ => rfl
  have F_place := fun_mk (st := s_place) q638 q639 q640
  have b_place := F_place.binds (ps := ["many", "part", "whole"]) λ _ _ _ _ _ _ us hl => match us, hl with | [_, _, _], _ => rfl
  have F_move_top := fun_mk (st := s_move_top) q642 q643 q644
  have b_move_top := F_move_top.binds (ps := ["source", "target"]) λ _ _ _ _ _ _ us hl => match us, hl with | [_, _], _ => rfl
  have F_Midrow___init__ : FunD K "__init__" "Midrow.__init__" s_Midrow___init__ q26 (W.fnOf "__init__" "Midrow.__init__" (defArgs s_Midrow___init__) (defBody s_Midrow___init__) (defScope s_Midrow___init__) (.ref q219) q214 q215 q216 q211 q217 q218) [.int 1 q222, .int 2 q223] := ⟨⟨_, _, _, _, _, _, _, _, _, _, _, _, rfl, q646, q647, q649, q650⟩, q648⟩
  have b_Midrow___init__ : Binds K (W.fnOf "__init__" "Midrow.__init__" (defArgs s_Midrow___init__) (defBody s_Midrow___init__) (defScope s_Midrow___init__) (.ref q219) q214 q215 q216 q211 q217 q218) ["self", "part", "whole"] ([]) := F_Midrow___init__.binds λ _ _ _ _ _ _ _ us hl => match us, (show us.length = 3 by simp at hl; omega) with | [u0, u1, u2], _ => ⟨_, rfl, rfl⟩
  have b_Midrow___init___1 : Binds K (W.fnOf "__init__" "Midrow.__init__" (defArgs s_Midrow___init__) (defBody s_Midrow___init__) (defScope s_Midrow___init__) (.ref q219) q214 q215 q216 q211 q217 q218) ["self", "part", "whole"] (([.int 1 q222, .int 2 q223] : List Value).drop 1) := F_Midrow___init__.binds λ _ _ _ _ _ _ _ us hl => match us, (show us.length = 2 by simp at hl; omega) with | [u0, u1], _ => ⟨_, rfl, rfl⟩
  have v_Midrow___init___1 : Vals [.int 2] (([.int 1 q222, .int 2 q223] : List Value).drop 1) := .cons ⟨_, rfl⟩ (.nil)
  have b_Midrow___init___2 : Binds K (W.fnOf "__init__" "Midrow.__init__" (defArgs s_Midrow___init__) (defBody s_Midrow___init__) (defScope s_Midrow___init__) (.ref q219) q214 q215 q216 q211 q217 q218) ["self", "part", "whole"] (([.int 1 q222, .int 2 q223] : List Value).drop 0) := F_Midrow___init__.binds λ _ _ _ _ _ _ _ us hl => match us, (show us.length = 1 by simp at hl; omega) with | [u0], _ => ⟨_, rfl, rfl⟩
  have v_Midrow___init___2 : Vals [.int 1, .int 2] (([.int 1 q222, .int 2 q223] : List Value).drop 0) := .cons ⟨_, rfl⟩ (.cons ⟨_, rfl⟩ (.nil))
  have F_Midrow_many := fun_mk (st := s_Midrow_many) q652 q653 q654
  have b_Midrow_many := F_Midrow_many.binds (ps := ["self"]) λ _ _ _ _ _ _ us hl => match us, hl with | [_], _ => rfl
  have F_Midrow_put := fun_mk (st := s_Midrow_put) q656 q657 q658
  have b_Midrow_put := F_Midrow_put.binds (ps := ["self", "number"]) λ _ _ _ _ _ _ us hl => match us, hl with | [_, _], _ => rfl
  have F_Midrow_take := fun_mk (st := s_Midrow_take) q660 q661 q662
  have b_Midrow_take := F_Midrow_take.binds (ps := ["self", "coming"]) λ _ _ _ _ _ _ us hl => match us, hl with | [_, _], _ => rfl
  have F_Midrow_number_of := fun_mk (st := s_Midrow_number_of) q664 q665 q666
  have b_Midrow_number_of := F_Midrow_number_of.binds (ps := ["self", "coming"]) λ _ _ _ _ _ _ us hl => match us, hl with | [_, _], _ => rfl
  have F_Midrow_oldest := fun_mk (st := s_Midrow_oldest) q668 q669 q670
  have b_Midrow_oldest := F_Midrow_oldest.binds (ps := ["self"]) λ _ _ _ _ _ _ us hl => match us, hl with | [_], _ => rfl
  have F_Midrow_share := fun_mk (st := s_Midrow_share) q672 q673 q674
  have b_Midrow_share := F_Midrow_share.binds (ps := ["self"]) λ _ _ _ _ _ _ us hl => match us, hl with | [_], _ => rfl
  have F_Midrow_piles := fun_mk (st := s_Midrow_piles) q676 q677 q678
  have b_Midrow_piles := F_Midrow_piles.binds (ps := ["self"]) λ _ _ _ _ _ _ us hl => match us, hl with | [_], _ => rfl
  have F_Midrow_turn := fun_mk (st := s_Midrow_turn) q680 q681 q682
  have b_Midrow_turn := F_Midrow_turn.binds (ps := ["self", "part", "whole"]) λ _ _ _ _ _ _ us hl => match us, hl with | [_, _, _], _ => rfl
  have F_Midrow_pile_of := fun_mk (st := s_Midrow_pile_of) q684 q685 q686
  have b_Midrow_pile_of := F_Midrow_pile_of.binds (ps := ["self", "thing"]) λ _ _ _ _ _ _ us hl => match us, hl with | [_, _], _ => rfl
  have F_Midrow_settle := fun_mk (st := s_Midrow_settle) q688 q689 q690
  have b_Midrow_settle := F_Midrow_settle.binds (ps := ["self"]) λ _ _ _ _ _ _ us hl => match us, hl with | [_], _ => rfl
  have F__law_at := fun_mk (st := s__law_at) q692 q693 q694
  have b__law_at := F__law_at.binds (ps := ["_law_script", "_law_k"]) λ _ _ _ _ _ _ us hl => match us, hl with | [_, _], _ => rfl
  have F__law_is := fun_mk (st := s__law_is) q696 q697 q698
  have b__law_is := F__law_is.binds (ps := ["_law_found", "_law_due"]) λ _ _ _ _ _ _ us hl => match us, hl with | [_, _], _ => rfl
  have F__law_number := fun_mk (st := s__law_number) q700 q701 q702
  have b__law_number := F__law_number.binds (ps := ["_law_load"]) λ _ _ _ _ _ _ us hl => match us, hl with | [_], _ => rfl
  have F__law_numbers := fun_mk (st := s__law_numbers) q704 q705 q706
  have b__law_numbers := F__law_numbers.binds (ps := ["_law_cell", "_law_many"]) λ _ _ _ _ _ _ us hl => match us, hl with | [_, _], _ => rfl
  have F__law_thing := fun_mk (st := s__law_thing) q708 q709 q710
  have b__law_thing := F__law_thing.binds (ps := ["_law_found"]) λ _ _ _ _ _ _ us hl => match us, hl with | [_], _ => rfl
  have F__law_form := fun_mk (st := s__law_form) q712 q713 q714
  have b__law_form := F__law_form.binds (ps := ["_law_told", "_law_turned_here"]) λ _ _ _ _ _ _ us hl => match us, hl with | [_, _], _ => rfl
  have F__law_empty := fun_mk (st := s__law_empty) q716 q717 q718
  have b__law_empty := F__law_empty.binds (ps := ["_law_row"]) λ _ _ _ _ _ _ us hl => match us, hl with | [_], _ => rfl
  have F__law_no_share := fun_mk (st := s__law_no_share) q720 q721 q722
  have b__law_no_share := F__law_no_share.binds (ps := ["_law_row", "_law_part", "_law_whole"]) λ _ _ _ _ _ _ us hl => match us, hl with | [_, _, _], _ => rfl
  have F__law_no_row := fun_mk (st := s__law_no_row) q724 q725 q726
  have b__law_no_row := F__law_no_row.binds (ps := ["_law_part", "_law_whole"]) λ _ _ _ _ _ _ us hl => match us, hl with | [_, _], _ => rfl
  have F__law_made := fun_mk (st := s__law_made) q728 q729 q730
  have b__law_made := F__law_made.binds (ps := ["_law_cell", "_law_part", "_law_whole"]) λ _ _ _ _ _ _ us hl => match us, hl with | [_, _, _], _ => rfl
  have F__law_no_thing := fun_mk (st := s__law_no_thing) q732 q733 q734
  have b__law_no_thing := F__law_no_thing.binds (ps := ["_law_row", "_law_coming"]) λ _ _ _ _ _ _ us hl => match us, hl with | [_, _], _ => rfl
  have F__law_put := fun_mk (st := s__law_put) q736 q737 q738
  have b__law_put := F__law_put.binds (ps := ["_law_row", "_law_kept", "_law_state", "_law_number_here"]) λ _ _ _ _ _ _ us hl => match us, hl with | [_, _, _, _], _ => rfl
  have F__law_taken := fun_mk (st := s__law_taken) q740 q741 q742
  have b__law_taken := F__law_taken.binds (ps := ["_law_row", "_law_kept", "_law_at_here"]) λ _ _ _ _ _ _ us hl => match us, hl with | [_, _, _], _ => rfl
  have F__law_taken_here := fun_mk (st := s__law_taken_here) q744 q745 q746
  have b__law_taken_here := F__law_taken_here.binds (ps := ["_law_row", "_law_kept", "_law_thing_here"]) λ _ _ _ _ _ _ us hl => match us, hl with | [_, _, _], _ => rfl
  have F__law_asked := fun_mk (st := s__law_asked) q748 q749 q750
  have b__law_asked := F__law_asked.binds (ps := ["_law_row", "_law_kept", "_law_coming"]) λ _ _ _ _ _ _ us hl => match us, hl with | [_, _, _], _ => rfl
  have F__law_turned := fun_mk (st := s__law_turned) q752 q753 q754
  have b__law_turned := F__law_turned.binds (ps := ["_law_row", "_law_state", "_law_load"]) λ _ _ _ _ _ _ us hl => match us, hl with | [_, _, _], _ => rfl
  have F__law_deed := fun_mk (st := s__law_deed) q756 q757 q758
  have b__law_deed := F__law_deed.binds (ps := ["_law_row", "_law_kept", "_law_state", "_law_cell"]) λ _ _ _ _ _ _ us hl => match us, hl with | [_, _, _, _], _ => rfl
  have F__law_at_place := fun_mk (st := s__law_at_place) q760 q761 q762
  have b__law_at_place := F__law_at_place.binds (ps := ["_law_before", "_law_kept", "_law_state"]) λ _ _ _ _ _ _ us hl => match us, hl with | [_, _, _], _ => rfl
  have F__law_look := fun_mk (st := s__law_look) q764 q765 q766
  have b__law_look := F__law_look.binds (ps := ["_law_row", "_law_kept", "_law_state", "_law_flip", "_law_held"]) λ _ _ _ _ _ _ us hl => match us, hl with | [_, _, _, _, _], _ => rfl
  have F_law := fun_mk (st := s_law) q768 q769 q770
  have b_law := F_law.binds (ps := ["_law_script"]) λ _ _ _ _ _ _ us hl => match us, hl with | [_], _ => rfl
  exact ⟨{ MidError := q0, NoShare := q1, NoThing := q2, Empty := q3, Twice := q4, NoWidth := q5, Pile := q6, Turned := q7, Midrow := q8, a_Pile___init__ := q9, d_Pile___init__ := W.fnOf "__init__" "Pile.__init__" (defArgs s_Pile___init__) (defBody s_Pile___init__) (defScope s_Pile___init__) .none q61 q62 q63 q58 q64 q65, a_Pile_ahead := q10, d_Pile_ahead := W.fnOf "ahead" "Pile.ahead" (defArgs s_Pile_ahead) (defBody s_Pile_ahead) (defScope s_Pile_ahead) .none q70 q71 q72 q67 q73 q74, a_Pile_many := q11, d_Pile_many := W.fnOf "many" "Pile.many" (defArgs s_Pile_many) (defBody s_Pile_many) (defScope s_Pile_many) .none q79 q80 q81 q76 q82 q83, a_Pile_told := q12, d_Pile_told := W.fnOf "told" "Pile.told" (defArgs s_Pile_told) (defBody s_Pile_told) (defScope s_Pile_told) .none q88 q89 q90 q85 q91 q92, a_Pile_top := q13, d_Pile_top := W.fnOf "top" "Pile.top" (defArgs s_Pile_top) (defBody s_Pile_top) (defScope s_Pile_top) .none q97 q98 q99 q94 q100 q101, a_Pile_put := q14, d_Pile_put := W.fnOf "put" "Pile.put" (defArgs s_Pile_put) (defBody s_Pile_put) (defScope s_Pile_put) .none q106 q107 q108 q103 q109 q110, a_Pile_take := q15, d_Pile_take := W.fnOf "take" "Pile.take" (defArgs s_Pile_take) (defBody s_Pile_take) (defScope s_Pile_take) .none q115 q116 q117 q112 q118 q119, a_Pile_fill := q16, d_Pile_fill := W.fnOf "fill" "Pile.fill" (defArgs s_Pile_fill) (defBody s_Pile_fill) (defScope s_Pile_fill) .none q124 q125 q126 q121 q127 q128, a_Pile_rise := q17, d_Pile_rise := W.fnOf "rise" "Pile.rise" (defArgs s_Pile_rise) (defBody s_Pile_rise) (defScope s_Pile_rise) .none q133 q134 q135 q130 q136 q137, a_Pile_is_ahead_of_upper := q18, d_Pile_is_ahead_of_upper := W.fnOf "is_ahead_of_upper" "Pile.is_ahead_of_upper" (defArgs s_Pile_is_ahead_of_upper) (defBody s_Pile_is_ahead_of_upper) (defScope s_Pile_is_ahead_of_upper) .none q142 q143 q144 q139 q145 q146, a_Pile_sink := q19, d_Pile_sink := W.fnOf "sink" "Pile.sink" (defArgs s_Pile_sink) (defBody s_Pile_sink) (defScope s_Pile_sink) .none q151 q152 q153 q148 q154 q155, a_Pile_place_under := q20, d_Pile_place_under := W.fnOf "place_under" "Pile.place_under" (defArgs s_Pile_place_under) (defBody s_Pile_place_under) (defScope s_Pile_place_under) .none q160 q161 q162 q157 q163 q164, a_Pile_lay := q21, d_Pile_lay := W.fnOf "lay" "Pile.lay" (defArgs s_Pile_lay) (defBody s_Pile_lay) (defScope s_Pile_lay) .none q169 q170 q171 q166 q172 q173, a_Turned_ahead := q22, d_Turned_ahead := W.fnOf "ahead" "Turned.ahead" (defArgs s_Turned_ahead) (defBody s_Turned_ahead) (defScope s_Turned_ahead) .none q178 q179 q180 q175 q181 q182, a_check_share := q23, d_check_share := W.fnOf "check_share" "check_share" (defArgs s_check_share) (defBody s_check_share) (defScope s_check_share) .none q187 q188 q189 q184 q190 q191, a_place := q24, d_place := W.fnOf "place" "place" (defArgs s_place) (defBody s_place) (defScope s_place) .none q196 q197 q198 q193 q199 q200, a_move_top := q25, d_move_top := W.fnOf "move_top" "move_top" (defArgs s_move_top) (defBody s_move_top) (defScope s_move_top) .none q205 q206 q207 q202 q208 q209, a_Midrow___init__ := q26, d_Midrow___init__ := W.fnOf "__init__" "Midrow.__init__" (defArgs s_Midrow___init__) (defBody s_Midrow___init__) (defScope s_Midrow___init__) (.ref q219) q214 q215 q216 q211 q217 q218, v_Midrow___init__ := [.int 1 q222, .int 2 q223], a_Midrow_many := q27, d_Midrow_many := W.fnOf "many" "Midrow.many" (defArgs s_Midrow_many) (defBody s_Midrow_many) (defScope s_Midrow_many) .none q228 q229 q230 q225 q231 q232, a_Midrow_put := q28, d_Midrow_put := W.fnOf "put" "Midrow.put" (defArgs s_Midrow_put) (defBody s_Midrow_put) (defScope s_Midrow_put) .none q237 q238 q239 q234 q240 q241, a_Midrow_take := q29, d_Midrow_take := W.fnOf "take" "Midrow.take" (defArgs s_Midrow_take) (defBody s_Midrow_take) (defScope s_Midrow_take) .none q246 q247 q248 q243 q249 q250, a_Midrow_number_of := q30, d_Midrow_number_of := W.fnOf "number_of" "Midrow.number_of" (defArgs s_Midrow_number_of) (defBody s_Midrow_number_of) (defScope s_Midrow_number_of) .none q255 q256 q257 q252 q258 q259, a_Midrow_oldest := q31, d_Midrow_oldest := W.fnOf "oldest" "Midrow.oldest" (defArgs s_Midrow_oldest) (defBody s_Midrow_oldest) (defScope s_Midrow_oldest) .none q264 q265 q266 q261 q267 q268, a_Midrow_share := q32, d_Midrow_share := W.fnOf "share" "Midrow.share" (defArgs s_Midrow_share) (defBody s_Midrow_share) (defScope s_Midrow_share) .none q273 q274 q275 q270 q276 q277, a_Midrow_piles := q33, d_Midrow_piles := W.fnOf "piles" "Midrow.piles" (defArgs s_Midrow_piles) (defBody s_Midrow_piles) (defScope s_Midrow_piles) .none q282 q283 q284 q279 q285 q286, a_Midrow_turn := q34, d_Midrow_turn := W.fnOf "turn" "Midrow.turn" (defArgs s_Midrow_turn) (defBody s_Midrow_turn) (defScope s_Midrow_turn) .none q291 q292 q293 q288 q294 q295, a_Midrow_pile_of := q35, d_Midrow_pile_of := W.fnOf "pile_of" "Midrow.pile_of" (defArgs s_Midrow_pile_of) (defBody s_Midrow_pile_of) (defScope s_Midrow_pile_of) .none q300 q301 q302 q297 q303 q304, a_Midrow_settle := q36, d_Midrow_settle := W.fnOf "settle" "Midrow.settle" (defArgs s_Midrow_settle) (defBody s_Midrow_settle) (defScope s_Midrow_settle) .none q309 q310 q311 q306 q312 q313, a__law_at := q37, d__law_at := W.fnOf "_law_at" "_law_at" (defArgs s__law_at) (defBody s__law_at) (defScope s__law_at) .none q318 q319 q320 q315 q321 q322, a__law_is := q38, d__law_is := W.fnOf "_law_is" "_law_is" (defArgs s__law_is) (defBody s__law_is) (defScope s__law_is) .none q327 q328 q329 q324 q330 q331, a__law_number := q39, d__law_number := W.fnOf "_law_number" "_law_number" (defArgs s__law_number) (defBody s__law_number) (defScope s__law_number) .none q336 q337 q338 q333 q339 q340, a__law_numbers := q40, d__law_numbers := W.fnOf "_law_numbers" "_law_numbers" (defArgs s__law_numbers) (defBody s__law_numbers) (defScope s__law_numbers) .none q345 q346 q347 q342 q348 q349, a__law_thing := q41, d__law_thing := W.fnOf "_law_thing" "_law_thing" (defArgs s__law_thing) (defBody s__law_thing) (defScope s__law_thing) .none q354 q355 q356 q351 q357 q358, a__law_form := q42, d__law_form := W.fnOf "_law_form" "_law_form" (defArgs s__law_form) (defBody s__law_form) (defScope s__law_form) .none q363 q364 q365 q360 q366 q367, a__law_empty := q43, d__law_empty := W.fnOf "_law_empty" "_law_empty" (defArgs s__law_empty) (defBody s__law_empty) (defScope s__law_empty) .none q372 q373 q374 q369 q375 q376, a__law_no_share := q44, d__law_no_share := W.fnOf "_law_no_share" "_law_no_share" (defArgs s__law_no_share) (defBody s__law_no_share) (defScope s__law_no_share) .none q381 q382 q383 q378 q384 q385, a__law_no_row := q45, d__law_no_row := W.fnOf "_law_no_row" "_law_no_row" (defArgs s__law_no_row) (defBody s__law_no_row) (defScope s__law_no_row) .none q390 q391 q392 q387 q393 q394, a__law_made := q46, d__law_made := W.fnOf "_law_made" "_law_made" (defArgs s__law_made) (defBody s__law_made) (defScope s__law_made) .none q399 q400 q401 q396 q402 q403, a__law_no_thing := q47, d__law_no_thing := W.fnOf "_law_no_thing" "_law_no_thing" (defArgs s__law_no_thing) (defBody s__law_no_thing) (defScope s__law_no_thing) .none q408 q409 q410 q405 q411 q412, a__law_put := q48, d__law_put := W.fnOf "_law_put" "_law_put" (defArgs s__law_put) (defBody s__law_put) (defScope s__law_put) .none q417 q418 q419 q414 q420 q421, a__law_taken := q49, d__law_taken := W.fnOf "_law_taken" "_law_taken" (defArgs s__law_taken) (defBody s__law_taken) (defScope s__law_taken) .none q426 q427 q428 q423 q429 q430, a__law_taken_here := q50, d__law_taken_here := W.fnOf "_law_taken_here" "_law_taken_here" (defArgs s__law_taken_here) (defBody s__law_taken_here) (defScope s__law_taken_here) .none q435 q436 q437 q432 q438 q439, a__law_asked := q51, d__law_asked := W.fnOf "_law_asked" "_law_asked" (defArgs s__law_asked) (defBody s__law_asked) (defScope s__law_asked) .none q444 q445 q446 q441 q447 q448, a__law_turned := q52, d__law_turned := W.fnOf "_law_turned" "_law_turned" (defArgs s__law_turned) (defBody s__law_turned) (defScope s__law_turned) .none q453 q454 q455 q450 q456 q457, a__law_deed := q53, d__law_deed := W.fnOf "_law_deed" "_law_deed" (defArgs s__law_deed) (defBody s__law_deed) (defScope s__law_deed) .none q462 q463 q464 q459 q465 q466, a__law_at_place := q54, d__law_at_place := W.fnOf "_law_at_place" "_law_at_place" (defArgs s__law_at_place) (defBody s__law_at_place) (defScope s__law_at_place) .none q471 q472 q473 q468 q474 q475, a__law_look := q55, d__law_look := W.fnOf "_law_look" "_law_look" (defArgs s__law_look) (defBody s__law_look) (defScope s__law_look) .none q480 q481 q482 q477 q483 q484, a_law := q56, d_law := W.fnOf "law" "law" (defArgs s_law) (defBody s_law) (defScope s_law) .none q489 q490 q491 q486 q492 q493 }, ⟨W.mg_none_of X G q494, W.mg_none_of X G q495, W.mg_none_of X G q496, W.mg_none_of X G q497, W.mg_none_of X G q498, W.mg_none_of X G q499, W.mg_none_of X G q500, W.mg_none_of X G q501, W.mg_none_of X G q502, W.mg_none_of X G q503, W.mg_none_of X G q504, W.mg_none_of X G q505, W.mg_of X G q506, W.mg_of X G q507, W.mg_of X G q508, W.mg_of X G q509, W.mg_of X G q510, W.mg_of X G q511, W.mg_of X G q512, W.mg_of X G q513, W.mg_of X G q514, excC_of q515, ⟨q516, q517, q518, q519, q520, q521⟩, excC_of q522, ⟨q523, q524, q525, q526, q527, q528⟩, excC_of q529, ⟨q530, q531, q532, q533, q534, q535⟩, excC_of q536, ⟨q537, q538, q539, q540, q541, q542⟩, q543, q544, q545, ⟨q546⟩, q547, q548, q549, ⟨q550⟩, ⟨q551⟩, ⟨q552, q553, q554, q555⟩, q556, q557, q558, ⟨q559, q560, q561, q562⟩, q563, q564, q565, ⟨q566, q567, q568, q569⟩, q570, q571, q572, q573, q574, q575, (λ e => by have h := q576; rw [show q6 = q7 from e] at h; simp at h), q580, b_Pile___init__, F_Pile___init__, q584, b_Pile_ahead, F_Pile_ahead, q588, b_Pile_many, F_Pile_many, q592, b_Pile_told, F_Pile_told, q596, b_Pile_top, F_Pile_top, q600, b_Pile_put, F_Pile_put, q604, b_Pile_take, F_Pile_take, q608, b_Pile_fill, F_Pile_fill, q612, b_Pile_rise, F_Pile_rise, q616, b_Pile_is_ahead_of_upper, F_Pile_is_ahead_of_upper, q620, b_Pile_sink, F_Pile_sink, q624, b_Pile_place_under, F_Pile_place_under, q628, b_Pile_lay, F_Pile_lay, q632, b_Turned_ahead, F_Turned_ahead, W.mg_of X G q633, q636, b_check_share, F_check_share, W.mg_of X G q637, q640, b_place, F_place, W.mg_of X G q641, q644, b_move_top, F_move_top, q648, b_Midrow___init__, F_Midrow___init__, b_Midrow___init___1, v_Midrow___init___1, b_Midrow___init___2, v_Midrow___init___2, q654, b_Midrow_many, F_Midrow_many, q658, b_Midrow_put, F_Midrow_put, q662, b_Midrow_take, F_Midrow_take, q666, b_Midrow_number_of, F_Midrow_number_of, q670, b_Midrow_oldest, F_Midrow_oldest, q674, b_Midrow_share, F_Midrow_share, q678, b_Midrow_piles, F_Midrow_piles, q682, b_Midrow_turn, F_Midrow_turn, q686, b_Midrow_pile_of, F_Midrow_pile_of, q690, b_Midrow_settle, F_Midrow_settle, W.mg_of X G q691, q694, b__law_at, F__law_at, W.mg_of X G q695, q698, b__law_is, F__law_is, W.mg_of X G q699, q702, b__law_number, F__law_number, W.mg_of X G q703, q706, b__law_numbers, F__law_numbers, W.mg_of X G q707, q710, b__law_thing, F__law_thing, W.mg_of X G q711, q714, b__law_form, F__law_form, W.mg_of X G q715, q718, b__law_empty, F__law_empty, W.mg_of X G q719, q722, b__law_no_share, F__law_no_share, W.mg_of X G q723, q726, b__law_no_row, F__law_no_row, W.mg_of X G q727, q730, b__law_made, F__law_made, W.mg_of X G q731, q734, b__law_no_thing, F__law_no_thing, W.mg_of X G q735, q738, b__law_put, F__law_put, W.mg_of X G q739, q742, b__law_taken, F__law_taken, W.mg_of X G q743, q746, b__law_taken_here, F__law_taken_here, W.mg_of X G q747, q750, b__law_asked, F__law_asked, W.mg_of X G q751, q754, b__law_turned, F__law_turned, W.mg_of X G q755, q758, b__law_deed, F__law_deed, W.mg_of X G q759, q762, b__law_at_place, F__law_at_place, W.mg_of X G q763, q766, b__law_look, F__law_look, W.mg_of X G q767, q770, b_law, F_law, ⟨q771, q772, q773, q774⟩, ⟨q775, q776, q584⟩, ⟨q777, q778, q588⟩, ⟨q779, q780, q592⟩, ⟨q781, q782, q596⟩, ⟨q783, q784, q600⟩, ⟨q785, q786, q604⟩, ⟨q787, q788, q608⟩, ⟨q789, q790, q612⟩, ⟨q791, q792, q616⟩, ⟨q793, q794, q620⟩, ⟨q795, q796, q624⟩, ⟨q797, q798, q628⟩, ⟨q799, q800, q801, q802⟩, ⟨q803, q804, q632⟩, ⟨q805, q806, q588⟩, ⟨q807, q808, q592⟩, ⟨q809, q810, q596⟩, ⟨q811, q812, q600⟩, ⟨q813, q814, q604⟩, ⟨q815, q816, q608⟩, ⟨q817, q818, q612⟩, ⟨q819, q820, q616⟩, ⟨q821, q822, q620⟩, ⟨q823, q824, q624⟩, ⟨q825, q826, q628⟩, ⟨q827, q828, q829, q830⟩, ⟨q831, q832, q654⟩, ⟨q833, q834, q658⟩, ⟨q835, q836, q662⟩, ⟨q837, q838, q666⟩, ⟨q839, q840, q670⟩, ⟨q841, q842, q674⟩, ⟨q843, q844, q678⟩, ⟨q845, q846, q682⟩, ⟨q847, q848, q686⟩, ⟨q849, q850, q690⟩⟩, λ s v => .of_eq rfl⟩
theorem walk {l : PySem.W.OpenLaw} {q : Program} {loose : List Str} {XP : (Str -> Option Value) -> Heap -> Prop} {YP : World -> Heap -> Prop} {d : DefRec} {K : Params -> PySem.W.Frag} (hn : l.most = some 63) (hdf : d.params.defaults = [])
    (hY : ∀ (w : World) (h : Heap), YP w h -> (K w.params).In h)
    (F : ∀ (w : World) (mg : Str -> Option Value) (fa : Addr) (h : Heap), (K w.params).In h -> h.Ns mainGlobals mg -> mg d.name = some (.ref fa) ->
      ∃ L : Lk, Txt (K w.params) mg L /\ ∀ (s : Shared) (v : Value), BindsTo s L.d_law ⟨[v], []⟩ [("_law_script", v)]) (hnm : d.name = "law") :
    PySem.W.WalkO q loose XP YP l.row.toRowW d [] (λ f vs => PySem.call f vs) :=
  L2.walk_of (n := 63) (k := 60) (x := "_law_script") (CX := λ w => CXE l.prog w) (sp := λ w => spLaw (K w.params)) hn (by decide) hdf ⟨rfl, by decide, by decide⟩ hY
    (λ w mg fa h KX G hmg => by
      obtain ⟨L, T, b⟩ := F w mg fa h KX G hmg
      have e : some (Value.ref fa) = some (Value.ref L.a_law) := by
        rw [hnm] at hmg
        exact hmg.symm.trans T.m_law
      cases e
      exact ⟨L.d_law, b, λ base _ _ => ok_law T⟩)
    (λ _ _ a ns hl _ hS => ⟨a, ns, rfl, hS, hl, λ _ => rfl⟩) λ _ _ _ _ _ z => by
      obtain ⟨_, _, _, _, _, z⟩ := z
      exact z
end K06
namespace PySem.W.Fast
def tw6944638657050995242 := 0
def tw6877670592944290824 := 0
def tw18119760188832141303 := 0
def tw346710624624014551 := 0
def tw5922324021095336010 := 0
def tw2137343610073587403 := 0
def tw12394364151769035442 := 0
def tw10019384121908972036 := 0
def tw854539553895097773 := 0
def tw15173007922793205539 := 0
def tw11563268200865559330 := 0
def tw16701614151363686503 := 0
def tw6869314803946178046 := 0
def tw7245598088379079741 := 0
def tw17229903035230905993 := 0
def tw9155893496427065706 := 0
def tw1800676705996897651 := 0
def tw14474790387837257412 := 0
def tw8322423197177135239 := 0
def tw16163566268968117527 := 0
def tw4295965781650199178 := 0
def tw6317441382923307910 := 0
def tw18386837526782447879 := 0
def tw4422919345570171787 := 0
def tw7912777011158839637 := 0
def tw8210443638457581704 := 0
def tw7621458786206350555 := 0
def tw13593698813243861195 := 0
def tw18070601332548405210 := 0
def tw4023316231650200913 := 0
def tw4383183549231475738 := 0
def tw9854986954307412598 := 0
def tw8358948967104951327 := 0
def tw9085645785703958052 := 0
def tw7022654677194879770 := 0
def tw16609841373764884973 := 0
def tw1491595429375961600 := 0
def tw18321857464279871479 := 0
def tw4773328899589250918 := 0
def tw4265844416876630547 := 0
def tw15908308341407214168 := 0
def tw10123570556945173730 := 0
def tw4900590829043259357 := 0
def tw7877033556105817910 := 0
def tw4327952401418138053 := 0
def tw8548313569829965807 := 0
def tw13207469616844779928 := 0
def tw6554696696300723581 := 0
def tw985661212619207689 := 0
def tw2536445451638399426 := 0
def tw9238626306241839599 := 0
def tw13601152079762260311 := 0
def tw15468130667988894670 := 0
def tw12643984163969782468 := 0
def tw366992033606032112 := 0
def tw12415023697235611075 := 0
def tw200694889674982689 := 0
def tw6929262922641795277 := 0
def tw14087111323275852906 := 0
def tw5474461101040869419 := 0
def tw3324318505991523217 := 0
def tw2173900251430028620 := 0
def tw18399224300037847531 := 0
def tw925753225585102880 := 0
def tw4144449312451129590 := 0
def tw12341780030685086434 := 0
def tw10879481305349622639 := 0
def tw2641933713034025455 := 0
def tw7309354312306820624 := 0
def tw10618747911818324793 := 0
def tw10421746620189777876 := 0
def tw8553252648023889673 := 0
end PySem.W.Fast
open PySem PySem.W PyProof.Rows
set_option maxRecDepth 100000 in
set_option maxHeartbeats 0 in
theorem PySem.Challenge.cw_midpile_k06_whole_share_told_holds : PySem.Challenge.rw_midpile_k06_whole_share_told.Holds := by
  w_on; o_law; k_head; (case hw => w_witness2)
  k_fill
  refine K06.walk (l := PySem.Challenge.rw_midpile_k06_whole_share_told) rfl rfl (λ w h Y => PySem.W.kIn_of Y) ?F rfl
  case F =>
    intro w mg fa h KX G hmg
    refine' K06.txt_mk KX G ?q494 ?q495 ?q496 ?q497 ?q498 ?q499 ?q500 ?q501 ?q502 ?q503 ?q504 ?q505 ?q506 ?q507 ?q508 ?q509 ?q510 ?q511 ?q512 ?q513 ?q514 ?q515 ?q516 ?q517 ?q518 ?q519 ?q520 ?q521 ?q522 ?q523 ?q524 ?q525 ?q526 ?q527 ?q528 ?q529 ?q530 ?q531 ?q532 ?q533 ?q534 ?q535 ?q536 ?q537 ?q538 ?q539 ?q540 ?q541 ?q542 ?q543 ?q544 ?q545 ?q546 ?q547 ?q548 ?q549 ?q550 ?q551 ?q552 ?q553 ?q554 ?q555 ?q556 ?q557 ?q558 ?q559 ?q560 ?q561 ?q562 ?q563 ?q564 ?q565 ?q566 ?q567 ?q568 ?q569 ?q570 ?q571 ?q572 ?q573 ?q574 ?q575 ?q576 ?q577 ?q578 ?q579 ?q580 ?q581 ?q582 ?q583 ?q584 ?q585 ?q586 ?q587 ?q588 ?q589 ?q590 ?q591 ?q592 ?q593 ?q594 ?q595 ?q596 ?q597 ?q598 ?q599 ?q600 ?q601 ?q602 ?q603 ?q604 ?q605 ?q606 ?q607 ?q608 ?q609 ?q610 ?q611 ?q612 ?q613 ?q614 ?q615 ?q616 ?q617 ?q618 ?q619 ?q620 ?q621 ?q622 ?q623 ?q624 ?q625 ?q626 ?q627 ?q628 ?q629 ?q630 ?q631 ?q632 ?q633 ?q634 ?q635 ?q636 ?q637 ?q638 ?q639 ?q640 ?q641 ?q642 ?q643 ?q644 ?q645 ?q646 ?q647 ?q648 ?q649 ?q650 ?q651 ?q652 ?q653 ?q654 ?q655 ?q656 ?q657 ?q658 ?q659 ?q660 ?q661 ?q662 ?q663 ?q664 ?q665 ?q666 ?q667 ?q668 ?q669 ?q670 ?q671 ?q672 ?q673 ?q674 ?q675 ?q676 ?q677 ?q678 ?q679 ?q680 ?q681 ?q682 ?q683 ?q684 ?q685 ?q686 ?q687 ?q688 ?q689 ?q690 ?q691 ?q692 ?q693 ?q694 ?q695 ?q696 ?q697 ?q698 ?q699 ?q700 ?q701 ?q702 ?q703 ?q704 ?q705 ?q706 ?q707 ?q708 ?q709 ?q710 ?q711 ?q712 ?q713 ?q714 ?q715 ?q716 ?q717 ?q718 ?q719 ?q720 ?q721 ?q722 ?q723 ?q724 ?q725 ?q726 ?q727 ?q728 ?q729 ?q730 ?q731 ?q732 ?q733 ?q734 ?q735 ?q736 ?q737 ?q738 ?q739 ?q740 ?q741 ?q742 ?q743 ?q744 ?q745 ?q746 ?q747 ?q748 ?q749 ?q750 ?q751 ?q752 ?q753 ?q754 ?q755 ?q756 ?q757 ?q758 ?q759 ?q760 ?q761 ?q762 ?q763 ?q764 ?q765 ?q766 ?q767 ?q768 ?q769 ?q770 ?q771 ?q772 ?q773 ?q774 ?q775 ?q776 ?q777 ?q778 ?q779 ?q780 ?q781 ?q782 ?q783 ?q784 ?q785 ?q786 ?q787 ?q788 ?q789 ?q790 ?q791 ?q792 ?q793 ?q794 ?q795 ?q796 ?q797 ?q798 ?q799 ?q800 ?q801 ?q802 ?q803 ?q804 ?q805 ?q806 ?q807 ?q808 ?q809 ?q810 ?q811 ?q812 ?q813 ?q814 ?q815 ?q816 ?q817 ?q818 ?q819 ?q820 ?q821 ?q822 ?q823 ?q824 ?q825 ?q826 ?q827 ?q828 ?q829 ?q830 ?q831 ?q832 ?q833 ?q834 ?q835 ?q836 ?q837 ?q838 ?q839 ?q840 ?q841 ?q842 ?q843 ?q844 ?q845 ?q846 ?q847 ?q848 ?q849 ?q850
    (case q494 | q495 | q496 | q497 | q498 | q499 | q500 | q501 | q502 | q503 | q504 | q505 | q506 | q507 | q508 | q509 | q510 | q511 | q512 | q513 | q514 | q515 | q516 | q517 | q518 | q519 | q520 | q521 | q522 | q523 | q524 | q525 | q526 | q527 | q528 | q529 | q530 | q531 | q532 | q533 | q534 | q535 | q536 | q537 | q538 | q539 | q540 | q541 | q542 | q543 | q544 | q545 | q546 | q547 | q548 | q549 | q550 | q551 | q552 | q553 | q554 | q555 | q556 | q557 | q558 | q559 | q560 | q561 | q562 | q563 | q564 | q565 | q566 | q567 | q568 | q569 | q570 | q571 | q572 | q573 | q574 | q575 | q576 | q577 | q578 | q579 | q580 | q581 | q582 | q583 | q584 | q585 | q586 | q587 | q588 | q589 | q590 | q591 | q592 | q593 | q594 | q595 | q596 | q597 | q598 | q599 | q600 | q601 | q602 | q603 | q604 | q605 | q606 | q607 | q608 | q609 | q610 | q611 | q612 | q613 | q614 | q615 | q616 | q617 | q618 | q619 | q620 | q621 | q622 | q623 | q624 | q625 | q626 | q627 | q628 | q629 | q630 | q631 | q632 | q633 | q634 | q635 | q636 | q637 | q638 | q639 | q640 | q641 | q642 | q643 | q644 | q645 | q646 | q647 | q648 | q649 => first | k_is | k_exc | kernel_rfl)
    (case q650 => rfl)
    (case q651 | q652 | q653 | q654 | q655 | q656 | q657 | q658 | q659 | q660 | q661 | q662 | q663 | q664 | q665 | q666 | q667 | q668 | q669 | q670 | q671 | q672 | q673 | q674 | q675 | q676 | q677 | q678 | q679 | q680 | q681 | q682 | q683 | q684 | q685 | q686 | q687 | q688 | q689 | q690 | q691 | q692 | q693 | q694 | q695 | q696 | q697 | q698 | q699 | q700 | q701 | q702 | q703 | q704 | q705 | q706 | q707 | q708 | q709 | q710 | q711 | q712 | q713 | q714 | q715 | q716 | q717 | q718 | q719 | q720 | q721 | q722 | q723 | q724 | q725 | q726 | q727 | q728 | q729 | q730 | q731 | q732 | q733 | q734 | q735 | q736 | q737 | q738 | q739 | q740 | q741 | q742 | q743 | q744 | q745 | q746 | q747 | q748 | q749 | q750 | q751 | q752 | q753 | q754 | q755 | q756 | q757 | q758 | q759 | q760 | q761 | q762 | q763 | q764 | q765 | q766 | q767 | q768 | q769 | q770 | q771 | q772 | q773 | q774 | q775 | q776 | q777 | q778 | q779 | q780 | q781 | q782 | q783 | q784 | q785 | q786 | q787 | q788 | q789 | q790 | q791 | q792 | q793 | q794 | q795 | q796 | q797 | q798 | q799 | q800 | q801 | q802 | q803 | q804 | q805 | q806 | q807 | q808 | q809 | q810 | q811 | q812 | q813 | q814 | q815 | q816 | q817 | q818 | q819 | q820 | q821 | q822 | q823 | q824 | q825 | q826 | q827 | q828 | q829 | q830 | q831 | q832 | q833 | q834 | q835 | q836 | q837 | q838 | q839 | q840 | q841 | q842 | q843 | q844 | q845 | q846 | q847 | q848 | q849 | q850 => first | k_is | k_exc | kernel_rfl)
