import PyProof.Rows.All
import Wide.All
import OpenK.AllK
import Wide.FinOn
import Lean
import PyProof.EqAt
import PyProof.EqKinds
import PyProof.TupleCall
import KE.KDictList
import KE.KIntText
import KE.KItemsList
import KE.IntBitsLaws
import PySem.Challenge.RW_tallyveil_k14_texts_of_no_numbers
set_option Elab.async false
set_option linter.all false
set_option maxRecDepth 100000
namespace L2
open PySem PySem.Spec PyProof.Rows
abbrev Key := Sum Int Str
def a0d : Key -> Value -> Bool
  | .inl k, v => Value.isInt k v
  | .inr x, v => Value.isStrOf x v
def keyH (w : World) : Key -> Int
  | .inl k => hashInt k
  | .inr x => hashStr w x
theorem g9 : ∀ {k : Key} {v : Value}, a0d k v = true -> (∃ i t, k = Sum.inl i /\ v = Value.int i t) \/ (∃ x t, k = Sum.inr x /\ v = Value.str x t)
  | .inl i, v, h => by
    obtain ⟨t, e⟩ := Value.isInt_shape (k := i) (v := v) h
    exact .inl ⟨i, t, rfl, e⟩
  | .inr x, v, h => by
    obtain ⟨t, e⟩ := Value.isStrOf_shape (x := x) (v := v) h
    exact .inr ⟨x, t, rfl, e⟩
theorem keyIs_int (i : Int) (t : Tok) : a0d (.inl i) (.int i t) = true := by simp [a0d, Value.isInt]
theorem keyIs_str (x : Str) (t : Tok) : a0d (.inr x) (.str x t) = true := by simp [a0d, Value.isStrOf]
theorem key_ll (a b : Int) : decide ((Sum.inl a : Key) = Sum.inl b) = (a == b) := by
  by_cases e : a = b
  . subst e; simp
  . have h : ¬ (Sum.inl a : Key) = Sum.inl b := λ q => e (Sum.inl.inj q)
    rw [decide_eq_false h]
    exact (beq_eq_false_iff_ne.mpr e).symm
theorem key_rr (a b : Str) : decide ((Sum.inr a : Key) = Sum.inr b) = decide (a = b) := by
  by_cases e : a = b
  . subst e; simp
  . have h : ¬ (Sum.inr a : Key) = Sum.inr b := λ q => e (Sum.inr.inj q)
    rw [decide_eq_false h, decide_eq_false e]
theorem key_lr (a : Int) (b : Str) : decide ((Sum.inl a : Key) = Sum.inr b) = false := decide_eq_false (λ q => nomatch q)
theorem key_rl (a : Str) (b : Int) : decide ((Sum.inr a : Key) = Sum.inl b) = false := decide_eq_false (λ q => nomatch q)
def e7 (prog : Program) (w : World) : PySem.KeyKind prog w Key where
  is := a0d
  hash := keyH w
  inj := λ v a b ha hb => by
    rcases g9 ha with ⟨i, t, rfl, rfl⟩ | ⟨x, t, rfl, rfl⟩
    . rcases g9 hb with ⟨j, u, rfl, e⟩ | ⟨y, u, rfl, e⟩
      . injection e with e1 _; rw [e1]
      . exact nomatch e
    . rcases g9 hb with ⟨j, u, rfl, e⟩ | ⟨y, u, rfl, e⟩
      . exact nomatch e
      . injection e with e1 _; rw [e1]
  byValue := λ k v h => by
    rcases g9 h with ⟨i, t, rfl, rfl⟩ | ⟨x, t, rfl, rfl⟩ <;> rfl
  pyHash := λ hv h => by
    rcases g9 hv with ⟨i, t, rfl, rfl⟩ | ⟨x, t, rfl, rfl⟩
    . exact wpAny_pyHash_int h
    . exact wpAny_pyHash_str h
  eqBool := λ hu hv h => by
    rcases g9 hu with ⟨i, t, rfl, rfl⟩ | ⟨x, t, rfl, rfl⟩
    . rcases g9 hv with ⟨j, u, rfl, rfl⟩ | ⟨y, u, rfl, rfl⟩
      . rw [key_ll] at h; exact wpAny_eqBool_int h
      . rw [key_lr] at h; exact SeqAt.EqAt.int_str i t y u _ _ _ _ h
    . rcases g9 hv with ⟨j, u, rfl, rfl⟩ | ⟨y, u, rfl, rfl⟩
      . rw [key_rl] at h; exact SeqAt.EqAt.str_int x t j u _ _ _ _ h
      . rw [key_rr] at h; exact wpAny_eqBool_str h
  «strs» := λ k x t v h => by
    rcases g9 h with ⟨i, u, rfl, e⟩ | ⟨y, u, rfl, e⟩
    . exact nomatch e
    . injection e with e1 _
      subst e1
      cases v <;> rfl
theorem a3k (prog : Program) (w : World) (i : Int) (t : Tok) : (e7 prog w).is (.inl i) (.int i t) = true := keyIs_int i t
theorem a3l (prog : Program) (w : World) (x : Str) (t : Tok) : (e7 prog w).is (.inr x) (.str x t) = true := keyIs_str x t
end L2
namespace L2
open PySem PySem.Spec PyProof.Rows
inductive V where
  | non | bl (b : Bool) | int (i : Int) | str (x : Str) | byt (b : Array UInt8) | flt (b : UInt64) | ref (a : Addr) | ty (n : String)
  deriving DecidableEq
def RelV : V -> Value -> Prop
  | .non, u => u = Value.none
  | .bl b, u => u = Value.bool b
  | .int i, u => ∃ t, u = Value.int i t
  | .str x, u => ∃ t, u = Value.str x t
  | .byt b, u => ∃ t, u = Value.bytes b t
  | .flt b, u => ∃ t, u = Value.float b t
  | .ref a, u => u = Value.ref a
  | .ty n, u => u = Value.type n
abbrev Vals : List V -> List Value -> Prop := Paired RelV
theorem Vals.length {xs : List V} {us : List Value} (r : Vals xs us) : xs.length = us.length := Paired.length r
theorem Vals.get : ∀ {xs : List V} {us : List Value} {i : Nat} {x : V}, Vals xs us -> xs[i]? = some x -> ∃ u, us[i]? = some u /\ RelV x u
  | _, _, _, _, .nil, e => by simp at e
  | _, _, 0, _, .cons r _, e => by simp at e; subst e; exact ⟨_, rfl, r⟩
  | _, _, i + 1, x, .cons _ t, e => by
    obtain ⟨u, h1, h2⟩ := Vals.get (i := i) (x := x) t (by simpa using e)
    exact ⟨u, by simpa using h1, h2⟩
theorem Vals.set {x : V} {u : Value} (r : RelV x u) : ∀ {xs : List V} {us : List Value} (i : Nat), Vals xs us -> Vals (xs.set i x) (us.set i u)
  | _, _, _, .nil => .nil
  | _, _, 0, .cons _ t => .cons r t
  | _, _, i + 1, .cons q t => .cons q (Vals.set r i t)
theorem Vals.append : ∀ {xs ys : List V} {us ws : List Value}, Vals xs us -> Vals ys ws -> Vals (xs ++ ys) (us ++ ws)
  | _, _, _, _, .nil, s => s
  | _, _, _, _, .cons r t, s => .cons r (Vals.append t s)
theorem Vals.take : ∀ {xs : List V} {us : List Value} (n : Nat), Vals xs us -> Vals (xs.take n) (us.take n)
  | _, _, 0, _ => .nil
  | _, _, _ + 1, .nil => .nil
  | _, _, n + 1, .cons r t => .cons r (Vals.take n t)
theorem Vals.drop : ∀ {xs : List V} {us : List Value} (n : Nat), Vals xs us -> Vals (xs.drop n) (us.drop n)
  | _, _, 0, r => r
  | _, _, _ + 1, .nil => .nil
  | _, _, n + 1, .cons _ t => Vals.drop n t
def RelO : Option V -> Option Value -> Prop
  | some v, some u => RelV v u
  | none, none => True
  | _, _ => False
def KV {κ : Type} : List (κ × V) -> List (κ × Value) -> Prop := Paired λ (p : κ × V) (q : κ × Value) => p.1 = q.1 /\ RelV p.2 q.2
def kV : Key -> V
  | .inl i => .int i
  | .inr x => .str x
inductive HO where
  | lst (xs : List V)
  | tup (xs : List V)
  | dK (kvs : List (Key × V)) | dT (kvs : List (List Key × V))
  | set (S : Int -> Bool) (n : Nat)
  | ins (C dx : Addr) (fs : List (Str × V))
  | own (x : Addr)
  | xd (fs : List (Str × V))
  | met (f x : Addr)
  | rng (lo hi : Int)
  | frz (o : Obj) (u : HO)
  | tbl (ps : Array Value)
  | ext (φ : Heap -> Prop)
abbrev Hp := Addr -> Option HO
def upd (H : Hp) (a : Addr) (o : HO) : Hp := λ b => if b = a then some o else H b
theorem b6 {H : Hp} {a : Addr} {o : HO} : upd H a o a = some o := by unfold upd; rw [if_pos rfl]
theorem b4 {H : Hp} {a b : Addr} {o : HO} (h : b ≠ a) : upd H a o b = H b := by unfold upd; rw [if_neg h]
theorem a2m {H : Hp} {a : Addr} {o u : HO} : upd (upd H a o) a u = upd H a u := by
  funext b; unfold upd; split <;> rfl
theorem ne_of {H : Hp} {a b : Addr} {o u : HO} (h : H a = some o) (h' : H b = some u) (d : o ≠ u) : a ≠ b := by
  intro e; subst e; rw [h] at h'; exact d (Option.some.inj h')
theorem b8 {H : Hp} {a b : Addr} {o : HO} (h : H a = some o) (h' : H b = none) : a ≠ b := by
  intro e; subst e; rw [h] at h'; cases h'
section
variable (P : Program) (w : World)
def ObjOk (H : Hp) (h : Heap) (a : Addr) : HO -> Prop
  | .lst xs => xs.length <= sizeLine /\ ∃ (its : List Value) (n : Nat), Vals xs its /\ h.get? a = some { cls := .type "list", data := .seq its.toArray n }
  | .tup xs => xs.length <= sizeLine /\ ∃ its : List Value, Vals xs its /\ IsTup h a its.toArray
  | .dK kvs => kvs.length <= sizeLine /\ (a == sysModules) = false /\ ∃ vs, KV kvs vs /\ h.DictOf (e7 P w) a vs
  | .dT kvs => kvs.length <= sizeLine /\ (a == sysModules) = false /\ ∃ xs : List (List Key × Addr × Value),
      Paired (λ (p : List Key × V) (q : List Key × Addr × Value) => p.1 = q.1 /\ H q.2.1 = some (.tup (p.1.map kV)) /\ RelV p.2 q.2.2) kvs xs ∧
      ∃ o es ep, h.get? a = some o /\ o.ExactDict /\ o.data = .dict es ep /\ es.toList = xs.map (entryOfKey (tupleKind (e7 P w))) /\ (xs.map (·.1)).Nodup
  | .set S n => h.SetOf (intKind P w) a S n
  | .ins C dx fs => H dx = some (.own a) /\ fs.length <= 1000 /\ dx ≠ a /\ h.get? a = some (PySem.W.instObj C dx) ∧
      ∃ mA, h.Ns1 dx mA /\ (∀ f, RelO (fs.lookup f) (mA f)) /\ PySem.Within mA (fs.map (·.1))
  | .own _ => ∃ o, h.get? a = some o
  | .xd fs => ∃ mA, h.Ns1 a mA /\ ∀ f, RelO (fs.lookup f) (mA f)
  | .rng lo hi => ∃ t u v, h.get? a = some { cls := .type "range", data := .fields #[.int lo t, .int hi u, .int 1 v] }
  | .frz o u => h.get? a = some o /\ ObjOk H h a u
  | .tbl ps => h.get? a = some { cls := .none, data := .fields ps }
  | .met f x => h.get? a = some (PySem.W.methodObj (.ref f) (.ref x))
  | .ext φ => φ h /\ (∃ o, h.get? a = some o) /\ ∀ h1 h2 : Heap, φ h1 -> (∀ o, h1.get? a = some o -> h2.get? a = some o) -> φ h2
def HOk (H : Hp) (h : Heap) : Prop := ∀ a o, H a = some o -> ObjOk P w H h a o
end
section
variable {P : Program} {w : World} {H H' : Hp} {h h' : Heap} {a : Addr} {o : HO}
theorem ObjOk.lt (x : ObjOk P w H h a o) : a < h.objs.size := by
  cases o with
  | lst xs => obtain ⟨_, _, _, _, e⟩ := x; exact Heap.lt_size e
  | tup xs => obtain ⟨_, _, _, p⟩ := x; exact p.lt
  | dK kvs => obtain ⟨_, _, _, _, o, _, _, e, _⟩ := x; exact Heap.lt_size e
  | dT kvs => obtain ⟨_, _, _, _, o, _, _, e, _⟩ := x; exact Heap.lt_size e
  | set S n => obtain ⟨o, _, _, _, e, _⟩ := x; exact Heap.lt_size e
  | ins C dx fs => obtain ⟨_, _, _, e, _⟩ := x; exact Heap.lt_size e
  | own y => obtain ⟨_, e⟩ := x; exact Heap.lt_size e
  | xd fs => obtain ⟨_, ⟨_, _, _, e, _⟩, _⟩ := x; exact Heap.lt_size e
  | rng lo hi => obtain ⟨_, _, _, e⟩ := x; exact Heap.lt_size e
  | frz ob u => obtain ⟨e, _⟩ := x; exact Heap.lt_size e
  | tbl ps => exact Heap.lt_size (show h.get? a = some _ from x)
  | met f y => exact Heap.lt_size (show h.get? a = some _ from x)
  | ext φ => obtain ⟨_, ⟨_, e⟩, _⟩ := x; exact Heap.lt_size e
theorem Paired.mapP {α β : Type} {F G : α -> β -> Prop} : ∀ {l₁ : List α} {l₂ : List β}, Paired F l₁ l₂ -> (∀ a b, F a b -> G a b) -> Paired G l₁ l₂
  | _, _, .nil, _ => .nil
  | _, _, .cons r t, f => .cons (f _ _ r) (Paired.mapP t f)
theorem ObjOk.stay (x : ObjOk P w H h a o) (k : ∀ b u, (b = a \/ H b = some (.own a)) -> h.get? b = some u -> h'.get? b = some u)
    (ho : ∀ b, H b = some (.own a) -> H' b = some (.own a)) (ht : ∀ b xs, H b = some (.tup xs) -> H' b = some (.tup xs)) : ObjOk P w H' h' a o := by
  induction o with
  | lst xs => obtain ⟨z, its, n, r, e⟩ := x; exact ⟨z, its, n, r, k _ _ (.inl rfl) e⟩
  | tup xs => obtain ⟨z, its, r, ob, e, c⟩ := x; exact ⟨z, its, r, ob, k _ _ (.inl rfl) e, c⟩
  | dK kvs => obtain ⟨z, y, vs, r, ob, es, ep, e, c⟩ := x; exact ⟨z, y, vs, r, ob, es, ep, k _ _ (.inl rfl) e, c⟩
  | dT kvs =>
    obtain ⟨z, y, xs, r, ob, es, ep, e, c⟩ := x
    exact ⟨z, y, xs, Paired.mapP r λ p q z => ⟨z.1, ht _ _ z.2.1, z.2.2⟩, ob, es, ep, k _ _ (.inl rfl) e, c⟩
  | set S n => obtain ⟨ob, es, ep, t, e, c⟩ := x; exact ⟨ob, es, ep, t, k _ _ (.inl rfl) e, c⟩
  | ins C dx fs =>
    obtain ⟨d, z, ne, e, mA, ⟨od, es, ep, e2, c⟩, r⟩ := x
    exact ⟨ho _ d, z, ne, k _ _ (.inl rfl) e, mA, ⟨od, es, ep, k _ _ (.inr d) e2, c⟩, r⟩
  | own y => obtain ⟨ob, e⟩ := x; exact ⟨ob, k _ _ (.inl rfl) e⟩
  | xd fs => obtain ⟨mA, ⟨od, es, ep, e, c⟩, r⟩ := x; exact ⟨mA, ⟨od, es, ep, k _ _ (.inl rfl) e, c⟩, r⟩
  | rng lo hi => obtain ⟨t, u, v, e⟩ := x; exact ⟨t, u, v, k _ _ (.inl rfl) e⟩
  | frz ob u ih => obtain ⟨e, q⟩ := x; exact ⟨k _ _ (.inl rfl) e, ih q⟩
  | tbl ps =>
    have e : h.get? a = some { cls := .none, data := .fields ps } := x
    show h'.get? a = some { cls := .none, data := .fields ps }
    exact k a _ (.inl rfl) e
  | met f y =>
    have e : h.get? a = some (PySem.W.methodObj (.ref f) (.ref y)) := x
    show h'.get? a = some (PySem.W.methodObj (.ref f) (.ref y))
    exact k a _ (.inl rfl) e
  | ext φ => obtain ⟨p, ⟨o, e⟩, st⟩ := x; exact ⟨st _ _ p λ o q => k _ _ (.inl rfl) q, ⟨o, k _ _ (.inl rfl) e⟩, st⟩
theorem HOk.lt (x : HOk P w H h) (e : H a = some o) : a < h.objs.size := (x a o e).lt
theorem HOk.fresh (x : HOk P w H h) (e : h.objs.size <= a) : H a = none := by
  cases q : H a with
  | none => rfl
  | some u => exact absurd (Nat.lt_of_lt_of_le (x.lt q) e) (Nat.lt_irrefl _)
theorem HOk.kept (x : HOk P w H h) (k : ∀ b u, h.get? b = some u -> h'.get? b = some u) : HOk P w H h' := λ a o e =>
  (x a o e).stay (λ b u _ q => k b u q) (λ _ q => q) λ _ _ q => q
theorem HOk.laid (x : HOk P w H h) (k : ∀ b u, h.get? b = some u -> h'.get? b = some u) (hp : h.objs.size <= a) (new : ObjOk P w (upd H a o) h' a o) : HOk P w (upd H a o) h' := λ b u e => by
  have hn := x.fresh hp
  by_cases hb : b = a
  . subst hb; rw [b6] at e; cases e; exact new
  . rw [b4 hb] at e
    exact (x b u e).stay (λ c v _ q => k c v q) (λ c q => by rw [b4 (b8 q hn)]; exact q) λ c xs q => by rw [b4 (b8 q hn)]; exact q
end
def Rd (H : Hp) (a : Addr) (u : HO) : Prop := H a = some u \/ ∃ o, H a = some (.frz o u)
theorem Rd.ok {P : Program} {w : World} {H : Hp} {h : Heap} {a : Addr} {u : HO} (r : Rd H a u) (x : HOk P w H h) : ObjOk P w H h a u := by
  rcases r with r | ⟨o, r⟩
  . exact x a u r
  . obtain ⟨_, q⟩ := x a _ r
    exact q
def Mut : Option HO -> Prop
  | some (.lst _) => True
  | some (.dK _) => True
  | some (.dT _) => True
  | some (.set _ _) => True
  | some (.ins _ _ _) => True
  | some (.ext _) => True
  | _ => False
section
variable {P : Program} {w : World} {H : Hp} {h h' : Heap} {x e : Addr} {o' : HO}
theorem HOk.write (ok : HOk P w H h) (mu : Mut (H x)) (he : e = x \/ H e = some (.own x)) (k : ∀ b u, b ≠ e -> h.get? b = some u -> h'.get? b = some u) (heo : ∃ u, h'.get? e = some u)
    (new : ObjOk P w (upd H x o') h' x o') : HOk P w (upd H x o') h' := λ b u q => by
  have nown : ∀ c y, H c = some (.own y) -> c ≠ x := λ c y r z => by subst z; rw [r] at mu; exact mu
  have ntup : ∀ c xs, H c = some (.tup xs) -> c ≠ x := λ c xs r z => by subst z; rw [r] at mu; exact mu
  by_cases hb : b = x
  . subst hb; rw [b6] at q; cases q; exact new
  . rw [b4 hb] at q
    by_cases hbe : b = e
    . have q' : H b = some (.own x) := by
        rcases he with z | z
        . exact absurd (hbe.trans z) hb
        . rw [hbe]; exact z
      rw [q] at q'; cases q'
      obtain ⟨v, hv⟩ := heo
      exact ⟨v, by rw [hbe]; exact hv⟩
    . refine (ok b u q).stay (λ c v hc r => k c v ?_ r) (λ c r => by rw [b4 (nown c b r)]; exact r) λ c xs r => by rw [b4 (ntup c xs r)]; exact r
      rcases hc with rfl | hc
      . exact hbe
      . rintro rfl
        rcases he with z | z
        . exact nown c b hc z
        . rw [hc] at z; cases z; exact hb rfl
end
structure Un (fs ex : List Addr) (H H' : Hp) (h h' : Heap) : Prop where
  keep : ∀ b o, h.get? b = some o -> H b = none -> b ∉ fs -> b ∉ ex -> h'.get? b = some o
  slot : ∀ b o, h.get? b = some o -> H b = none -> b ∈ fs -> b ∉ ex -> ∃ sl, h'.get? b = some { o with slots := sl }
  free : ∀ b o, h.get? b = some o -> H b = none -> b ∉ ex -> H' b = none
  there : ∀ b o, h.get? b = some o -> b ∉ ex -> ∃ o', h'.get? b = some o'
  tups : ∀ b xs, H b = some (.tup xs) -> H' b = some (.tup xs)
  frzs : ∀ b o u, H b = some (.frz o u) -> H' b = some (.frz o u)
  tbls : ∀ b ps, H b = some (.tbl ps) -> ∃ more, H' b = some (.tbl (ps ++ more))
section
variable {fs fs' ex ex' : List Addr} {H H1 H2 : Hp} {h h1 h2 h' : Heap} {a x e : Addr} {o : HO}
theorem Un.any (u : Un fs ex H H1 h h1) {b : Addr} {ob : Obj} (q : h.get? b = some ob) (n : H b = none) (hx : b ∉ ex) : ∃ sl, h1.get? b = some { ob with slots := sl } := by
  by_cases hb : b ∈ fs
  . exact u.slot b ob q n hb hx
  . exact ⟨ob.slots, u.keep b ob q n hb hx⟩
theorem Un.kept (k : ∀ b u, h.get? b = some u -> h'.get? b = some u) : Un fs ex H H h h' :=
  ⟨λ b ob q _ _ _ => k b ob q, λ b ob q _ _ _ => ⟨ob.slots, k b ob q⟩, λ _ _ _ n _ => n, λ b ob q _ => ⟨ob, k b ob q⟩, λ _ _ q => q, λ _ _ _ q => q, λ _ ps q => ⟨#[], by rw [q]; simp⟩⟩
theorem Un.refl : Un fs ex H H h h := Un.kept λ _ _ q => q
theorem Un.laid (k : ∀ b u, h.get? b = some u -> h'.get? b = some u) (hp : h.objs.size <= a) (hn : H a = none) : Un fs ex H (upd H a o) h h' where
  keep := λ b u q _ _ _ => k b u q
  slot := λ b u q _ _ _ => ⟨u.slots, k b u q⟩
  free := λ b u q n _ => by rw [b4 (Nat.ne_of_lt (Nat.lt_of_lt_of_le (Heap.lt_size q) hp))]; exact n
  there := λ b u q _ => ⟨u, k b u q⟩
  tups := λ b xs q => by rw [b4 (b8 q hn)]; exact q
  frzs := λ b u xs q => by rw [b4 (b8 q hn)]; exact q
  tbls := λ b ps q => ⟨#[], by rw [b4 (b8 q hn), q]; simp⟩
theorem Un.write (mu : Mut (H x)) (he : e = x \/ H e = some (.own x)) (k : ∀ b u, b ≠ e -> h.get? b = some u -> h'.get? b = some u) (heo : ∃ u, h'.get? e = some u) : Un fs ex H (upd H x o) h h' := by
  have hx : ∀ b, H b = none -> b ≠ x := λ b n z => by subst z; rw [n] at mu; exact mu
  have hb : ∀ b, H b = none -> b ≠ e := λ b n z => by
    subst z
    rcases he with r | r
    . exact hx b n r
    . rw [n] at r; cases r
  have hm : ∀ b u, H b = some u -> ¬ Mut (some u) -> b ≠ x := λ b u q nm z => by subst z; rw [q] at mu; exact nm mu
  refine ⟨λ b u q n _ _ => k b u (hb b n) q, λ b u q n _ _ => ⟨u.slots, k b u (hb b n) q⟩, λ b u q n _ => by rw [b4 (hx b n)]; exact n, λ b u q _ => ?_,
    λ b xs q => by rw [b4 (hm b _ q λ z => z)]; exact q, λ b u xs q => by rw [b4 (hm b _ q λ z => z)]; exact q, λ b ps q => ⟨#[], by rw [b4 (hm b _ q λ z => z), q]; simp⟩⟩
  by_cases hbe : b = e
  . subst hbe; exact heo
  . exact ⟨u, k b u hbe q⟩
end
def trk (h : Heap) (H : Hp) : List Addr := (List.range h.objs.size).filter λ a => (H a).isSome
def hidT (h : Heap) (H : Hp) : Heap := PySem.W.hideAll h (trk h H)
theorem hidT_size (h : Heap) (H : Hp) : (hidT h H).objs.size = h.objs.size := PySem.W.hideAll_size _ _
theorem hidT_get {h : Heap} {H : Hp} {b : Addr} {o : Obj} (e : h.get? b = some o) (n : H b = none) : (hidT h H).get? b = some o :=
  PySem.W.hideAll_get _ e λ hm => by
    have q : (H b).isSome = true := (List.mem_filter.mp hm).2
    rw [n] at q; simp at q
theorem of_hidT {h : Heap} {H : Hp} {b : Addr} {o : Obj} (e : (hidT h H).get? b = some o) : h.get? b = some o /\ H b = none := by
  have e' : h.get? b = some o := PySem.W.of_hideAll (trk h H) e
  refine ⟨e', ?_⟩
  cases q : H b with
  | none => rfl
  | some x =>
    have hm : b ∈ trk h H := List.mem_filter.mpr ⟨List.mem_range.mpr (Heap.lt_size e'), by simp [q]⟩
    have z : (hidT h H).get? b = none := PySem.W.hideAll_none (trk h H) hm
    rw [z] at e; cases e
end L2
namespace L2
open PySem PySem.Spec PyProof.Rows
structure Mod (K : PySem.W.Frag) (mg : Str -> Option Value) (base : Heap) : Prop where
  kin : K.In base
  glob : base.Ns mainGlobals mg
  blt : ∃ mb, base.Ns builtinsNs mb /\ ∀ x : Str, x ≠ "__name__" -> mb x = bootBuiltins x
  nolimit : base.NoLimit
structure Cx where
  prog : Program
  w : World
  K : PySem.W.Frag
  mg : Str -> Option Value
  base : Heap
  A : Around
  N : List Str
  s₀ : Shared
  H₀ : Hp
  env : Env
  outer : List Env
  stack : List Env
  ex : List Addr
  fn : Str -> Bool
  calm : Bool
  pn : List (Addr × Obj)
  xe : Value -> Shared -> Prop
def frs (l : List Env) : List Addr := l.filterMap (·.frame)
abbrev Cx.fs (X : Cx) : List Addr := frs X.outer
def Vis (sc : Scope) (x : Str) : Prop := sc.names.lookup x = some .local \/ sc.names.lookup x = some .cell \/ sc.names.lookup x = some .free
def Loc (sc : Scope) (x : Str) : Prop := sc.names.lookup x = some .local \/ sc.names.lookup x = some .cell
def Look (env : Env) (h : Heap) (m : Str -> Option Value) (x : Str) (u : Value) : Prop :=
  (env.kindOf x = some .local /\ m x = some u) \/ ((env.kindOf x = some .cell \/ env.kindOf x = some .free) /\ ∃ c, env.cells.lookup x = some c /\ h.IsCell c (some u))
structure Cx.Ok (X : Cx) : Prop where
  mod : Mod X.K X.mg X.base
  kind : X.env.scope.kind = .function
  glob : X.env.globals = mainGlobals
  blt : X.env.builtins = builtinsNs
  above : X.s₀.heap.objs.size <= X.env.locals
  inj : ∀ x y c, X.env.cells.lookup x = some c -> X.env.cells.lookup y = some c -> x = y
  has : ∀ x, (X.env.kindOf x = some .cell \/ X.env.kindOf x = some .free) -> ∃ c, X.env.cells.lookup x = some c
  cab : ∀ x c, X.fn x = true -> X.env.cells.lookup x = some c -> X.s₀.heap.objs.size <= c
  hd : X.calm = true -> X.A.handled = none
  frames : X.A.frames = some X.stack
  stk : X.stack = X.outer \/ (X.stack = X.env :: X.outer /\ X.env.frame = some X.env.locals)
  exf : ∀ b ∈ X.ex, b ≠ X.env.locals /\ ∀ x c, X.env.cells.lookup x = some c -> c ≠ b
  bs : ∀ b o, X.base.get? b = some o -> X.s₀.heap.get? b = some o /\ X.H₀ b = none
  bsz : X.base.objs.size <= X.s₀.heap.objs.size
  noex : ∀ b o, X.base.get? b = some o -> b ∉ X.ex
  exfs : ∀ b ∈ X.ex, b ∉ X.fs
  funs : X.s₀.heap.FunFrames X.base X.outer
  frf : ∀ b ∈ X.fs, X.H₀ b = none
structure Inv (X : Cx) (pins : List (Addr × Obj)) (σ : List (Option V)) (H : Hp) (s : Shared) : Prop where
  ok : X.Ok
  os : s.os = X.s₀.os
  bare : AllBare s.gens
  base : Un X.fs X.ex X.H₀ H X.s₀.heap s.heap
  loc : ∃ m, s.heap.Ns X.env.locals m /\ ∀ (i : Nat) (x : Str) (v : V), X.N[i]? = some x -> σ[i]? = some (some v) -> Vis X.env.scope x -> ∃ u, RelV v u /\ Look X.env s.heap m x u
  cell : ∀ x c, X.env.cells.lookup x = some c -> ∃ v, s.heap.IsCell c v
  free : H X.env.locals = none
  freeC : ∀ x c, X.env.cells.lookup x = some c -> H c = none
  pin : ∀ p ∈ X.pn ++ pins, s.heap.get? p.1 = some p.2 /\ H p.1 = none /\ p.1 ≠ X.env.locals /\ p.1 ∉ X.fs /\ ∀ v, p.2.data ≠ .cell v
  hok : HOk X.prog X.w H s.heap
  len : σ.length = X.N.length
section
variable {X : Cx} {pins : List (Addr × Obj)} {σ : List (Option V)} {H H' : Hp} {s : Shared} {h' : Heap}
theorem Cx.Ok.nofr (ok : X.Ok) {b : Addr} {o : Obj} (e : X.base.get? b = some o) : b ∉ X.fs := λ hb => by
  have := (ok.funs.mem hb).1
  rw [e] at this; cases this
theorem Inv.bs (I : Inv X pins σ H s) : ∀ b o, X.base.get? b = some o -> s.heap.get? b = some o /\ H b = none := λ b o e =>
  ⟨I.base.keep b o (I.ok.bs b o e).1 (I.ok.bs b o e).2 (I.ok.nofr e) (I.ok.noex b o e), I.base.free b o (I.ok.bs b o e).1 (I.ok.bs b o e).2 (I.ok.noex b o e)⟩
theorem Inv.bk (I : Inv X pins σ H s) : ∀ b o, X.base.get? b = some o -> s.heap.get? b = some o := λ b o e => (I.bs b o e).1
theorem Inv.mod (I : Inv X pins σ H s) : Mod X.K X.mg X.base := I.ok.mod
theorem Inv.kIn (I : Inv X pins σ H s) : X.K.In s.heap := I.ok.mod.kin.keeps I.bk
theorem Inv.lt (I : Inv X pins σ H s) : X.env.locals < s.heap.objs.size := let ⟨_, hn, _⟩ := I.loc; hn.lt
theorem Inv.sz (I : Inv X pins σ H s) : X.s₀.heap.objs.size <= s.heap.objs.size := Nat.le_trans I.ok.above (Nat.le_of_lt I.lt)
theorem Inv.nofs (I : Inv X pins σ H s) {a : Addr} (h : s.heap.objs.size <= a) : a ∉ X.fs := λ hb => by
  obtain ⟨_, o, ho, _⟩ := I.ok.funs.mem hb
  exact absurd (Nat.lt_of_lt_of_le (Heap.lt_size ho) (Nat.le_trans I.sz h)) (Nat.lt_irrefl _)
theorem Inv.cne (I : Inv X pins σ H s) : ∀ x c, X.env.cells.lookup x = some c -> c ≠ X.env.locals := λ x c e z => by
  obtain ⟨v, o, ho, hd⟩ := I.cell x c e
  obtain ⟨m, ⟨o', es, ep, ho', hd', _⟩, _⟩ := I.loc
  rw [z, ho'] at ho; cases ho; rw [hd'] at hd; cases hd
theorem Inv.funs (I : Inv X pins σ H s) : s.heap.FunFrames X.base X.outer := by
  have all : ∀ (l : List Env), (∀ b ∈ frs l, b ∈ X.fs) -> X.s₀.heap.FunFrames X.base l -> s.heap.FunFrames X.base l := by
    intro l
    induction l with
    | nil => intro _ _; trivial
    | cons env r ih =>
      intro hs hl
      obtain ⟨hk, ⟨L, o, hf, hn, ho, hd⟩, hr⟩ := hl
      have hL : L ∈ X.fs := hs L (by unfold frs; rw [List.filterMap_cons, hf]; exact List.mem_cons_self)
      obtain ⟨sl, e⟩ := I.base.slot L o ho (I.ok.frf L hL) hL λ z => I.ok.exfs L z hL
      exact ⟨hk, ⟨L, _, hf, hn, e, hd⟩, ih (λ b hb => hs b (by unfold frs; rw [List.filterMap_cons, hf]; exact List.mem_cons_of_mem _ hb)) hr⟩
  exact all X.outer (λ _ hb => hb) I.ok.funs
theorem Inv.stack (I : Inv X pins σ H s) : s.heap.FunFrames X.base X.stack := by
  rcases I.ok.stk with e | ⟨e, hf⟩
  . rw [e]; exact I.funs
  . rw [e]
    obtain ⟨m, hn, _⟩ := I.loc
    refine .cons (by rw [I.ok.kind]; decide) hf hn ?_ I.funs
    exact Heap.get?_none_of_le (Nat.le_trans I.ok.bsz I.ok.above)
theorem Inv.stkSub (I : Inv X pins σ H s) : ∀ b ∈ frs X.stack, b ∈ X.env.locals :: X.fs := λ b hb => by
  rcases I.ok.stk with e | ⟨e, hf⟩
  . rw [e] at hb; exact List.mem_cons_of_mem _ hb
  . rw [e] at hb
    unfold frs at hb
    rw [List.filterMap_cons, hf] at hb
    exact hb
theorem Inv.stkFree (I : Inv X pins σ H s) : ∀ b ∈ frs X.stack, H b = none := λ b hb => by
  rcases List.mem_cons.mp (I.stkSub b hb) with e | hb
  . rw [e]; exact I.free
  . obtain ⟨_, o, ho, _⟩ := I.ok.funs.mem hb
    exact I.base.free b o ho (I.ok.frf b hb) λ z => I.ok.exfs b z hb
theorem Inv.step {g' : Array GenState} {t' : Nat} {d' : Drawn} {ch : List Addr} (I : Inv X pins σ H s)
    (hch : ∀ b ∈ ch, (b ∈ X.ex \/ X.s₀.heap.objs.size <= b) /\ b ≠ X.env.locals /\ (∀ x c, X.env.cells.lookup x = some c -> c ≠ b) /\ ∀ p ∈ X.pn ++ pins, p.1 ≠ b)
    (keep : ∀ b o, b ≠ X.env.locals -> b ∉ X.fs -> b ∉ ch -> s.heap.get? b = some o -> H b = none -> h'.get? b = some o)
    (slot : ∀ b o, b ≠ X.env.locals -> b ∈ X.fs -> b ∉ ch -> s.heap.get? b = some o -> H b = none -> ∃ sl, h'.get? b = some { o with slots := sl }) (free : ∀ b o, b ∉ ch -> s.heap.get? b = some o -> H b = none -> H' b = none)
    (there : ∀ b o, b ∉ ch -> s.heap.get? b = some o -> ∃ o', h'.get? b = some o')
    (tups : ∀ b xs, H b = some (.tup xs) -> H' b = some (.tup xs)) (frzs : ∀ b o u, H b = some (.frz o u) -> H' b = some (.frz o u)) (tbls : ∀ b ps, H b = some (.tbl ps) -> ∃ more, H' b = some (.tbl (ps ++ more)))
    (ns : ∀ m, s.heap.Ns X.env.locals m -> h'.Ns X.env.locals m) (hok : HOk X.prog X.w H' h') (hg : AllBare g') :
    Inv X pins σ H' { s with heap := h', gens := g', drawn := d', toks := t' } := by
  have neL : ∀ b o, X.s₀.heap.get? b = some o -> b ≠ X.env.locals := λ b o e => Nat.ne_of_lt (Nat.lt_of_lt_of_le (Heap.lt_size e) I.ok.above)
  have neC : ∀ b o, X.s₀.heap.get? b = some o -> b ∉ X.ex -> b ∉ ch := λ b o e hx hb => by
    rcases (hch b hb).1 with z | z
    . exact hx z
    . exact absurd (Nat.lt_of_lt_of_le (Heap.lt_size e) z) (Nat.lt_irrefl _)
  have cellK : ∀ x c, X.env.cells.lookup x = some c -> ∀ v, s.heap.IsCell c v -> h'.IsCell c v := λ x c e v ⟨o, ho, hd⟩ => by
    have nch : c ∉ ch := λ z => (hch c z).2.2.1 x c e rfl
    by_cases hc : c ∈ X.fs
    . obtain ⟨sl, q⟩ := slot c o (I.cne x c e) hc nch ho (I.freeC x c e)
      exact ⟨_, q, hd⟩
    . exact ⟨o, keep c o (I.cne x c e) hc nch ho (I.freeC x c e), hd⟩
  refine ⟨I.ok, I.os, hg, ⟨λ b o e n hb hx => ?_, λ b o e n hb hx => ?_, λ b o e n hx => ?_, λ b o e hx => ?_, λ b xs e => tups b xs (I.base.tups b xs e), λ b o xs e => frzs b o xs (I.base.frzs b o xs e), λ b ps e => ?_⟩, ?_, λ x c e => ?_, ?_, λ x c e => ?_, λ p hp => ?_, hok, I.len⟩
  . exact keep b o (neL b o e) hb (neC b o e hx) (I.base.keep b o e n hb hx) (I.base.free b o e n hx)
  . obtain ⟨sl, e1⟩ := I.base.slot b o e n hb hx
    obtain ⟨sl', e2⟩ := slot b _ (neL b o e) hb (neC b o e hx) e1 (I.base.free b o e n hx)
    exact ⟨sl', e2⟩
  . obtain ⟨o', e1⟩ := I.base.there b o e hx
    exact free b o' (neC b o e hx) e1 (I.base.free b o e n hx)
  . obtain ⟨o', e1⟩ := I.base.there b o e hx
    exact there b o' (neC b o e hx) e1
  . obtain ⟨m1, e1⟩ := I.base.tbls b ps e
    obtain ⟨m2, e2⟩ := tbls b _ e1
    exact ⟨m1 ++ m2, by rw [e2, Array.append_assoc]⟩
  . obtain ⟨m, hn, hl⟩ := I.loc
    refine ⟨m, ns m hn, λ i x v e1 e2 e3 => ?_⟩
    obtain ⟨u, r, l⟩ := hl i x v e1 e2 e3
    refine ⟨u, r, ?_⟩
    rcases l with l | ⟨k, c, e, z⟩
    . exact .inl l
    . exact .inr ⟨k, c, e, cellK x c e _ z⟩
  . obtain ⟨v, z⟩ := I.cell x c e
    exact ⟨v, cellK x c e v z⟩
  . obtain ⟨m, ⟨o, _, _, ho, _⟩, _⟩ := I.loc
    exact free _ o (λ z => (hch _ z).2.1 rfl) ho I.free
  . obtain ⟨v, o, ho, hd⟩ := I.cell x c e
    exact free c o (λ z => (hch c z).2.2.1 x c e rfl) ho (I.freeC x c e)
  . obtain ⟨e, n, ne, nf, d⟩ := I.pin p hp
    have nch : p.1 ∉ ch := λ z => (hch p.1 z).2.2.2 p hp rfl
    exact ⟨keep p.1 p.2 ne nf nch e n, free p.1 p.2 nch e n, ne, nf, d⟩
theorem Inv.un {t' : Nat} (I : Inv X pins σ H s) (u : Un X.fs [] H H' s.heap h') (hok : HOk X.prog X.w H' h') : Inv X pins σ H' { s with heap := h', toks := t' } := by
  obtain ⟨m, ⟨o, es, ep, ho, r⟩, _⟩ := id I.loc
  obtain ⟨sl, hL⟩ := u.any ho I.free (by simp)
  exact I.step (g' := s.gens) (d' := s.drawn) (ch := []) (λ _ z => nomatch z) (λ b o _ hb _ e n => u.keep b o e n hb (by simp)) (λ b o _ hb _ e n => u.slot b o e n hb (by simp)) (λ b o _ e n => u.free b o e n (by simp)) (λ b o _ e => u.there b o e (by simp)) u.tups u.frzs u.tbls (λ m' hm => by
    obtain ⟨o', es', ep', ho', r'⟩ := hm
    rw [ho] at ho'; cases ho'
    exact ⟨_, es', ep', hL, r'⟩) hok I.bare
theorem Inv.call {g' : Array GenState} {t' : Nat} {d' : Drawn} {ch : List Addr} (I : Inv X pins σ H s) (u : Un (frs X.stack) ch H H' s.heap h') (hok : HOk X.prog X.w H' h') (hg : AllBare g')
    (hch : ∀ b ∈ ch, (b ∈ X.ex \/ X.s₀.heap.objs.size <= b) /\ b ≠ X.env.locals /\ (∀ x c, X.env.cells.lookup x = some c -> c ≠ b) /\ ∀ p ∈ X.pn ++ pins, p.1 ≠ b) :
    Inv X pins σ H' { s with heap := h', gens := g', drawn := d', toks := t' } := by
  obtain ⟨m, ⟨o, es, ep, ho, r⟩, _⟩ := id I.loc
  obtain ⟨sl, hL⟩ := u.any ho I.free λ z => (hch _ z).2.1 rfl
  exact I.step (ch := ch) hch (λ b o hL hb hc e n => u.keep b o e n (λ z => (List.mem_cons.mp (I.stkSub b z)).elim hL hb) hc) (λ b o _ _ hc e n => u.any e n hc) (λ b o hc e n => u.free b o e n hc) (λ b o hc e => u.there b o e hc) u.tups u.frzs u.tbls (λ m' hm => by
    obtain ⟨o', es', ep', ho', r'⟩ := hm
    rw [ho] at ho'; cases ho'
    exact ⟨_, es', ep', hL, r'⟩) hok hg
theorem Inv.turned {t' : Nat} {it : Addr} (I : Inv X pins σ H s) (k : ∀ b o, b ≠ it -> s.heap.get? b = some o -> h'.get? b = some o) (hn : H it = none) (hL : it ≠ X.env.locals)
    (h1 : it ∈ X.ex \/ X.s₀.heap.objs.size <= it) (h2 : ∀ x c, X.env.cells.lookup x = some c -> c ≠ it) (h3 : ∀ p ∈ X.pn ++ pins, p.1 ≠ it) : Inv X pins σ H { s with heap := h', toks := t' } := by
  have nit : ∀ b u, H b = some u -> b ≠ it := λ b u e z => by rw [z, hn] at e; cases e
  refine I.step (g' := s.gens) (d' := s.drawn) (ch := [it]) (λ b hb => ?_) (λ b o _ _ hc e _ => k b o (λ z => hc (by simp [z])) e) (λ b o _ _ hc e _ => ⟨o.slots, k b o (λ z => hc (by simp [z])) e⟩) (λ _ _ _ _ n => n)
    (λ b o hc e => ⟨o, k b o (λ z => hc (by simp [z])) e⟩) (λ _ _ e => e) (λ _ _ _ e => e) (λ b ps e => ⟨#[], by rw [e]; simp⟩) (λ m hm => ?_) (λ b u e => ?_) I.bare
  . have e : b = it := by simpa using hb
    subst e
    exact ⟨h1, hL, h2, h3⟩
  . obtain ⟨o, es, ep, ho, r⟩ := hm
    exact ⟨o, es, ep, k _ o (Ne.symm hL) ho, r⟩
  . refine (I.hok b u e).stay (λ c v hc q => k c v ?_ q) (λ _ q => q) λ _ _ q => q
    rcases hc with z | z
    . rw [z]; exact nit b u e
    . exact nit c _ z
theorem Inv.tok (I : Inv X pins σ H s) (t : Nat) : Inv X pins σ H { s with toks := t } := I.un (h' := s.heap) (t' := t) Un.refl I.hok
theorem Inv.kept {t' : Nat} (I : Inv X pins σ H s) (k : ∀ b u, s.heap.get? b = some u -> h'.get? b = some u) : Inv X pins σ H { s with heap := h', toks := t' } := I.un (Un.kept k) (I.hok.kept k)
theorem Inv.laid {a : Addr} {o : HO} {t' : Nat} (I : Inv X pins σ H s) (k : ∀ b u, s.heap.get? b = some u -> h'.get? b = some u) (hp : s.heap.objs.size <= a) (new : ObjOk X.prog X.w (upd H a o) h' a o) :
    Inv X pins σ (upd H a o) { s with heap := h', toks := t' } := I.un (Un.laid k hp (I.hok.fresh hp)) (I.hok.laid k hp new)
theorem Inv.write {x e : Addr} {o : HO} {t' : Nat} (I : Inv X pins σ H s) (mu : Mut (H x)) (he : e = x \/ H e = some (.own x)) (k : ∀ b u, b ≠ e -> s.heap.get? b = some u -> h'.get? b = some u) (heo : ∃ u, h'.get? e = some u)
    (new : ObjOk X.prog X.w (upd H x o) h' x o) : Inv X pins σ (upd H x o) { s with heap := h', toks := t' } := I.un (Un.write mu he k heo) (I.hok.write mu he k heo new)
theorem Inv.weak {σ' : List (Option V)} (I : Inv X pins σ H s) (hl : σ'.length = σ.length) (w : ∀ (i : Nat) v, σ'[i]? = some (some v) -> σ[i]? = some (some v)) : Inv X pins σ' H s :=
  ⟨I.ok, I.os, I.bare, I.base, let ⟨m, hn, hl'⟩ := I.loc; ⟨m, hn, λ i x v e1 e2 e3 => hl' i x v e1 (w i v e2) e3⟩, I.cell, I.free, I.freeC, I.pin, I.hok, hl.trans I.len⟩
theorem Inv.pins_of {pins' : List (Addr × Obj)} (I : Inv X pins σ H s) (h : ∀ p ∈ pins', s.heap.get? p.1 = some p.2 /\ H p.1 = none /\ p.1 ≠ X.env.locals /\ p.1 ∉ X.fs /\ ∀ v, p.2.data ≠ .cell v) : Inv X pins' σ H s :=
  ⟨I.ok, I.os, I.bare, I.base, I.loc, I.cell, I.free, I.freeC, λ p hp => (List.mem_append.mp hp).elim (λ z => I.pin p (List.mem_append_left _ z)) (h p), I.hok, I.len⟩
theorem a0e {N : List Str} (hN : N.Nodup) {i j : Nat} {x : Str} (a : N[i]? = some x) (b : N[j]? = some x) : i = j := by
  obtain ⟨h1, e1⟩ := List.getElem?_eq_some_iff.mp a
  obtain ⟨h2, e2⟩ := List.getElem?_eq_some_iff.mp b
  exact (List.getElem_inj hN).mp (e1.trans e2.symm)
theorem a1n {M : Model} {A : Around} {E : Value -> Shared -> Prop} {i : Nat} {x : Str} {v : V} {u : Value} {Q : Unit -> Shared -> Prop} (I : Inv X pins σ H s) (hN : X.N.Nodup) (hi : X.N[i]? = some x) (hx : Loc X.env.scope x) (r : RelV v u)
    (h : ∀ s', Inv X pins (σ.set i (some v)) H s' -> (∃ a, Heap.SameBut a s.heap s'.heap /\ (a = X.env.locals \/ X.env.cells.lookup x = some a)) -> Q () s') (hf : X.fn x = true \/ X.env.scope.names.lookup x = some .local := by first | exact .inl rfl | exact .inr rfl | assumption) : wpAny M A (storeName X.env x u) Q E s := by
  obtain ⟨m, hn, hl⟩ := id I.loc
  have hcls : (X.env.scope.kind == .class || (X.env.scope.kind == .module && X.env.locals != X.env.globals)) = false := by rw [I.ok.kind]; rfl
  have hiσ : i < σ.length := by rw [I.len]; exact (List.getElem?_eq_some_iff.mp hi).1
  have cne := I.cne
  have tracked : ∀ {a : Addr} {h' : Heap}, (∃ o, s.heap.get? a = some o /\ H a = none) -> Heap.SameBut a s.heap h' -> HOk X.prog X.w H h' := λ {a h'} ha hs b ob e => by
    obtain ⟨_, _, hfree⟩ := ha
    refine (I.hok b ob e).stay (λ c w' hc q => (hs.2 c ?_).trans q) (λ _ q => q) λ _ _ q => q
    rintro rfl
    rcases hc with rfl | hc
    . rw [hfree] at e; cases e
    . rw [hfree] at hc; cases hc
  rcases hx with hk | hk
  . refine wpAny_storeName_local hk hn (λ h' hn' hs => ?_) hcls
    obtain ⟨oL, _, _, hoL, _⟩ := id hn
    refine h _ ⟨I.ok, I.os, I.bare, ⟨λ b o e n hb hx => ?_, λ b o e n hb hx => ?_, I.base.free, λ b o e hx => ?_, I.base.tups, I.base.frzs, I.base.tbls⟩, ⟨_, hn', λ j y v' e1 e2 e3 => ?_⟩, λ y c e => ?_, I.free, I.freeC, λ p hp => ?_, tracked ⟨oL, hoL, I.free⟩ hs, by simpa using I.len⟩ ⟨_, hs, .inl rfl⟩
    . exact (hs.2 b (Nat.ne_of_lt (Nat.lt_of_lt_of_le (Heap.lt_size e) I.ok.above))).trans (I.base.keep b o e n hb hx)
    . obtain ⟨sl, e1⟩ := I.base.slot b o e n hb hx
      exact ⟨sl, (hs.2 b (Nat.ne_of_lt (Nat.lt_of_lt_of_le (Heap.lt_size e) I.ok.above))).trans e1⟩
    . obtain ⟨o', e1⟩ := I.base.there b o e hx
      exact ⟨o', (hs.2 b (Nat.ne_of_lt (Nat.lt_of_lt_of_le (Heap.lt_size e) I.ok.above))).trans e1⟩
    . by_cases hj : j = i
      . subst hj
        rw [hi] at e1; cases e1
        rw [List.getElem?_set_self hiσ] at e2
        cases e2
        exact ⟨u, r, .inl ⟨hk, by simp⟩⟩
      . rw [List.getElem?_set_ne (Ne.symm hj)] at e2
        obtain ⟨u', r', q⟩ := hl j y v' e1 e2 e3
        refine ⟨u', r', ?_⟩
        rcases q with ⟨k, e⟩ | ⟨k, c, e, z⟩
        . refine .inl ⟨k, ?_⟩
          have : y ≠ x := λ e => hj (a0e hN e1 (e ▸ hi))
          simp [this, e]
        . exact .inr ⟨k, c, e, z.sameBut hs (cne y c e)⟩
    . obtain ⟨w', z⟩ := I.cell y c e
      exact ⟨w', z.sameBut hs (cne y c e)⟩
    . obtain ⟨e, n, ne, nf, d⟩ := I.pin p hp
      exact ⟨(hs.2 p.1 ne).trans e, n, ne, nf, d⟩
  . have hfn : X.fn x = true := by
      rcases hf with z | z
      . exact z
      . rw [z] at hk; cases hk
    obtain ⟨c, hc⟩ := I.ok.has x (.inl hk)
    obtain ⟨w', z⟩ := I.cell x c hc
    refine wpAny_storeName_cell I.ok.kind hk hc z (λ h' hc' hs => ?_)
    obtain ⟨oc, hoc, hocd⟩ := id z
    refine h { s with heap := h' } ⟨I.ok, I.os, I.bare, ⟨λ b o e n hb hx => ?_, λ b o e n hb hx => ?_, I.base.free, λ b o e hx => ?_, I.base.tups, I.base.frzs, I.base.tbls⟩, ⟨m, hn.sameBut hs (Ne.symm (cne x c hc)), λ j y v' e1 e2 e3 => ?_⟩, λ y c' e => ?_, I.free, I.freeC, λ p hp => ?_, tracked ⟨oc, hoc, I.freeC x c hc⟩ hs, by simpa using I.len⟩ ⟨c, hs, .inr hc⟩
    . exact (hs.2 b (Nat.ne_of_lt (Nat.lt_of_lt_of_le (Heap.lt_size e) (I.ok.cab x c hfn hc)))).trans (I.base.keep b o e n hb hx)
    . obtain ⟨sl, e1⟩ := I.base.slot b o e n hb hx
      exact ⟨sl, (hs.2 b (Nat.ne_of_lt (Nat.lt_of_lt_of_le (Heap.lt_size e) (I.ok.cab x c hfn hc)))).trans e1⟩
    . obtain ⟨o', e1⟩ := I.base.there b o e hx
      exact ⟨o', (hs.2 b (Nat.ne_of_lt (Nat.lt_of_lt_of_le (Heap.lt_size e) (I.ok.cab x c hfn hc)))).trans e1⟩
    . by_cases hj : j = i
      . subst hj
        rw [hi] at e1; cases e1
        rw [List.getElem?_set_self hiσ] at e2
        cases e2
        exact ⟨u, r, .inr ⟨.inl hk, c, hc, hc'⟩⟩
      . rw [List.getElem?_set_ne (Ne.symm hj)] at e2
        obtain ⟨u', r', q⟩ := hl j y v' e1 e2 e3
        refine ⟨u', r', ?_⟩
        rcases q with q | ⟨k, c', e, z'⟩
        . exact .inl q
        . refine .inr ⟨k, c', e, z'.sameBut hs ?_⟩
          rintro rfl
          exact hj (a0e hN e1 (I.ok.inj _ _ _ e hc ▸ hi))
    . by_cases hcc : c' = c
      . subst hcc; exact ⟨_, hc'⟩
      . obtain ⟨w2, z2⟩ := I.cell y c' e
        exact ⟨w2, z2.sameBut hs hcc⟩
    . obtain ⟨e, n, ne, nf, d⟩ := I.pin p hp
      refine ⟨(hs.2 p.1 ?_).trans e, n, ne, nf, d⟩
      intro q
      rw [q, hoc] at e
      have q' : oc = p.2 := Option.some.inj e
      exact d w' (by rw [<- q']; exact hocd)
theorem B7 {M : Model} {A : Around} {E : Value -> Shared -> Prop} {i : Nat} {x : Str} {v : V} {u : Value} {Q : Unit -> Shared -> Prop} (I : Inv X pins σ H s) (hN : X.N.Nodup) (hi : X.N[i]? = some x) (hx : Loc X.env.scope x) (r : RelV v u)
    (h : ∀ s', Inv X pins (σ.set i (some v)) H s' -> Q () s') (hf : X.fn x = true \/ X.env.scope.names.lookup x = some .local := by first | exact .inl rfl | exact .inr rfl | assumption) : wpAny M A (storeName X.env x u) Q E s :=
  a1n I hN hi hx r (λ s' I' _ => h s' I') hf
theorem Inv.call' {s' : Shared} {ch : List Addr} (I : Inv X pins σ H s) (ho : s'.os = s.os) (u : Un (frs X.stack) ch H H' s.heap s'.heap) (hok : HOk X.prog X.w H' s'.heap) (hg : AllBare s'.gens)
    (hch : ∀ b ∈ ch, (b ∈ X.ex \/ X.s₀.heap.objs.size <= b) /\ b ≠ X.env.locals /\ (∀ x c, X.env.cells.lookup x = some c -> c ≠ b) /\ ∀ p ∈ X.pn ++ pins, p.1 ≠ b) : Inv X pins σ H' s' := by
  obtain ⟨h', g', d', t', o'⟩ := s'
  have e : o' = s.os := ho
  subst e
  exact I.call (g' := g') (t' := t') (d' := d') u hok hg hch
end
abbrev XK := Value -> Option Addr -> Hp -> Prop
abbrev St := List (Option V)
abbrev VK := V -> Hp -> Prop
abbrev TE := St -> Hp -> VK -> Prop
abbrev TT := St -> Hp -> (Bool -> Hp -> Prop) -> Prop
abbrev TA := St -> Hp -> (List V -> Hp -> Prop) -> Prop
structure Ends where
  nx : St -> Hp -> Prop
  rt : VK
  bk : St -> Hp -> Prop := λ _ _ => False
  ct : St -> Hp -> Prop := λ _ _ => False
abbrev TS := Ends -> St -> Hp -> Prop
def EP (X : Cx) (pins : List (Addr × Obj)) (σ : St) (Q : VK) (u : Value) (s' : Shared) : Prop := ∃ v H', Inv X pins σ H' s' /\ RelV v u /\ Q v H'
def TP (X : Cx) (pins : List (Addr × Obj)) (σ : St) (Q : Bool -> Hp -> Prop) (b : Bool) (s' : Shared) : Prop := ∃ H', Inv X pins σ H' s' /\ Q b H'
def AP (X : Cx) (pins : List (Addr × Obj)) (σ : St) (Q : List V -> Hp -> Prop) (us : List Value) (s' : Shared) : Prop := ∃ vs H', Inv X pins σ H' s' /\ Vals vs us /\ Q vs H'
def SP (X : Cx) (pins : List (Addr × Obj)) (D : Ends) (f : Flow) (s' : Shared) : Prop :=
  match f with
  | .next => ∃ σ' H', Inv X pins σ' H' s' /\ D.nx σ' H'
  | .brk => ∃ σ' H', Inv X pins σ' H' s' /\ D.bk σ' H'
  | .cont => ∃ σ' H', Inv X pins σ' H' s' /\ D.ct σ' H'
  | .ret u => ∃ v σ' H', Inv X pins σ' H' s' /\ RelV v u /\ D.rt v H'
def PE (X : Cx) (e : Expr) (t : TE) : Prop :=
  ∀ (pins : List (Addr × Obj)) (s : Shared) (σ : St) (H : Hp) (Q : VK), Inv X pins σ H s -> t σ H Q -> wpAny (model X.prog X.w) X.A (eval e X.env) (EP X pins σ Q) X.xe s
def PT (X : Cx) (e : Expr) (t : TT) : Prop :=
  ∀ (pins : List (Addr × Obj)) (s : Shared) (σ : St) (H : Hp) (Q : Bool -> Hp -> Prop), Inv X pins σ H s -> t σ H Q -> wpAny (model X.prog X.w) X.A (isTrue e X.env (eval e X.env)) (TP X pins σ Q) X.xe s
def PW (X : Cx) (e : Expr) (t : TT) : Prop :=
  ∀ (whole : Sem Value) (pins : List (Addr × Obj)) (s : Shared) (σ : St) (H : Hp) (Q : Bool -> Hp -> Prop), Inv X pins σ H s -> t σ H Q -> wpAny (model X.prog X.w) X.A (isTrue e X.env whole) (TP X pins σ Q) X.xe s
theorem PW.pt {X : Cx} {e : Expr} {t : TT} (h : PW X e t) : PT X e t := h _
def PA (X : Cx) (es : List Expr) (t : TA) : Prop :=
  ∀ (pos : Pos) (pins : List (Addr × Obj)) (s : Shared) (σ : St) (H : Hp) (Q : List V -> Hp -> Prop), Inv X pins σ H s -> t σ H Q -> wpAny (model X.prog X.w) X.A (spliced (backTo pos (starEach es X.env))) (AP X pins σ Q) X.xe s
def PS (X : Cx) (st : Stmt) (t : TS) : Prop :=
  ∀ (pins : List (Addr × Obj)) (s : Shared) (σ : St) (H : Hp) (D : Ends), Inv X pins σ H s -> t D σ H -> wpAny (model X.prog X.w) X.A (exec st X.env) (SP X pins D) X.xe s
def PSs (X : Cx) (st : List Stmt) (t : TS) : Prop :=
  ∀ (pins : List (Addr × Obj)) (s : Shared) (σ : St) (H : Hp) (D : Ends), Inv X pins σ H s -> t D σ H -> wpAny (model X.prog X.w) X.A (execs st X.env) (SP X pins D) X.xe s
theorem thn {α : Type} {t : Sem α} {Q Q' : α -> Shared -> Prop} {M : Model} {A : Around} {E : Value -> Shared -> Prop} {s : Shared} (h : wpAny M A t Q E s) (hQ : ∀ a s, Q a s -> Q' a s) : wpAny M A t Q' E s := wpAny_mono h hQ λ _ _ x => x
end L2
namespace L2
open PySem PySem.Spec PyProof.Rows
section
variable {X : Cx}
def tVar (i : Nat) : TE := λ σ H Q => ∃ v, σ[i]? = some (some v) /\ Q v H
def tC (v : V) : TE := λ _ H Q => Q v H
theorem pe_var {i : Nat} {x : Str} {pos : Pos} (hN : X.N[i]? = some x) (hv : Vis X.env.scope x) (hd : (x == ("__debug__" : Str)) = false := by decide) (hcd : (x == ("__classdict__" : Str)) = false := by decide) : PE X (.Name x pos) (tVar i) := by
  intro pins s σ H Q I h
  obtain ⟨v, e, h⟩ := h
  obtain ⟨m, hn, hl⟩ := I.loc
  obtain ⟨u, r, l⟩ := hl i x v hN e hv
  have fin : EP X pins σ Q u s := ⟨v, H, I, r, h⟩
  rcases l with ⟨hk, hm⟩ | ⟨hk, c, hc, hcell⟩
  . exact wpAny_Name (wpAny_loadName_local I.ok.kind hk hn hm fin) hd
  . rcases hk with hk | hk
    . exact wpAny_Name (wpAny_loadName_cell I.ok.kind hk hc hcell fin) hd
    . exact wpAny_Name (wpAny_loadName_free I.ok.kind hk hc hcell fin hcd) hd
theorem pe_int {i j pos} : PE X (.Constant (.int i) j pos) (tC (.int i)) := λ _ _ _ H _ I h => wpAny_Constant_int ⟨.int i, H, I.tok _, ⟨_, rfl⟩, h⟩
theorem pe_bl {b j pos} : PE X (.Constant (.bool b) j pos) (tC (.bl b)) := λ _ _ _ H _ I h => Constant_bool ⟨.bl b, H, I, rfl, h⟩
theorem pe_non {j pos} : PE X (.Constant .none j pos) (tC .non) := λ _ _ _ H _ I h => Constant_none ⟨.non, H, I, rfl, h⟩
theorem pe_str {x j pos} : PE X (.Constant (.str x) j pos) (tC (.str x)) := λ _ _ _ H _ I h => Calls.Constant_str ⟨.str x, H, I.tok _, ⟨_, rfl⟩, h⟩
def Gl (X : Cx) (x : Str) : Prop := X.env.kindOf x = some .globalImplicit
theorem w8 {E : Value -> Shared -> Prop} {pins : List (Addr × Obj)} {s : Shared} {σ : St} {H : Hp} {x : Str} {u : Value} {pos : Pos} {Q : Value -> Shared -> Prop} (I : Inv X pins σ H s) (hg : Gl X x) (hm : X.mg x = some u) (h : Q u s)
    (hd : (x == ("__debug__" : Str)) = false := by decide) : wpAny (model X.prog X.w) X.A (eval (.Name x pos) X.env) Q E s :=
  Calls.Name_function_global I.ok.kind hg (Calls.loadGlobal_global (by rw [I.ok.glob]; exact I.mod.glob.keeps I.bk) hm h) hd
theorem U5 {E : Value -> Shared -> Prop} {pins : List (Addr × Obj)} {s : Shared} {σ : St} {H : Hp} {x : Str} {u : Value} {pos : Pos} {Q : Value -> Shared -> Prop} (I : Inv X pins σ H s) (hg : Gl X x) (hm : X.mg x = none) (hv : bootBuiltins x = some u) (h : Q u s)
    (hn : x ≠ "__name__" := by decide) (hd : (x == ("__debug__" : Str)) = false := by decide) : wpAny (model X.prog X.w) X.A (eval (.Name x pos) X.env) Q E s := by
  obtain ⟨mb, h1, h2⟩ := I.mod.blt
  exact Calls.Name_function_global I.ok.kind hg (Calls.loadGlobal_builtin (by rw [I.ok.glob]; exact I.mod.glob.keeps I.bk) hm (by rw [I.ok.blt]; exact h1.keeps I.bk) ((h2 x hn).trans hv) h) hd
theorem pe_glob {x : Str} {v : V} {u : Value} {pos : Pos} (hg : Gl X x) (hm : X.mg x = some u) (r : RelV v u) (hd : (x == ("__debug__" : Str)) = false := by decide) : PE X (.Name x pos) (tC v) :=
  λ _ _ _ H _ I h => w8 I hg hm ⟨v, H, I, r, h⟩ hd
theorem pe_bltn {x : Str} {v : V} {u : Value} {pos : Pos} (hg : Gl X x) (hm : X.mg x = none) (hv : bootBuiltins x = some u) (r : RelV v u) (hn : x ≠ "__name__" := by decide) (hd : (x == ("__debug__" : Str)) = false := by decide) : PE X (.Name x pos) (tC v) :=
  λ _ _ _ H _ I h => U5 I hg hm hv ⟨v, H, I, r, h⟩ hn hd
variable {a b : Expr} {ta tb : TE} {pos : Pos}
variable {tA tB' : TT} {rest : List Expr}
def tAnd (t u : TT) : TT := λ σ H Q => t σ H λ c H1 => if c = true then u σ H1 Q else Q false H1
def tOr (t u : TT) : TT := λ σ H Q => t σ H λ c H1 => if c = true then Q true H1 else u σ H1 Q
def J7 (t : TT) : TT := λ σ H Q => t σ H λ c H1 => Q (!c) H1
theorem pw_and1 (ha : PT X a tA) : PW X (.BoolOp .And [a] pos) tA := by
  intro wh pins s σ H Q I h
  refine isTrue_and (thn (ha pins s σ H Q I h) λ c s1 e => ?_)
  cases c with
  | true => exact isTrue_and_nil e
  | false => exact e
theorem pw_or1 (ha : PT X a tA) : PW X (.BoolOp .Or [a] pos) tA := by
  intro wh pins s σ H Q I h
  refine isTrue_or (thn (ha pins s σ H Q I h) λ c s1 e => ?_)
  cases c with
  | false => exact isTrue_or_nil e
  | true => exact e
theorem pw_and (ha : PT X a tA) (hb : PW X (.BoolOp .And (b :: rest) pos) tB') : PW X (.BoolOp .And (a :: b :: rest) pos) (tAnd tA tB') := by
  intro wh pins s σ H Q I h
  refine isTrue_and (thn (ha pins s σ H _ I h) λ c s1 ⟨H1, I1, q1⟩ => ?_)
  cases c with
  | true => exact hb wh pins s1 σ H1 Q I1 q1
  | false => exact ⟨H1, I1, q1⟩
theorem pw_or (ha : PT X a tA) (hb : PW X (.BoolOp .Or (b :: rest) pos) tB') : PW X (.BoolOp .Or (a :: b :: rest) pos) (tOr tA tB') := by
  intro wh pins s σ H Q I h
  refine isTrue_or (thn (ha pins s σ H _ I h) λ c s1 ⟨H1, I1, q1⟩ => ?_)
  cases c with
  | true => exact ⟨H1, I1, q1⟩
  | false => exact hb wh pins s1 σ H1 Q I1 q1
theorem pt_not (ha : PT X a tA) : PT X (.UnaryOp .Not a pos) (J7 tA) := by
  intro pins s σ H Q I h
  exact isTrue_not (ha pins s σ H (λ c H1 => Q (!c) H1) I h)
def tAndV (ta tb : TE) : TE := λ σ H Q => ta σ H λ x H1 => ∃ c, x = .bl c /\ if c = true then tb σ H1 Q else Q (.bl false) H1
def tOrV (ta tb : TE) : TE := λ σ H Q => ta σ H λ x H1 => ∃ c, x = .bl c /\ if c = true then Q (.bl true) H1 else tb σ H1 Q
def tNotV (ta : TE) : TE := λ σ H Q => ta σ H λ x H1 => ∃ c, x = .bl c /\ Q (.bl (!c)) H1
theorem a2o {op} {t : TE} (h : PE X a t) : PE X (.BoolOp op [a] pos) t := λ pins s σ H Q I hw => BoolOp_one (h pins s σ H Q I hw)
theorem pe_and (ha : PE X a ta) (hb : PE X (.BoolOp .And (b :: rest) pos) tb) : PE X (.BoolOp .And (a :: b :: rest) pos) (tAndV ta tb) := by
  intro pins s σ H Q I h
  refine BoolOp_and (thn (ha pins s σ H _ I h) λ v s1 ⟨x, H1, I1, r1, q1⟩ => ?_)
  obtain ⟨c, rfl, q1⟩ := q1
  cases r1
  refine wpAny_truthy_bool ?_
  cases c with
  | true => exact hb pins s1 σ H1 Q I1 q1
  | false => exact ⟨.bl false, H1, I1, rfl, q1⟩
theorem pe_or (ha : PE X a ta) (hb : PE X (.BoolOp .Or (b :: rest) pos) tb) : PE X (.BoolOp .Or (a :: b :: rest) pos) (tOrV ta tb) := by
  intro pins s σ H Q I h
  refine BoolOp_or (thn (ha pins s σ H _ I h) λ v s1 ⟨x, H1, I1, r1, q1⟩ => ?_)
  obtain ⟨c, rfl, q1⟩ := q1
  cases r1
  refine wpAny_truthy_bool ?_
  cases c with
  | false => exact hb pins s1 σ H1 Q I1 q1
  | true => exact ⟨.bl true, H1, I1, rfl, q1⟩
theorem pe_not (ha : PE X a ta) : PE X (.UnaryOp .Not a pos) (tNotV ta) := by
  intro pins s σ H Q I h
  refine UnaryOp_ (thn (ha pins s σ H _ I h) λ v s1 ⟨x, H1, I1, r1, q1⟩ => ?_)
  obtain ⟨c, rfl, q1⟩ := q1
  cases r1
  exact not_of (wpAny_truthy_bool ⟨.bl (!c), H1, I1, rfl, q1⟩)
def tIf (t : TT) (ta tb : TE) : TE := λ σ H Q => t σ H λ c H1 => if c = true then ta σ H1 Q else tb σ H1 Q
theorem pe_ifExp {c : Expr} (hc : PT X c tA) (ha : PE X a ta) (hb : PE X b tb) : PE X (.IfExp c a b pos) (tIf tA ta tb) := by
  intro pins s σ H Q I h
  refine wpAny_IfExp (thn (hc pins s σ H _ I h) λ d s1 ⟨H1, I1, q1⟩ => ?_)
  cases d with
  | true => exact ha pins s1 σ H1 Q I1 q1
  | false => exact hb pins s1 σ H1 Q I1 q1
end
end L2
namespace L2
open PySem PySem.Spec PyProof.Rows
def SqL (K : PySem.W.Frag) (H : Hp) (a : Addr) (xs : List V) : Prop :=
  Rd H a (.lst xs) ∨
    ∃ (o : Obj) (its : Array Value) (n : Nat), K.lookup a = some o /\ o.cls = .type "list" /\ o.dict = none /\ o.data = .seq its n /\ its.size <= sizeLine /\ Vals xs its.toList
def SqT (K : PySem.W.Frag) (H : Hp) (a : Addr) (xs : List V) : Prop :=
  Rd H a (.tup xs) ∨
    ∃ (o : Obj) (its : Array Value) (n : Nat), K.lookup a = some o /\ o.cls = .type "tuple" /\ o.data = .seq its n /\ its.size <= sizeLine /\ Vals xs its.toList
def absV : Value -> Option V
  | .none => some .non
  | .bool b => some (.bl b)
  | .int i _ => some (.int i)
  | .str x _ => some (.str x)
  | .bytes b _ => some (.byt b)
  | .float b _ => some (.flt b)
  | .ref a => some (.ref a)
  | .type n => some (.ty n)
  | _ => none
theorem RelV.abs {x : V} {u : Value} (r : RelV x u) : absV u = some x := by
  cases x with
  | non => cases r; rfl
  | bl _ => cases r; rfl
  | int _ => obtain ⟨t, rfl⟩ := r; rfl
  | str _ => obtain ⟨t, rfl⟩ := r; rfl
  | byt _ => obtain ⟨t, rfl⟩ := r; rfl
  | flt _ => obtain ⟨t, rfl⟩ := r; rfl
  | ref _ => cases r; rfl
  | ty _ => cases r; rfl
theorem RelV.inj {x y : V} {u : Value} (r : RelV x u) (q : RelV y u) : x = y := Option.some.inj (r.abs.symm.trans q.abs)
theorem Vals.inj : ∀ {xs ys : List V} {us : List Value}, Vals xs us -> Vals ys us -> xs = ys
  | _, _, _, .nil, .nil => rfl
  | _, _, _, .cons r t, .cons r' t' => by rw [r.inj r', Vals.inj t t']
section
variable {X : Cx} {pins : List (Addr × Obj)} {σ : St} {H : Hp} {s : Shared} {a : Addr} {xs ys : List V}
theorem Inv.list (I : Inv X pins σ H s) (h : SqL X.K H a xs) : ∃ its : List Value, Vals xs its /\ PlainL s.heap a its.toArray /\ xs.length <= sizeLine := by
  rcases h with h | ⟨o, its, n, hk, hc, hd, hs, hz, r⟩
  . obtain ⟨z, its, n, r, e⟩ := h.ok I.hok
    exact ⟨its, r, ⟨_, n, e, rfl, rfl, rfl⟩, z⟩
  . refine ⟨its.toList, r, ⟨o, n, I.kIn a o hk, hc, hd, by simpa using hs⟩, ?_⟩
    have e := r.length
    simp only [Array.length_toList] at e
    omega
theorem Inv.tuple (I : Inv X pins σ H s) (h : SqT X.K H a xs) : ∃ its : List Value, Vals xs its /\ IsTup s.heap a its.toArray /\ xs.length <= sizeLine := by
  rcases h with h | ⟨o, its, n, hk, hc, hs, hz, r⟩
  . obtain ⟨z, its, r, p⟩ := h.ok I.hok
    exact ⟨its, r, p, z⟩
  . refine ⟨its.toList, r, ⟨o, I.kIn a o hk, hc, n, by simpa using hs⟩, ?_⟩
    have e := r.length
    simp only [Array.length_toList] at e
    omega
theorem Inv.list_inj (I : Inv X pins σ H s) (h : SqL X.K H a xs) (h' : SqL X.K H a ys) : xs = ys := by
  obtain ⟨its, r, ⟨o, n, e, _, _, d⟩, _⟩ := I.list h
  obtain ⟨its', r', ⟨o', n', e', _, _, d'⟩, _⟩ := I.list h'
  rw [e] at e'; cases e'
  rw [d] at d'
  injection d' with d1 _
  have : its = its' := by simpa using congrArg Array.toList d1
  subst this
  exact r.inj r'
theorem Inv.tuple_inj (I : Inv X pins σ H s) (h : SqT X.K H a xs) (h' : SqT X.K H a ys) : xs = ys := by
  obtain ⟨its, r, ⟨o, e, _, n, d⟩, _⟩ := I.tuple h
  obtain ⟨its', r', ⟨o', e', _, n', d'⟩, _⟩ := I.tuple h'
  rw [e] at e'; cases e'
  rw [d] at d'
  injection d' with d1 _
  have : its = its' := by simpa using congrArg Array.toList d1
  subst this
  exact r.inj r'
end
abbrev Cx.wish (X : Cx) (E : Value -> Shared -> Prop) : Cx := { X with xe := E }
abbrev Cx.nox (X : Cx) : Cx := X.wish λ _ _ => False
theorem Cx.Ok.wish {X : Cx} (ok : X.Ok) (E : Value -> Shared -> Prop) : (X.wish E).Ok :=
  ⟨ok.mod, ok.kind, ok.glob, ok.blt, ok.above, ok.inj, ok.has, ok.cab, ok.hd, ok.frames, ok.stk, ok.exf, ok.bs, ok.bsz, ok.noex, ok.exfs, ok.funs, ok.frf⟩
theorem Cx.Ok.unwish {X : Cx} {E : Value -> Shared -> Prop} (ok : (X.wish E).Ok) : X.Ok :=
  ⟨ok.mod, ok.kind, ok.glob, ok.blt, ok.above, ok.inj, ok.has, ok.cab, ok.hd, ok.frames, ok.stk, ok.exf, ok.bs, ok.bsz, ok.noex, ok.exfs, ok.funs, ok.frf⟩
section
variable {X : Cx} {pins : List (Addr × Obj)} {σ : St} {H : Hp} {s : Shared} {E : Value -> Shared -> Prop}
theorem Inv.wish (I : Inv X pins σ H s) (E : Value -> Shared -> Prop) : Inv (X.wish E) pins σ H s := ⟨I.ok.wish E, I.os, I.bare, I.base, I.loc, I.cell, I.free, I.freeC, I.pin, I.hok, I.len⟩
theorem Inv.unwish (I : Inv (X.wish E) pins σ H s) : Inv X pins σ H s := ⟨I.ok.unwish, I.os, I.bare, I.base, I.loc, I.cell, I.free, I.freeC, I.pin, I.hok, I.len⟩
theorem SP.unwish {D : Ends} {f : Flow} {s' : Shared} (h : SP (X.wish E) pins D f s') : SP X pins D f s' := by
  cases f with
  | next => obtain ⟨σ', H', I, q⟩ := h; exact ⟨σ', H', I.unwish, q⟩
  | brk => obtain ⟨σ', H', I, q⟩ := h; exact ⟨σ', H', I.unwish, q⟩
  | cont => obtain ⟨σ', H', I, q⟩ := h; exact ⟨σ', H', I.unwish, q⟩
  | ret u => obtain ⟨v, σ', H', I, r, q⟩ := h; exact ⟨v, σ', H', I.unwish, r, q⟩
theorem PSs.nox {st : List Stmt} {t : TS} (h : PSs X.nox st t) : PSs X st t := λ pins s σ H D I hw =>
  wpAny_mono (h pins s σ H D (I.wish _) hw) (λ _ _ q => q.unwish) λ _ _ z => False.elim z
end
section
variable {X : Cx} {st : Stmt} {rest : List Stmt} {t u : TS} {e : Expr} {te : TE} {pos : Pos}
def g0 : TS := λ D σ H => D.nx σ H
def c8 (t u : TS) : TS := λ D σ H => t { D with nx := u D } σ H
theorem pss_nil : PSs X [] g0 := λ _ _ σ H _ I h => wpAny_execs_nil ⟨σ, H, I, h⟩
theorem pss_cons (h1 : PS X st t) (h2 : PSs X rest u) : PSs X (st :: rest) (c8 t u) := by
  intro pins s σ H D I h
  refine wpAny_execs_cons (thn (h1 pins s σ H { D with nx := u D } I h) λ f s1 q => ?_)
  cases f with
  | next =>
    obtain ⟨σ', H', I', q⟩ := q
    exact h2 pins s1 σ' H' D I' q
  | ret v => exact q
  | brk => exact q
  | cont => exact q
theorem pss_one (h1 : PS X st t) : PSs X [st] t := by
  intro pins s σ H D I h
  refine wpAny_execs_cons (thn (h1 pins s σ H D I h) λ f s1 q => ?_)
  cases f with
  | next => exact wpAny_execs_nil q
  | ret v => exact q
  | brk => exact q
  | cont => exact q
theorem ps_pass : PS X (.Pass pos) g0 := λ _ _ σ H _ I h => wpAny_Pass ⟨σ, H, I, h⟩
theorem Inv.quiet {pins : List (Addr × Obj)} {σ : St} {H : Hp} {s : Shared} (I : Inv X pins σ H s) : interactive X.env = false := by simp [interactive, I.ok.kind]
theorem ps_doc {x j pos pos'} : PS X (.Expr (.Constant (.str x) j pos) pos') g0 := λ _ s σ H _ I h => wpAny_Expr (Calls.Constant_str (show SP X _ _ .next { s with toks := s.toks + 1 } from ⟨σ, H, I.tok _, h⟩)) I.quiet
def F3 (te : TE) : TS := λ D σ H => te σ H λ _ H1 => D.nx σ H1
theorem ps_expr (he : PE X e te) (hs : swapsWith e none pos.line X.env = pure false := by rfl) : PS X (.Expr e pos) (F3 te) := by
  intro pins s σ H D I h
  exact wpAny_Expr_any (thn (he pins s σ H _ I h) λ v s1 ⟨x, H1, I1, r1, q1⟩ => ⟨σ, H1, I1, q1⟩) I.quiet hs
def g8 (te : TE) : TS := λ D σ H => te σ H D.rt
theorem ps_ret (he : PE X e te) : PS X (.Return (some e) pos) (g8 te) := by
  intro pins s σ H D I h
  exact wpAny_Return_some (thn (he pins s σ H _ I h) λ v s1 ⟨x, H1, I1, r1, q1⟩ => ⟨x, σ, H1, I1, r1, q1⟩)
def tRetN : TS := λ D _ H => D.rt .non H
theorem ps_retN : PS X (.Return none pos) tRetN := λ _ _ σ H _ I h => wpAny_Return_none ⟨.non, σ, H, I, rfl, h⟩
def tIfS (c : TT) (t u : TS) : TS := λ D σ H => c σ H λ b H1 => if b = true then t D σ H1 else u D σ H1
theorem ps_if {c : Expr} {a b : List Stmt} {tc : TT} (hc : PT X c tc) (ha : PSs X a t) (hb : PSs X b u) : PS X (.If c a b pos) (tIfS tc t u) := by
  intro pins s σ H D I h
  refine wpAny_If (thn (hc pins s σ H _ I h) λ d s1 ⟨H1, I1, q1⟩ => ?_)
  cases d with
  | true => exact ha pins s1 σ H1 D I1 q1
  | false => exact hb pins s1 σ H1 D I1 q1
end
abbrev TG := V -> St -> Hp -> (St -> Hp -> Prop) -> Prop
abbrev TGs := List V -> St -> Hp -> (St -> Hp -> Prop) -> Prop
def PG (X : Cx) (target : Expr) (t : TG) : Prop :=
  ∀ (pins : List (Addr × Obj)) (s : Shared) (σ : St) (H : Hp) (v : V) (u : Value) (Q : St -> Hp -> Prop), Inv X pins σ H s -> RelV v u -> t v σ H Q →
    wpAny (model X.prog X.w) X.A (assign target X.env u) (λ _ s' => ∃ σ' H', Inv X pins σ' H' s' /\ Q σ' H') X.xe s
def PGs (X : Cx) (ts : List Expr) (t : TGs) : Prop :=
  ∀ (pins : List (Addr × Obj)) (s : Shared) (σ : St) (H : Hp) (vs : List V) (us : List Value) (Q : St -> Hp -> Prop), Inv X pins σ H s -> Vals vs us -> t vs σ H Q →
    wpAny (model X.prog X.w) X.A (assignInOrder ((assignEach ts X.env).map (·.2)) us) (λ _ s' => ∃ σ' H', Inv X pins σ' H' s' /\ Q σ' H') X.xe s
abbrev TSet := V -> V -> V -> Hp -> (Hp -> Prop) -> Prop
def PSet (X : Cx) (t : TSet) : Prop :=
  ∀ (pins : List (Addr × Obj)) (s : Shared) (σ : St) (H : Hp) (o i v : V) (ov iv u : Value) (Q : Hp -> Prop), Inv X pins σ H s -> RelV o ov -> RelV i iv -> RelV v u -> t o i v H Q →
    wpAny (model X.prog X.w) X.A (setItem ov iv u) (λ _ s' => ∃ H', Inv X pins σ H' s' /\ Q H') X.xe s
section
variable {X : Cx} {pos : Pos}
def b9 (i : Nat) : TG := λ v σ H Q => Q (σ.set i (some v)) H
theorem pg_name {i : Nat} {x : Str} (hN : X.N.Nodup) (hi : X.N[i]? = some x) (hx : Loc X.env.scope x) (hf : X.fn x = true \/ X.env.scope.names.lookup x = some .local := by first | exact .inl rfl | exact .inr rfl | assumption) : PG X (.Name x pos) (b9 i) := by
  intro pins s σ H v u Q I r h
  exact wpAny_assign_Name (B7 I hN hi hx r (λ s' I' => ⟨_, H, I', h⟩) hf)
def gNil : TGs := λ vs σ H Q => vs = [] /\ Q σ H
def P6 (t : TG) (u : TGs) : TGs := λ vs σ H Q => ∃ v r, vs = v :: r /\ t v σ H λ σ' H' => u r σ' H' Q
theorem pgs_nil : PGs X [] gNil := by
  intro pins s σ H vs us Q I r h
  obtain ⟨e, h⟩ := h
  subst e
  cases r
  exact assignInOrder_nil ⟨σ, H, I, h⟩
theorem pgs_cons {e : Expr} {es : List Expr} {t : TG} {u : TGs} (h1 : PG X e t) (h2 : PGs X es u)
    (hs : (assignEach (e :: es) X.env).map (·.2) = assign e X.env :: (assignEach es X.env).map (·.2) := by rfl) : PGs X (e :: es) (P6 t u) := by
  intro pins s σ H vs us Q I r h
  obtain ⟨v, vr, e1, h⟩ := h
  subst e1
  cases r with
  | cons r rr =>
    rw [hs]
    refine assignInOrder_cons (thn (h1 pins s σ H _ _ _ I r h) λ _ s1 ⟨σ1, H1, I1, q1⟩ => ?_)
    exact h2 pins s1 σ1 H1 _ _ Q I1 rr q1
def gTup (K : PySem.W.Frag) (n : Nat) (t : TGs) : TG := λ v σ H Q => ∃ a xs, v = .ref a /\ SqT K H a xs /\ xs.length = n /\ t xs σ H Q
theorem pg_tup {es : List Expr} {k : Nat} {t : TGs} {n : Nat} (hc : X.calm = true) (h : PGs X es t)
    (hn : (assignEach es X.env).length = n := by rfl) (hst : (assignEach es X.env).findIdx? (·.1) = none := by rfl) : PG X (.Tuple es k pos) (gTup X.K n t) := by
  intro pins s σ H v u Q I r hw
  obtain ⟨a, xs, e1, hq, hl, hw⟩ := hw
  subst e1
  cases r
  obtain ⟨its, rv, ht, hz⟩ := I.tuple hq
  refine assign_Tuple_tuple (I.ok.hd hc) ht (by simp [hn, <- hl, rv.length]) hst λ h' hx => ?_
  have I1 : Inv X pins σ H { s with heap := h' } := I.kept (t' := s.toks) λ b o e => hx b o (Nat.ne_of_lt (Heap.lt_size e)) e
  exact h pins _ σ H xs _ Q I1 (by simpa using rv) hw
def gSub (to ti : TE) (t : TSet) : TG := λ v σ H Q => to σ H λ o H1 => ti σ H1 λ i H2 => t o i v H2 λ H3 => Q σ H3
theorem pg_sub {o i : Expr} {to ti : TE} {t : TSet} (ho : PE X o to) (hi : PE X i ti) (hs : PSet X t)
    (ha : ∀ v, assign (.Subscript o i pos) X.env v = (do
      let ov ← holding [v] (eval o X.env)
      let iv ← holding [v, ov] (eval i X.env)
      standAt pos
      holding [v, ov, iv] (setItem ov iv v)
      release [v, ov, iv] []) := by intro _; rfl) : PG X (.Subscript o i pos) (gSub to ti t) := by
  intro pins s σ H v u Q I r h
  rw [ha]
  refine wpAny_bind (wpAny_holding (thn (ho pins s σ H _ I h) λ ov s1 ⟨x, H1, I1, r1, q1⟩ => ?_))
  refine wpAny_bind (wpAny_holding (thn (hi pins s1 σ H1 _ I1 q1) λ iv s2 ⟨y, H2, I2, r2, q2⟩ => ?_))
  refine wpAny_bind (wpAny_standAt (wpAny_bind (wpAny_holding (thn (hs pins s2 σ H2 x y v ov iv u _ I2 r1 r2 r q2) λ _ s3 ⟨H3, I3, q3⟩ => ?_))))
  exact wpAny_release ⟨σ, H3, I3, q3⟩
def e9 (te : TE) (g : TG) : TS := λ D σ H => te σ H λ x H1 => g x σ H1 D.nx
theorem ps_asg {tg e : Expr} {te : TE} {g : TG} (he : PE X e te) (hg : PG X tg g) (hs : swapsWithSole [tg] e pos.line X.env = pure false := by rfl) (hw : swappedStores [tg] e X.env = pure none := by rfl)
    (h1 : (assignEach [tg] X.env).map (·.2) = [assign tg X.env] := by rfl) : PS X (.Assign [tg] e pos) (e9 te g) := by
  intro pins s σ H D I h
  refine wpAny_Assign_stores (thn (he pins s σ H _ I h) λ v s1 ⟨x, H1, I1, r1, q1⟩ => ?_) hs hw
  rw [h1]
  exact thn (hg pins s1 σ H1 x v _ I1 r1 q1) λ _ s2 q => q
theorem ps_set {i : Nat} {x : Str} {e : Expr} {te : TE} {pos' : Pos} (hN : X.N.Nodup) (hi : X.N[i]? = some x) (hx : Loc X.env.scope x) (he : PE X e te) (hs : swapsWith e (some (.Name x pos')) pos.line X.env = pure false := by rfl) (hf : X.fn x = true \/ X.env.scope.names.lookup x = some .local := by first | exact .inl rfl | exact .inr rfl | assumption) :
    PS X (.Assign [.Name x pos'] e pos) (e9 te (b9 i)) := by
  intro pins s σ H D I h
  refine wpAny_Assign_Name (thn (he pins s σ H _ I h) λ v s1 ⟨y, H1, I1, r1, q1⟩ => ?_) hs
  exact B7 I1 hN hi hx r1 (λ s2 I2 => ⟨_, H1, I2, q1⟩) hf
end
section
variable {X : Cx} {pos : Pos}
end
structure It where
  go : Nat -> Hp -> Prop
  yld : Nat -> Hp -> V -> Hp -> Prop
  stop : Nat -> Hp -> Prop
def FpOk (X : Cx) (pins : List (Addr × Obj)) (H : Hp) (b : Addr) : Prop :=
  H b = none /\ b ≠ X.env.locals /\ b ∉ X.fs /\ (b ∈ X.ex \/ X.s₀.heap.objs.size <= b) /\ (∀ x c, X.env.cells.lookup x = some c -> c ≠ b) /\ ∀ p ∈ X.pn ++ pins, p.1 ≠ b
theorem Inv.fpOk {X : Cx} {pins : List (Addr × Obj)} {σ : St} {H H' : Hp} {s : Shared} {b : Addr} (I : Inv X pins σ H s) (hb : s.heap.objs.size <= b) (hn : H' b = none) : FpOk X pins H' b := by
  refine ⟨hn, Nat.ne_of_gt (Nat.lt_of_lt_of_le I.lt hb), I.nofs hb, .inr (Nat.le_trans I.sz hb), λ x c e z => ?_, λ p hp z => ?_⟩
  . obtain ⟨v, q⟩ := I.cell x c e
    exact absurd (Nat.lt_of_lt_of_le q.lt (by rw [z]; exact hb)) (Nat.lt_irrefl _)
  . exact absurd (Nat.lt_of_lt_of_le (Heap.lt_size (I.pin p hp).1) (by rw [z]; exact hb)) (Nat.lt_irrefl _)
structure Turn (P : Program) (w : World) (K : PySem.W.Frag) (tg : Expr) (J : It) (fp : List Addr) (it : Addr) (tn : Nat -> Heap -> Prop) : Prop where
  mem : it ∈ fp
  obj : ∀ i h, tn i h -> ∀ b ∈ fp, ∃ o, h.get? b = some o /\ ∀ v, o.data ≠ .cell v
  keep : ∀ i h h', tn i h -> (∀ b ∈ fp, ∀ o, h.get? b = some o -> h'.get? b = some o) -> tn i h'
  item : ∀ (X : Cx), X.prog = P -> X.w = w -> X.K = K -> X.calm = true -> ∀ (i : Nat) (pins : List (Addr × Obj)) (s : Shared) (σ : St) (H : Hp) (E : Value -> Shared -> Prop), Inv X pins σ H s -> (∀ b ∈ fp, FpOk X pins H b) -> tn i s.heap -> J.go i H →
    wpAny (model P w) X.A (pyNext (.ref it)) (λ r s1 => ∃ u, r = some u ∧
      wpAny (model P w) X.A (letOwnedTupleGo tg (.ref it) u) (λ _ s2 => ∃ x H', Inv X pins σ H' s2 /\ RelV x u /\ J.yld i H x H' /\ tn (i + 1) s2.heap /\ ∀ b ∈ fp, H' b = none) E s1) E s
  done : ∀ (X : Cx), X.prog = P -> X.w = w -> X.K = K -> X.calm = true -> ∀ (i : Nat) (pins : List (Addr × Obj)) (s : Shared) (σ : St) (H : Hp) (E : Value -> Shared -> Prop), Inv X pins σ H s -> (∀ b ∈ fp, FpOk X pins H b) -> tn i s.heap -> J.stop i H →
    wpAny (model P w) X.A (pyNext (.ref it)) (λ r s1 => r = none /\ Inv X pins σ H s1) E s
  self : ∀ (A : Around) (i : Nat) (s : Shared) (Q : Value -> Shared -> Prop) (E : Value -> Shared -> Prop), tn i s.heap -> Q (.ref it) s -> wpAny (model P w) A (pyIter (.ref it)) Q E s
abbrev TI := St -> Hp -> (It -> Hp -> Prop) -> Prop
def PIE (X : Cx) (pins : List (Addr × Obj)) (σ : St) (tg : Expr) (R : It -> Hp -> Prop) (itv : Value) (s2 : Shared) : Prop :=
  ∃ (it : Addr) (fp : List Addr) (tn : Nat -> Heap -> Prop) (J : It) (H' : Hp), itv = .ref it /\ Inv X pins σ H' s2 /\ Turn X.prog X.w X.K tg J fp it tn /\ tn 0 s2.heap /\ (∀ b ∈ fp, FpOk X pins H' b) /\ R J H'
def PI (X : Cx) (tg iter : Expr) (wi : TI) : Prop :=
  ∀ (pins : List (Addr × Obj)) (s : Shared) (σ : St) (H : Hp) (R : It -> Hp -> Prop), Inv X pins σ H s -> wi σ H R →
    wpAny (model X.prog X.w) X.A (eval iter X.env) (λ v s1 => wpAny (model X.prog X.w) X.A (pyIter v) (PIE X pins σ tg R) X.xe s1) X.xe s
theorem go_of {M : Model} {A : Around} {E : Value -> Shared -> Prop} {s : Shared} {tg : Expr} {it : Addr} {u : Value} {o : Obj} {n : String} {vs : Array Value} {Q : Unit -> Shared -> Prop} (ho : s.heap.get? it = some o) (hc : o.cls = .type n) (hd : o.data = .fields vs)
    (hn : ["enumerate", "zip", "dict_itemiterator", "dict_reverseitemiterator", "odict_iterator", "itertools.zip_longest", "itertools.pairwise"].contains n = false) (hQ : Q () s) : wpAny M A (letOwnedTupleGo tg (.ref it) u) Q E s := by
  unfold letOwnedTupleGo
  cases tg <;> first
    | exact wpAny_pure hQ
    | (cases u <;> first
        | exact wpAny_pure hQ
        | (refine wpAny_bind (wpAny_load ho ?_)
           rw [hc, hd]
           show wpAny M A (if (["enumerate", "zip", "dict_itemiterator", "dict_reverseitemiterator", "odict_iterator", "itertools.zip_longest", "itertools.pairwise"].contains n && vs[0]? == some (rawInt _)) = true then _ else _) Q E s
           rw [if_neg (by intro h; rw [hn, Bool.false_and] at h; cases h)]
           exact wpAny_pure hQ))
def Itl (K : PySem.W.Frag) (a : Addr) : It :=
  ⟨λ i H => ∃ xs x, SqL K H a xs /\ xs[i]? = some x, λ i H x H' => H' = H /\ ∀ xs, SqL K H a xs -> xs[i]? = some x, λ i H => ∃ xs, SqL K H a xs /\ xs.length <= i⟩
def Itt (K : PySem.W.Frag) (a : Addr) : It :=
  ⟨λ i H => ∃ xs x, SqT K H a xs /\ xs[i]? = some x, λ i H x H' => H' = H /\ ∀ xs, SqT K H a xs -> xs[i]? = some x, λ i H => ∃ xs, SqT K H a xs /\ xs.length <= i⟩
def Itr (lo : Int) (n : Nat) : It := ⟨λ i _ => i < n, λ i H x H' => H' = H /\ x = .int (lo + i), λ i _ => n <= i⟩
theorem turn_list {P : Program} {w : World} {K : PySem.W.Frag} {tg : Expr} (a it : Addr) : Turn P w K tg (Itl K a) [it] it (λ i h => h.IsListIter it a i) where
  mem := by simp
  obj := λ i h st b hb => by
    have e : b = it := by simpa using hb
    subst e
    obtain ⟨o, e, c, d⟩ := st
    exact ⟨o, e, λ v z => by rw [d] at z; cases z⟩
  keep := λ i h h' st k => st.at λ o e => k it (by simp) o e
  item := by
    intro X hP hw hK hc i pins s σ H E I hf st hg
    subst hP hw hK
    obtain ⟨xs, x, hq, hx⟩ := hg
    obtain ⟨its, rv, p, hz⟩ := I.list hq
    obtain ⟨u, hu, ru⟩ := rv.get hx
    obtain ⟨f0, f1, f2, f3, f4, f5⟩ := hf it (by simp)
    refine wpAny_pyNext_list_item st p.isList (x := u) (by simpa using hu) λ h' st' sb => ?_
    have I1 : Inv X pins σ H { s with heap := h' } := I.turned (t' := s.toks) (λ b o hb e => (sb.2 b hb).trans e) f0 f1 f3 f4 f5
    obtain ⟨o, e, c, d⟩ := id st'
    exact ⟨u, rfl, go_of (s := { s with heap := h' }) e c d (by decide) ⟨x, H, I1, ru, ⟨rfl, λ ys hy => by rw [I.list_inj hy hq]; exact hx⟩, st', λ b hb => (hf b hb).1⟩⟩
  done := by
    intro X hP hw hK hc i pins s σ H E I hf st hg
    subst hP hw hK
    obtain ⟨xs, hq, hx⟩ := hg
    obtain ⟨its, rv, p, hz⟩ := I.list hq
    obtain ⟨f0, f1, f2, f3, f4, f5⟩ := hf it (by simp)
    have hl := rv.length
    exact wpAny_pyNext_list_end (I.ok.hd hc) st p.isList (by simp; omega) λ h' eb => ⟨rfl, I.turned (t' := s.toks) (λ b o hb e => eb b o hb e) f0 f1 f3 f4 f5⟩
  self := λ _ _ _ _ _ st h => wpAny_pyIter_listiter st h
theorem a4t {P : Program} {w : World} {K : PySem.W.Frag} {tg : Expr} (a it : Addr) : Turn P w K tg (Itt K a) [it] it (λ i h => h.IsTupleIter it a i) where
  mem := by simp
  obj := λ i h st b hb => by
    have e : b = it := by simpa using hb
    subst e
    obtain ⟨o, e, c, d⟩ := st
    exact ⟨o, e, λ v z => by rw [d] at z; cases z⟩
  keep := λ i h h' st k => st.at λ o e => k it (by simp) o e
  item := by
    intro X hP hw hK hc i pins s σ H E I hf st hg
    subst hP hw hK
    obtain ⟨xs, x, hq, hx⟩ := hg
    obtain ⟨its, rv, p, hz⟩ := I.tuple hq
    obtain ⟨u, hu, ru⟩ := rv.get hx
    obtain ⟨f0, f1, f2, f3, f4, f5⟩ := hf it (by simp)
    refine wpAny_pyNext_tuple_item st (show s.heap.IsTuple a its.toArray from p) (x := u) (by simpa using hu) λ h' st' sb => ?_
    have I1 : Inv X pins σ H { s with heap := h' } := I.turned (t' := s.toks) (λ b o hb e => (sb.2 b hb).trans e) f0 f1 f3 f4 f5
    obtain ⟨o, e, c, d⟩ := id st'
    exact ⟨u, rfl, go_of (s := { s with heap := h' }) e c d (by decide) ⟨x, H, I1, ru, ⟨rfl, λ ys hy => by rw [I.tuple_inj hy hq]; exact hx⟩, st', λ b hb => (hf b hb).1⟩⟩
  done := by
    intro X hP hw hK hc i pins s σ H E I hf st hg
    subst hP hw hK
    obtain ⟨xs, hq, hx⟩ := hg
    obtain ⟨its, rv, p, hz⟩ := I.tuple hq
    obtain ⟨f0, f1, f2, f3, f4, f5⟩ := hf it (by simp)
    have hl := rv.length
    exact wpAny_pyNext_tuple_end (I.ok.hd hc) st (show s.heap.IsTuple a its.toArray from p) (by simp; omega) λ h' eb => ⟨rfl, I.turned (t' := s.toks) (λ b o hb e => eb b o hb e) f0 f1 f3 f4 f5⟩
  self := λ _ _ _ _ _ st h => wpAny_pyIter_tupleiter st h
theorem a4u {P : Program} {w : World} {K : PySem.W.Frag} {tg : Expr} (it : Addr) (lo : Int) (n : Nat) : Turn P w K tg (Itr lo n) [it] it (λ i h => IsRangeIter h it (lo + (i : Nat) * 1) ((n : Int) - (i : Nat)) 1) where
  mem := by simp
  obj := λ i h st b hb => by
    have e : b = it := by simpa using hb
    subst e
    exact ⟨_, st, λ v z => by
      have z' : Data.fields _ = Data.cell v := z
      cases z'⟩
  keep := λ i h h' st k => k it (by simp) _ st
  item := by
    intro X hP hw hK hc i pins s σ H E I hf st hg
    subst hP hw hK
    obtain ⟨f0, f1, f2, f3, f4, f5⟩ := hf it (by simp)
    have W := Walks.range (prog := X.prog) (w := X.w) (I.ok.hd hc) it lo 1 n
    refine W.item i s _ _ hg st λ v h' tk hv st' kk => ?_
    obtain ⟨t, rfl⟩ := hv
    have I1 : Inv X pins σ H { s with heap := h', toks := tk } := I.turned (λ b o hb e => kk b o (by simpa using hb) e) f0 f1 f3 f4 f5
    refine ⟨_, rfl, go_of (s := { s with heap := h', toks := tk }) (n := "range_iterator") st' rfl rfl (by decide) ⟨.int (lo + i), H, I1, ⟨t, ?_⟩, ⟨rfl, rfl⟩, st', λ b hb => (hf b hb).1⟩⟩
    rw [Int.mul_one]
  done := by
    intro X hP hw hK hc i pins s σ H E I hf st hg
    subst hP hw hK
    obtain ⟨f0, f1, f2, f3, f4, f5⟩ := hf it (by simp)
    exact wpAny_pyNext_range_end (I.ok.hd hc) st (by have : n <= i := hg; omega) λ h' eb => ⟨rfl, I.turned (t' := s.toks) (λ b o hb e => eb b o hb e) f0 f1 f3 f4 f5⟩
  self := λ _ _ _ _ _ st h => wpAny_pyIter_rangeiter st h
end L2
namespace L2
open PySem PySem.Spec PyProof.Rows
section
variable {X : Cx} {tg : Expr}
theorem a3n {pins : List (Addr × Obj)} {σ : St} {H : Hp} {s : Shared} {R : It -> Hp -> Prop} {E : Value -> Shared -> Prop} {lo hi : Int} {t u v : Tok} {tk : Nat} (I : Inv X pins σ H s) (h1 : -(2 ^ 62) <= lo) (h2 : lo < 2 ^ 62) (h3 : -(2 ^ 62) <= hi) (h4 : hi < 2 ^ 62)
    (q : R (Itr lo (hi - lo).toNat) H) : wpAny (model X.prog X.w) X.A (pyIter (.ref s.heap.objs.size)) (PIE X pins σ tg R) E { s with heap := s.heap.push { cls := .type "range", data := .fields #[.int lo t, .int hi u, .int 1 v] }, toks := tk } := by
  refine wpAny_pyIter_range (IsRange.new ..) (small_one h1 h2 h3 h4) ?_
  have I1 : Inv X pins σ H { s with heap := s.heap.push { cls := .type "range", data := .fields #[.int lo t, .int hi u, .int 1 v] }, toks := tk } := I.kept λ b o e => Heap.get?_push_of_some _ e
  refine ⟨(s.heap.push { cls := .type "range", data := .fields #[.int lo t, .int hi u, .int 1 v] }).objs.size, [(s.heap.push { cls := .type "range", data := .fields #[.int lo t, .int hi u, .int 1 v] }).objs.size], _, _, H, rfl,
    I1.kept (t' := tk) λ b o e => Heap.get?_push_of_some _ e, a4u _ lo (hi - lo).toNat, ?_, λ b hb => ?_, q⟩
  . have e1 : lo + ((0 : Nat) : Int) * 1 = lo := by simp
    have e2 : (((hi - lo).toNat : Nat) : Int) - ((0 : Nat) : Int) = Builtin.Range.rangeSize lo hi 1 := by rw [rangeSize_one]; split <;> omega
    show IsRangeIter _ _ (lo + ((0 : Nat) : Int) * 1) ((((hi - lo).toNat : Nat) : Int) - ((0 : Nat) : Int)) 1
    rw [e1, e2]
    exact Heap.get?_push_size _ rfl
  . have e : b = (s.heap.push { cls := .type "range", data := .fields #[.int lo t, .int hi u, .int 1 v] }).objs.size := by simpa using hb
    subst e
    exact I1.fpOk (Nat.le_refl _) (I1.hok.fresh (Nat.le_refl _))
def tFor (wi : TI) (g : TG) (tb : TS) : TS := λ D σ H => wi σ H λ J H1 => ∃ W : Nat -> Nat -> St -> Hp -> Prop, (∃ m, W 0 m σ H1) /\ ∀ i m σ H, W i m σ H →
  (J.stop i H /\ D.nx σ H) \/ (J.go i H /\ ∃ N : St -> Hp -> Prop, (∀ σ' H', N σ' H' -> ∃ m', m' < m /\ W (i + 1) m' σ' H') /\ ∀ x H', J.yld i H x H' -> g x σ H' λ σ2 H2 => tb { D with nx := N, ct := N, bk := D.nx } σ2 H2)
def a0g (fp : List Addr) (h : Heap) : List (Addr × Obj) := fp.filterMap λ b => (h.get? b).map λ o => (b, o)
theorem J8 {fp : List Addr} {h : Heap} {b : Addr} {o : Obj} (hb : b ∈ fp) (e : h.get? b = some o) : (b, o) ∈ a0g fp h := List.mem_filterMap.mpr ⟨b, hb, by rw [e]; rfl⟩
theorem of_pinsAt {fp : List Addr} {h : Heap} {p : Addr × Obj} (hp : p ∈ a0g fp h) : p.1 ∈ fp /\ h.get? p.1 = some p.2 := by
  obtain ⟨b, hb, e⟩ := List.mem_filterMap.mp hp
  cases q : h.get? b with
  | none => rw [q] at e; cases e
  | some o =>
    rw [q] at e
    have e' : (b, o) = p := Option.some.inj e
    subst e'
    exact ⟨hb, q⟩
theorem Inv.pinned {pins : List (Addr × Obj)} {σ : St} {H : Hp} {s : Shared} {fp : List Addr} (I : Inv X pins σ H s) (hf : ∀ b ∈ fp, FpOk X pins H b) (ho : ∀ b ∈ fp, ∃ o, s.heap.get? b = some o /\ ∀ v, o.data ≠ .cell v) : Inv X (pins ++ a0g fp s.heap) σ H s :=
  I.pins_of λ p hp => (List.mem_append.mp hp).elim (λ z => I.pin p (List.mem_append_right _ z)) λ z => by
    obtain ⟨hb, e⟩ := of_pinsAt z
    obtain ⟨f0, f1, f2, _⟩ := hf p.1 hb
    obtain ⟨o, e', d⟩ := ho p.1 hb
    rw [e] at e'; cases e'
    exact ⟨e, f0, f1, f2, d⟩
theorem Inv.unpinned {pins pl : List (Addr × Obj)} {σ : St} {H : Hp} {s : Shared} (I : Inv X (pins ++ pl) σ H s) : Inv X pins σ H s := I.pins_of λ p hp => I.pin p (List.mem_append_right _ (List.mem_append_left _ hp))
theorem ps_for {iter : Expr} {body : List Stmt} {wi : TI} {g : TG} {tb : TS} {pos : Pos} (hp : PassesOwn (model X.prog X.w) X.A X.env X.xe) (hc : X.calm = true) (hi : PI X tg iter wi) (hg : PG X tg g) (hb : PSs X body tb)
    (hs : ∀ x, foldedSetIterable iter X.env x = pure x := by intro _; rfl) : PS X (.For tg iter body [] pos) (tFor wi g tb) := by
  intro pins s σ H D I h
  refine wpAny_For (thn (hi pins s σ H _ I h) λ v s1 h1 => thn h1 λ itv s2 h2 => ?_) hs
  obtain ⟨it, fp, tn, J, H2, e, I2, T, st2, f2, W, ⟨m0, w0⟩, turn⟩ := h2
  subst e
  have stat : ∀ {H' : Hp}, (∀ b ∈ fp, H' b = none) -> ∀ b ∈ fp, FpOk X pins H' b := λ hn b hb => ⟨hn b hb, (f2 b hb).2⟩
  refine codeAny_forLoop_any (λ n s' => ∃ i σ' H', Inv X pins σ' H' s' /\ tn i s'.heap /\ (∀ b ∈ fp, H' b = none) /\ W i n σ' H') ?_ m0 ⟨0, σ, H2, I2, st2, λ b hb => (f2 b hb).1, w0⟩
  rintro n s3 ⟨i, σ3, H3, I3, st3, fr3, w3⟩
  rcases turn i n σ3 H3 w3 with ⟨stop, qn⟩ | ⟨go, N, hN, step⟩
  . refine wpAny_passesOwn hp (thn (T.done X rfl rfl rfl hc i pins s3 σ3 H3 X.xe I3 (stat fr3) st3 stop) λ r s4 ⟨hr, I4⟩ => ?_)
    subst hr
    exact wpAny_execs_nil ⟨σ3, H3, I4, qn⟩
  . refine wpAny_passesOwn hp (thn (T.item X rfl rfl rfl hc i pins s3 σ3 H3 X.xe I3 (stat fr3) st3 go) λ r s4 ⟨u, hr, h4⟩ => ?_)
    subst hr
    refine wpAny_passesOwn hp (thn h4 λ _ s5 ⟨x, H5, I5, r5, y5, st5, fr5⟩ => ?_)
    have I5' := I5.pinned (stat fr5) (T.obj _ _ st5)
    refine wpAny_passesOwn hp (thn (hg _ s5 σ3 H5 x u _ I5' r5 (step x H5 y5)) λ _ s6 ⟨σ6, H6, I6, q6⟩ => ?_)
    refine wpAny_passesOwn hp (thn (hb _ s6 σ6 H6 _ I6 q6) λ f s7 q7 => ?_)
    have again : ∀ {σ7 : St} {H7 : Hp}, Inv X (pins ++ a0g fp s5.heap) σ7 H7 s7 -> N σ7 H7 -> ∃ m, m < n /\ ∃ i σ' H', Inv X pins σ' H' s7 /\ tn i s7.heap /\ (∀ b ∈ fp, H' b = none) /\ W i m σ' H' := λ {σ7 H7} I7 n7 => by
      obtain ⟨m', hm, w7⟩ := hN σ7 H7 n7
      refine ⟨m', hm, i + 1, σ7, H7, I7.unpinned, T.keep _ _ _ st5 λ b hb o e => (I7.pin (b, o) (List.mem_append_right _ (List.mem_append_right _ (J8 hb e)))).1, λ b hb => ?_, w7⟩
      obtain ⟨o, e, d⟩ := T.obj _ _ st5 b hb
      exact (I7.pin (b, o) (List.mem_append_right _ (List.mem_append_right _ (J8 hb e)))).2.1
    cases f with
    | next => obtain ⟨σ7, H7, I7, n7⟩ := q7; exact again I7 n7
    | cont => obtain ⟨σ7, H7, I7, n7⟩ := q7; exact again I7 n7
    | brk => obtain ⟨σ7, H7, I7, q7⟩ := q7; exact ⟨σ7, H7, I7.unpinned, q7⟩
    | ret v => obtain ⟨x7, σ7, H7, I7, r7, q7⟩ := q7; exact ⟨x7, σ7, H7, I7.unpinned, r7, q7⟩
end
theorem for_range {lo : Int} {n : Nat} {g : TG} {tb : TS} {D : Ends} {σ : St} {H : Hp} (Pv : Nat -> St -> Hp -> Prop) (h0 : Pv 0 σ H)
    (hs : ∀ i σ H, i < n -> Pv i σ H -> g (.int (lo + i)) σ H λ σ2 H2 => tb { D with nx := Pv (i + 1), ct := Pv (i + 1), bk := D.nx } σ2 H2) (hd : ∀ σ H, Pv n σ H -> D.nx σ H) :
    ∃ W : Nat -> Nat -> St -> Hp -> Prop, (∃ m, W 0 m σ H) /\ ∀ i m σ H, W i m σ H →
      ((Itr lo n).stop i H /\ D.nx σ H) \/ ((Itr lo n).go i H /\ ∃ N : St -> Hp -> Prop, (∀ σ' H', N σ' H' -> ∃ m', m' < m /\ W (i + 1) m' σ' H') /\ ∀ x H', (Itr lo n).yld i H x H' -> g x σ H' λ σ2 H2 => tb { D with nx := N, ct := N, bk := D.nx } σ2 H2) := by
  refine ⟨λ i m σ H => m = n - i /\ i <= n /\ Pv i σ H, ⟨n, by simp, Nat.zero_le _, h0⟩, ?_⟩
  rintro i m σ H ⟨rfl, hi, p⟩
  by_cases hlt : i < n
  . refine .inr ⟨hlt, Pv (i + 1), λ σ' H' p' => ⟨n - (i + 1), by omega, rfl, hlt, p'⟩, λ x H' y => ?_⟩
    obtain ⟨e, y⟩ := y
    subst e y
    exact hs i σ _ hlt p
  . have e : i = n := by omega
    subst e
    exact .inl ⟨Nat.le_refl _, hd σ H p⟩
end L2
namespace L2
open PySem PySem.Spec PyProof.Rows
abbrev R2 := V -> V -> Hp -> VK -> Prop
def OpR (X : Cx) (f : Value -> Value -> Sem Value) (r : R2) : Prop :=
  ∀ (pins : List (Addr × Obj)) (s : Shared) (σ : St) (H : Hp) (x y : V) (v u : Value) (Q : VK), Inv X pins σ H s -> RelV x v -> RelV y u -> r x y H Q →
    wpAny (model X.prog X.w) X.A (f v u) (EP X pins σ Q) X.xe s
def UnR (X : Cx) (f : Value -> Sem Value) (r : V -> Hp -> VK -> Prop) : Prop :=
  ∀ (pins : List (Addr × Obj)) (s : Shared) (σ : St) (H : Hp) (x : V) (v : Value) (Q : VK), Inv X pins σ H s -> RelV x v -> r x H Q →
    wpAny (model X.prog X.w) X.A (f v) (EP X pins σ Q) X.xe s
def CallR (X : Cx) (f : Value) (r : List V -> Hp -> VK -> Prop) : Prop :=
  ∀ (pins : List (Addr × Obj)) (s : Shared) (σ : St) (H : Hp) (xs : List V) (us : List Value) (Q : VK), Inv X pins σ H s -> Vals xs us -> r xs H Q →
    wpAny (model X.prog X.w) X.A (call f us) (EP X pins σ Q) X.xe s
def TruR (X : Cx) (r : V -> Hp -> (Bool -> Hp -> Prop) -> Prop) : Prop :=
  ∀ (pins : List (Addr × Obj)) (s : Shared) (σ : St) (H : Hp) (x : V) (v : Value) (Q : Bool -> Hp -> Prop), Inv X pins σ H s -> RelV x v -> r x H Q →
    wpAny (model X.prog X.w) X.A (truthy v) (TP X pins σ Q) X.xe s
def tOp (r : R2) (ta tb : TE) : TE := λ σ H Q => ta σ H λ x H1 => tb σ H1 λ y H2 => r x y H2 Q
def tUn (r : V -> Hp -> VK -> Prop) (ta : TE) : TE := λ σ H Q => ta σ H λ x H1 => r x H1 Q
def rI (C : Int -> Int -> Prop) (g : Int -> Int -> V) : R2 := λ x y H Q => ∃ i j, x = .int i /\ y = .int j /\ C i j /\ Q (g i j) H
def rI0 (g : Int -> Int -> V) : R2 := λ x y H Q => ∃ i j, x = .int i /\ y = .int j /\ Q (g i j) H
def rU (g : Int -> V) : V -> Hp -> VK -> Prop := λ x H Q => ∃ i, x = .int i /\ Q (g i) H
section
variable {X : Cx} {a b c : Expr} {ta tb tc : TE} {pos : Pos}
theorem binT (ha : PE X a ta) (hb : PE X b tb) {pins : List (Addr × Obj)} {s : Shared} {σ : St} {H : Hp} {R : V -> V -> Hp -> Prop} (I : Inv X pins σ H s)
    (h : ta σ H λ x H1 => tb σ H1 λ y H2 => R x y H2) {Q : Value -> Shared -> Prop} {f : Value -> Value -> Sem Value}
    (hf : ∀ v u s2 x y H2, Inv X pins σ H2 s2 -> RelV x v -> RelV y u -> R x y H2 -> wpAny (model X.prog X.w) X.A (f v u) Q X.xe s2) :
    wpAny (model X.prog X.w) X.A (eval a X.env) (λ v s₁ => wpAny (model X.prog X.w) X.A (eval b X.env) (λ u s₂ => wpAny (model X.prog X.w) X.A (f v u) Q X.xe s₂) X.xe s₁) X.xe s := by
  refine thn (ha pins s σ H _ I h) λ v s1 ⟨x, H1, I1, r1, q1⟩ => ?_
  refine thn (hb pins s1 σ H1 _ I1 q1) λ u s2 ⟨y, H2, I2, r2, q2⟩ => ?_
  exact hf v u s2 x y H2 I2 r1 r2 q2
theorem pe_op {op : Operator} {r : R2} (ho : OpR X (binaryOp op) r) (ha : PE X a ta) (hb : PE X b tb) : PE X (.BinOp a op b pos) (tOp r ta tb) := by
  intro pins s σ H Q I h
  exact wpAny_BinOp (binT ha hb I h λ v u s2 x y H2 I2 rx ry q => ho pins s2 σ H2 x y v u Q I2 rx ry q)
theorem pe_un {op : UnaryOp} {r : V -> Hp -> VK -> Prop} (ho : UnR X (unaryOp op) r) (ha : PE X a ta) : PE X (.UnaryOp op a pos) (tUn r ta) := by
  intro pins s σ H Q I h
  exact UnaryOp_ (thn (ha pins s σ H _ I h) λ v s1 ⟨x, H1, I1, r1, q1⟩ => ho pins s1 σ H1 x v Q I1 r1 q1)
theorem opI {f : Value -> Value -> Sem Value} {C : Int -> Int -> Prop} {g : Int -> Int -> Int}
    (rule : ∀ (i j : Int) (t u : Tok) (s : Shared) (Q : Value -> Shared -> Prop) (E : Value -> Shared -> Prop), C i j -> Q (.int (g i j) s.toks) { s with toks := s.toks + 1 } -> wpAny (model X.prog X.w) X.A (f (.int i t) (.int j u)) Q E s) :
    OpR X f (rI C λ i j => .int (g i j)) := by
  intro pins s σ H x y v u Q I rx ry h
  obtain ⟨i, j, rfl, rfl, hc, q⟩ := h
  obtain ⟨t, rfl⟩ := rx
  obtain ⟨t', rfl⟩ := ry
  exact rule i j t t' s _ _ hc ⟨.int (g i j), H, I.tok _, ⟨_, rfl⟩, q⟩
theorem opI0 {f : Value -> Value -> Sem Value} {g : Int -> Int -> Int}
    (rule : ∀ (i j : Int) (t u : Tok) (s : Shared) (Q : Value -> Shared -> Prop) (E : Value -> Shared -> Prop), Q (.int (g i j) s.toks) { s with toks := s.toks + 1 } -> wpAny (model X.prog X.w) X.A (f (.int i t) (.int j u)) Q E s) :
    OpR X f (rI0 λ i j => .int (g i j)) := by
  intro pins s σ H x y v u Q I rx ry h
  obtain ⟨i, j, rfl, rfl, q⟩ := h
  obtain ⟨t, rfl⟩ := rx
  obtain ⟨t', rfl⟩ := ry
  exact rule i j t t' s _ _ ⟨.int (g i j), H, I.tok _, ⟨_, rfl⟩, q⟩
theorem opB0 {f : Value -> Value -> Sem Value} {g : Int -> Int -> Bool}
    (rule : ∀ (i j : Int) (t u : Tok) (s : Shared) (Q : Value -> Shared -> Prop) (E : Value -> Shared -> Prop), Q (.bool (g i j)) s -> wpAny (model X.prog X.w) X.A (f (.int i t) (.int j u)) Q E s) :
    OpR X f (rI0 λ i j => .bl (g i j)) := by
  intro pins s σ H x y v u Q I rx ry h
  obtain ⟨i, j, rfl, rfl, q⟩ := h
  obtain ⟨t, rfl⟩ := rx
  obtain ⟨t', rfl⟩ := ry
  exact rule i j t t' s _ _ ⟨.bl (g i j), H, I, rfl, q⟩
def CPow (i j : Int) : Prop := 0 <= j /\ j <= 1000000 /\ i.natAbs < 2 ^ 64
def CMul (i j : Int) : Prop := (-(2 ^ 64) < i /\ i < 2 ^ 64) \/ (-(2 ^ 64) < j /\ j < 2 ^ 64)
theorem CMul.ok {i j : Int} (h : CMul i j) : IntMulOk i j := by
  rcases h with ⟨h1, h2⟩ | ⟨h1, h2⟩
  . exact .of_left (intBits_le_64 h1 h2)
  . exact .of_right (intBits_le_64 h1 h2)
theorem op_add : OpR X (binaryOp .Add) (rI0 λ i j => .int (i + j)) := opI0 λ _ _ _ _ _ _ _ q => add_int q
theorem op_sub : OpR X (binaryOp .Sub) (rI0 λ i j => .int (i - j)) := opI0 λ _ _ _ _ _ _ _ q => sub_int q
theorem op_mod : OpR X (binaryOp .Mod) (rI (λ _ j => 0 < j) λ i j => .int (i % j)) := opI λ i j _ _ _ _ _ hc q => by
  have h1 : (0 : Int) < j := hc
  exact mod_int' (by omega) (by rw [Int.fmod_eq_emod_of_nonneg i (by omega)]; exact q)
theorem op_pow : OpR X (binaryOp .Pow) (rI CPow λ i j => .int (i ^ j.toNat)) := opI λ _ _ _ _ _ _ _ hc q => pow_int_small hc.1 hc.2.1 hc.2.2 q
theorem unI {f : Value -> Sem Value} {g : Int -> Int}
    (rule : ∀ (i : Int) (t : Tok) (s : Shared) (Q : Value -> Shared -> Prop) (E : Value -> Shared -> Prop), Q (.int (g i) s.toks) { s with toks := s.toks + 1 } -> wpAny (model X.prog X.w) X.A (f (.int i t)) Q E s) :
    UnR X f (rU λ i => .int (g i)) := by
  intro pins s σ H x v Q I rx h
  obtain ⟨i, rfl, q⟩ := h
  obtain ⟨t, rfl⟩ := rx
  exact rule i t s _ _ ⟨.int (g i), H, I.tok _, ⟨_, rfl⟩, q⟩
theorem un_neg : UnR X (unaryOp .USub) (rU λ i => .int (-i)) := unI λ _ _ _ _ _ q => neg_int q
end
section
variable {X : Cx} {a b c : Expr} {ta tb tc : TE} {pos : Pos}
theorem U6 {pins : List (Addr × Obj)} {σ : St} {H : Hp} {s : Shared} {Q : VK} {k k' : Bool} (I : Inv X pins σ H s) (q : Q (.bl k) H) (e : k = k') : EP X pins σ Q (.bool k') s := by
  subst e
  exact ⟨.bl k, H, I, rfl, q⟩
theorem op_lt : OpR X (compareOp .Lt) (rI0 λ i j => .bl (decide (i < j))) := opB0 λ _ _ _ _ _ _ _ q => lt_int q
theorem op_le : OpR X (compareOp .LtE) (rI0 λ i j => .bl (decide (i <= j))) := opB0 λ _ _ _ _ _ _ _ q => le_int q
theorem op_gt : OpR X (compareOp .Gt) (rI0 λ i j => .bl (decide (j < i))) := opB0 λ _ _ _ _ _ _ _ q => gt_int q
theorem op_ge : OpR X (compareOp .GtE) (rI0 λ i j => .bl (decide (j <= i))) := opB0 λ _ _ _ _ _ _ _ q => ge_int q
theorem op_lt_str : OpR X (compareOp .Lt) (λ x y H Q => ∃ i j, x = .str i /\ y = .str j /\ Q (.bl (decide (i.cps.toList < j.cps.toList))) H) := by
  intro pins s σ H x y v u Q I rx ry h
  obtain ⟨i, j, rfl, rfl, q⟩ := h
  obtain ⟨t, rfl⟩ := rx
  obtain ⟨t', rfl⟩ := ry
  exact lt_str (U6 I q rfl)
theorem op_in_str : OpR X (compareOp .In) (λ x y H Q => ∃ i j, x = .str i /\ y = .str j /\ Q (.bl (!(Builtin.Str.occurrences j i 0 j.length 1).isEmpty)) H) := by
  intro pins s σ H x y v u Q I rx ry h
  obtain ⟨i, j, rfl, rfl, q⟩ := h
  obtain ⟨t, rfl⟩ := rx
  obtain ⟨t', rfl⟩ := ry
  exact in_str (U6 I q rfl)
theorem op_isN : OpR X (compareOp .Is) (λ x y H Q => y = .non /\ Q (.bl (decide (x = .non))) H) := by
  intro pins s σ H x y v u Q I rx ry h
  obtain ⟨rfl, q⟩ := h
  cases ry
  refine is_none_gen (U6 I q ?_)
  cases x <;> first
    | (cases rx; rfl)
    | (obtain ⟨t, rfl⟩ := rx; rfl)
theorem op_notN : OpR X (compareOp .IsNot) (λ x y H Q => y = .non /\ Q (.bl (!decide (x = .non))) H) := by
  intro pins s σ H x y v u Q I rx ry h
  obtain ⟨rfl, q⟩ := h
  cases ry
  refine isnot_none_gen (U6 I q ?_)
  cases x <;> first
    | (cases rx; rfl)
    | (obtain ⟨t, rfl⟩ := rx; rfl)
theorem a2p : OpR X (compareOp .NotIn) (λ x y H Q => ∃ i j, x = .str i /\ y = .str j /\ Q (.bl (!(!(Builtin.Str.occurrences j i 0 j.length 1).isEmpty))) H) := by
  intro pins s σ H x y v u Q I rx ry h
  obtain ⟨i, j, rfl, rfl, q⟩ := h
  obtain ⟨t, rfl⟩ := rx
  obtain ⟨t', rfl⟩ := ry
  exact notIn_str (U6 I q rfl)
theorem OpR.or {f : Value -> Value -> Sem Value} {r r' : R2} (h : OpR X f r) (h' : OpR X f r') : OpR X f (λ x y H Q => r x y H Q \/ r' x y H Q) := by
  intro pins s σ H x y v u Q I rx ry q
  rcases q with q | q
  . exact h pins s σ H x y v u Q I rx ry q
  . exact h' pins s σ H x y v u Q I rx ry q
theorem pe_cmpR {op : CmpOp} {r : R2} (ho : OpR X (compareOp op) r) (ha : PE X a ta) (hb : PE X b tb) (hm : behindInMarks op b = false) : PE X (.Compare a [op] [b] pos) (tOp r ta tb) := by
  intro pins s σ H Q I h
  exact wpAny_Compare1 (binT ha hb I h λ v u s2 x y H2 I2 rx ry q => ho pins s2 σ H2 x y v u Q I2 rx ry q) hm
def tTest (t : TE) : TT := λ σ H Q => t σ H λ x H' => ∃ k, x = .bl k /\ Q k H'
theorem pt_cmpR {op : CmpOp} {r : R2} (ho : OpR X (compareOp op) r) (ha : PE X a ta) (hb : PE X b tb) (hm : behindInMarks op b = false) : PT X (.Compare a [op] [b] pos) (tTest (tOp r ta tb)) := by
  intro pins s σ H Q I h
  refine wpAny_isTrue_Compare1 (thn (ha pins s σ H _ I h) λ v s1 ⟨x, H1, I1, r1, q1⟩ => thn (hb pins s1 σ H1 _ I1 q1) λ u s2 ⟨y, H2, I2, r2, q2⟩ =>
    thn (ho pins s2 σ H2 x y v u _ I2 r1 r2 q2) λ c s3 ⟨z, H3, I3, r3, k, e, q3⟩ => ?_) hm
  subst e
  cases r3
  exact wpAny_truthy_bool ⟨H3, I3, q3⟩
def tChain (r r' : R2) (ta tb tc : TE) : TE := λ σ H Q => ta σ H λ x H1 => tb σ H1 λ y H2 => r x y H2 λ z H3 => ∃ k, z = .bl k ∧
  (if k = true then tc σ H3 λ w' H4 => r' y w' H4 Q else Q (.bl false) H3)
theorem pe_chain {op op' : CmpOp} {r r' : R2} (ho : OpR X (compareOp op) r) (ho' : OpR X (compareOp op') r') (ha : PE X a ta) (hb : PE X b tb) (hc : PE X c tc)
    (hm : lastMarks [op, op'] [b, c] = false := by with_unfolding_all rfl) : PE X (.Compare a [op, op'] [b, c] pos) (tChain r r' ta tb tc) := by
  intro pins s σ H Q I h
  refine Compare_chain (thn (ha pins s σ H _ I h) λ v s1 ⟨x, H1, I1, r1, q1⟩ => chain_link (thn (hb pins s1 σ H1 _ I1 q1) λ u s2 ⟨y, H2, I2, r2, q2⟩ =>
    thn (ho pins s2 σ H2 x y v u _ I2 r1 r2 q2) λ d s3 ⟨z, H3, I3, r3, k, e, q3⟩ => ?_)) hm
  subst e
  cases r3
  refine wpAny_truthy_bool ?_
  cases k with
  | false => exact ite_ff ⟨.bl false, H3, I3, rfl, q3⟩
  | true => exact ite_tt (chain_last (thn (hc pins s3 σ H3 _ I3 q3) λ w' s4 ⟨z', H4, I4, r4, q4⟩ => ho' pins s4 σ H4 y z' u w' Q I4 r2 r4 q4))
theorem pt_chain {op op' : CmpOp} {r r' : R2} (ho : OpR X (compareOp op) r) (ho' : OpR X (compareOp op') r') (ha : PE X a ta) (hb : PE X b tb) (hc : PE X c tc)
    (hm : lastMarks [op, op'] [b, c] = false := by with_unfolding_all rfl) : PT X (.Compare a [op, op'] [b, c] pos) (tTest (tChain r r' ta tb tc)) := by
  intro pins s σ H Q I h
  refine isTrue_chain (thn (ha pins s σ H _ I h) λ v s1 ⟨x, H1, I1, r1, q1⟩ => test_link (thn (hb pins s1 σ H1 _ I1 q1) λ u s2 ⟨y, H2, I2, r2, q2⟩ =>
    thn (ho pins s2 σ H2 x y v u _ I2 r1 r2 q2) λ d s3 ⟨z, H3, I3, r3, k, e, q3⟩ => ?_)) hm
  subst e
  cases r3
  refine wpAny_truthy_bool ?_
  cases k with
  | false =>
    obtain ⟨k', e', q'⟩ := q3
    cases e'
    exact ite_ff ⟨H3, I3, q'⟩
  | true =>
    refine ite_tt (test_last (thn (hc pins s3 σ H3 _ I3 q3) λ w' s4 ⟨z', H4, I4, r4, q4⟩ => thn (ho' pins s4 σ H4 y z' u w' _ I4 r2 r4 q4) λ d' s5 ⟨z2, H5, I5, r5, k2, e2, q5⟩ => ?_))
    subst e2
    cases r5
    exact wpAny_truthy_bool ⟨H5, I5, q5⟩
def TruV (K : PySem.W.Frag) (x : V) (H : Hp) (k : Bool) : Prop :=
  match x with
  | .non => k = false
  | .bl b => k = b
  | .int i => k = (i != 0)
  | .str y => y.length <= sizeLine /\ k = ((y.length : Int) != 0)
  | .byt y => y.size <= sizeLine /\ k = ((y.size : Int) != 0)
  | .ref p => (∃ xs, SqL K H p xs /\ k = !xs.isEmpty) \/ (∃ xs, SqT K H p xs /\ k = !xs.isEmpty) \/ ∃ kvs, H p = some (.dK kvs) /\ k = !kvs.isEmpty
  | _ => False
theorem a4v {κ : Type} {kvs : List (κ × V)} {vs : List (κ × Value)} (r : KV kvs vs) : (!vs.isEmpty) = !kvs.isEmpty := by
  cases r <;> rfl
theorem a0h {xs : List V} {its : List Value} (r : Vals xs its) : (!its.toArray.isEmpty) = !xs.isEmpty := by
  cases r <;> simp
theorem Q8 : (sizeLine : Nat) < 2 ^ 63 := by rw [sizeLine_eq]; decide
theorem tru_ok : TruR X (λ x H Q => ∃ k, TruV X.K x H k /\ Q k H) := by
  intro pins s σ H x v Q I rx h
  obtain ⟨k, e, q⟩ := h
  have hl := Q8
  have hs : sizeLine = 16777216 := sizeLine_eq
  cases x with
  | non =>
    cases rx
    have e' : k = false := e
    subst e'
    exact truthy_none ⟨H, I, q⟩
  | bl b =>
    cases rx
    have e' : k = b := e
    subst e'
    exact wpAny_truthy_bool ⟨H, I, q⟩
  | int i =>
    obtain ⟨t, rfl⟩ := rx
    have e' : k = (i != 0) := e
    subst e'
    exact PySem.P.truthy_int ⟨H, I, q⟩
  | str y =>
    obtain ⟨t, rfl⟩ := rx
    obtain ⟨hy, e'⟩ : y.length <= sizeLine /\ k = ((y.length : Int) != 0) := e
    subst e'
    exact PySem.P.truthy_str (by omega) ⟨H, I.tok _, q⟩
  | byt y =>
    obtain ⟨t, rfl⟩ := rx
    obtain ⟨hy, e'⟩ : y.size <= sizeLine /\ k = ((y.size : Int) != 0) := e
    subst e'
    exact PySem.W.truthy_bytes (by omega) ⟨H, I.tok _, q⟩
  | ref p =>
    cases rx
    have e' : (∃ xs, SqL X.K H p xs /\ k = !xs.isEmpty) \/ (∃ xs, SqT X.K H p xs /\ k = !xs.isEmpty) \/ ∃ kvs, H p = some (.dK kvs) /\ k = !kvs.isEmpty := e
    rcases e' with ⟨xs, hx, e'⟩ | ⟨xs, hx, e'⟩ | ⟨kvs, hx, e'⟩
    . subst e'
      obtain ⟨its, r, pl, hz⟩ := I.list hx
      have hlen := r.length
      exact wpAny_truthy_list pl.isList (by simp only [List.size_toArray]; omega) ⟨H, I.tok _, by rw [a0h r]; exact q⟩
    . subst e'
      obtain ⟨its, r, pl, hz⟩ := I.tuple hx
      have hlen := r.length
      exact truthy_tuple pl (by simp only [List.size_toArray]; omega) ⟨H, I.tok _, by rw [a0h r]; exact q⟩
    . subst e'
      obtain ⟨hz, hS, vs, r, m⟩ : kvs.length <= sizeLine /\ (p == sysModules) = false /\ ∃ vs, KV kvs vs /\ s.heap.DictOf (e7 X.prog X.w) p vs := I.hok p _ hx
      have hlen : kvs.length = vs.length := Paired.length r
      exact wpAny_truthy_dict hS m (by omega) ⟨H, I.tok _, by rw [a4v r]; exact q⟩
  | _ => exact (show False from e).elim
theorem a4w : OpR X (binaryOp .Add) (λ x y H Q => ∃ i j, x = .str i /\ y = .str j /\ i.length + j.length <= sizeLine /\ Q (.str (i ++ j)) H) := by
  intro pins s σ H x y v u Q I rx ry h
  obtain ⟨i, j, rfl, rfl, hz, q⟩ := h
  obtain ⟨t, rfl⟩ := rx
  obtain ⟨t', rfl⟩ := ry
  exact add_str (λ t' tk => ⟨.str (i ++ j), H, I.tok _, ⟨_, rfl⟩, q⟩) hz
theorem x0 {x : V} {us : List Value} (r : Vals [x] us) : ∃ u, us = [u] /\ RelV x u := by
  cases r with
  | cons r1 r2 => cases r2; exact ⟨_, rfl, r1⟩
theorem a1o {x y : V} {us : List Value} (r : Vals [x, y] us) : ∃ u w', us = [u, w'] /\ RelV x u /\ RelV y w' := by
  cases r with
  | cons r1 r2 =>
    cases r2 with
    | cons r3 r4 => cases r4; exact ⟨_, _, rfl, r1, r3⟩
theorem a1p : CallR X (.type "int") (λ xs H Q => (∃ i, xs = [.int i] /\ Q (.int i) H) \/ ∃ k, xs = [.bl k] /\ Q (.int (if k then 1 else 0)) H) := by
  intro pins s σ H xs us Q I r h
  rcases h with ⟨i, rfl, q⟩ | ⟨k, rfl, q⟩
  . obtain ⟨u, rfl, t, rfl⟩ := x0 r
    exact call_int_int ⟨.int i, H, I, ⟨_, rfl⟩, q⟩
  . obtain ⟨u, rfl, r1⟩ := x0 r
    cases r1
    exact call_int_bool ⟨.int (if k then 1 else 0), H, I.tok _, ⟨_, rfl⟩, q⟩
theorem a2q : CallR X (.type "str") (λ xs H Q => ∃ i, xs = [.int i] /\ i.natAbs.log2 < 1920 /\ Q (.str (toString i)) H) := by
  intro pins s σ H xs us Q I r h
  obtain ⟨i, rfl, hz, q⟩ := h
  obtain ⟨u, rfl, t, rfl⟩ := x0 r
  exact PySem.P.str_of_int hz ⟨.str _, H, I.tok _, ⟨_, rfl⟩, q⟩
end
end L2
namespace L2
open PySem PySem.Spec PyProof.Rows
structure ObjM (h : Heap) (x dx C : Addr) (mA : Str -> Option Value) : Prop where
  obj : h.get? x = some (PySem.W.instObj C dx)
  ns : h.Ns1 dx mA
  ne : dx ≠ x
theorem lookIn_ns {h : Heap} {dx : Addr} {mA : Str -> Option Value} (n : h.Ns1 dx mA) : ∃ od, h.get? dx = some od /\ ∀ name, PySem.W.lookIn name od = some (mA name) := by
  obtain ⟨o, es, ep, ho, hd, hk, _, hm⟩ := n
  refine ⟨o, ho, λ name => ?_⟩
  have e := hm name
  unfold nsFind findBy at e
  rw [<- Array.find?_toList] at e
  unfold PySem.W.lookIn
  rw [hd]
  dsimp only
  split
  . rename_i y q
    rw [q] at e
    exact congrArg some e
  . rename_i q
    rw [q] at e
    have a : es.toList.any (·.refKey) = false := by
      rw [List.any_eq_false]
      intro y hy
      obtain ⟨z, t, hkey⟩ := hk y (Array.mem_toList_iff.mp hy)
      simp [DictEntry.refKey, hkey]
    have a' : ¬ es.toList.any (·.refKey) = true := by rw [a]; exact Bool.false_ne_true
    rw [if_neg a']
    exact congrArg some e
theorem ObjM.look {h : Heap} {x dx C : Addr} {mA : Str -> Option Value} (I : ObjM h x dx C mA) : ∃ od, PySem.W.InstAt h x (PySem.W.instObj C dx) C (some od) /\ ∀ name, PySem.W.lookIn name od = some (mA name) :=
  let ⟨od, ho, hl⟩ := lookIn_ns I.ns
  ⟨od, ⟨I.obj, rfl, rfl, ho⟩, hl⟩
section
variable {prog : Program} {w : World} {A : Around} {E : Value -> Shared -> Prop} {s : Shared} {K : PySem.W.Frag} {x dx C f : Addr} {mA : Str -> Option Value} {name : Str} {v : Value}
theorem get_map {expr : Bool} {Q : Value -> Shared -> Prop} (X : K.In s.heap) (I : ObjM s.heap x dx C mA) (hg : PySem.W.plainGet K C name = true) (hh : PySem.W.hasDictIn K C = true)
    (ha : PySem.W.findIn K (.ref C) name = some none) (hv : mA name = some v) (hv' : PySem.W.handedIn v = true) (h : Q v { s with toks := s.toks + 1 }) :
    wpAny (model prog w) A (getAttr (.ref x) name expr) Q E s := by
  obtain ⟨od, J, hl⟩ := I.look
  exact PySem.W.get_value X J (PySem.W.plainGet_of hg).1 (PySem.W.findObj_own hh ha rfl (by rw [hl, hv])) hv' h
theorem get_meth {pl : Sem Bool} {Q : Value × List Value -> Shared -> Prop} (X : K.In s.heap) (I : ObjM s.heap x dx C mA) (hg : PySem.W.plainGet K C name = true)
    (hf : PySem.W.findIn K (.ref C) name = some (some (.ref f))) (ht : PySem.W.isFn K (.ref f) = true) (hv : mA name = none) (h : Q (.ref f, [.ref x]) s) :
    wpAny (model prog w) A (getMethod (.ref x) name pl) Q E s := by
  obtain ⟨od, J, hl⟩ := I.look
  exact PySem.W.method_fn X J (PySem.W.plainGet_of hg).1 (PySem.W.plainGet_of hg).2 hf (beq_iff_eq.mp ht) (by show (PySem.W.lookIn name od).map (·.isSome) = some false; rw [hl, hv]; rfl) h
theorem set_map {ns : List Str} {Q : Unit -> Shared -> Prop} (X : K.In s.heap) (I : ObjM s.heap x dx C mA)
    (hs : PySem.W.findIn K (.ref C) "__setattr__" = some (some (.builtin "object.__setattr__"))) (hp : PySem.W.plainOver K C = true) (ht : PySem.W.takerIn K C name = some none) (hh : PySem.W.hasDictIn K C = true)
    (hw : PySem.Within mA ns) (hsz : ns.length <= sizeLine)
    (h : ∀ h', ObjM h' x dx C (λ y => if y = name then some v else mA y) -> Heap.SameBut dx s.heap h' -> Q () { s with heap := h', toks := s.toks + 2 }) :
    wpAny (model prog w) A (setAttr (.ref x) name v) Q E s := by
  obtain ⟨od, J, hl⟩ := I.look
  refine PySem.W.set_plain X J hs (PySem.W.osa_open (s := { s with toks := s.toks + 1 }) (r := none) X J hp ht λ b => ?_)
  obtain ⟨cd, hc, hd'⟩ := PySem.W.any_some hh
  have hx : s.heap.get? x = some ⟨.ref C, some dx, .plain, #[]⟩ := I.obj
  refine wpAny_bind (wpAny_pure (wpAny_bind (wpAny_bind (wpAny_loadPart hx (wpAny_bind (PySem.W.Looks.here (s := { s with toks := s.toks + 1 }) (PySem.W.looks_clsIn X hc) ?_))))))
  rw [hd']
  refine wpAny_pure (a := some dx) (wpAny_bind (wpAny_pure (wpAny_bind ?_)))
  refine wpAny_nsSet1 (s := { s with toks := s.toks + 1 }) I.ns λ h' hn2 hs2 => ?_
  obtain ⟨oD, esD, epD, hoD, hdD, hcD⟩ := hn2.count (PySem.Within.cons name v hw)
  refine wpAny_bind (wpAny_lookBehind hoD (by rw [hdD]; exact pastItsLine_dict (Nat.le_trans hcD (by rw [List.length_cons]; omega))) ?_)
  exact wpAny_pure (h _ ⟨(hs2.2 _ (Ne.symm I.ne)).trans I.obj, hn2, I.ne⟩ hs2)
theorem a3o {R : Result -> Shared -> Prop} {vs : List Value} {kw : List (Str × Value)} (X : K.In s.heap) (hm : PySem.W.makesIn K C = true)
    (hi : PySem.W.findIn K (.ref C) "__init__" = some (some (.ref f))) (hf : PySem.W.typeIn K (.ref f) = some (.type "function"))
    (h : codeAny (model prog w) (A.under (.builtin "type.__call__" ⟨.ref C :: vs, kw⟩)) (.call (.ref f) ⟨.ref (s.heap.objs.size + 1) :: vs, kw⟩) (PySem.W.InitBack (s.heap.objs.size + 1) R)
      { s with heap := (s.heap.push PySem.W.emptyDict).push (PySem.W.instObj C s.heap.objs.size) }) :
    codeAny (model prog w) A (.call (.ref C) ⟨vs, kw⟩) R s := by
  obtain ⟨hh, g, d, t, os⟩ := s
  exact PySem.W.make_core (PySem.W.makes_of X hm) (PySem.W.looks_findIn X hi) (λ self => PySem.W.bind_fn X self hf) (.inl rfl) h
end
def F4 (f : Str) (v : V) : List (Str × V) -> List (Str × V)
  | [] => [(f, v)]
  | (g, x) :: r => if g = f then (g, v) :: r else (g, x) :: F4 f v r
theorem X0 (f g : Str) (v : V) : ∀ fs : List (Str × V), (F4 f v fs).lookup g = if g = f then some v else fs.lookup g
  | [] => by
    show List.lookup g [(f, v)] = _
    by_cases h : g = f
    . have hb : (g == f) = true := beq_iff_eq.mpr h
      simp only [List.lookup, hb, if_pos h]
    . have hb : (g == f) = false := beq_eq_false_iff_ne.mpr h
      simp only [List.lookup, hb, if_neg h]
  | (k, x) :: r => by
    have ih := X0 f g v r
    rw [show F4 f v ((k, x) :: r) = (if k = f then (k, v) :: r else (k, x) :: F4 f v r) from rfl]
    by_cases hk : k = f
    . rw [if_pos hk]
      by_cases h : g = k
      . have hb : (g == k) = true := beq_iff_eq.mpr h
        simp only [List.lookup, hb, if_pos (h.trans hk)]
      . have hb : (g == k) = false := beq_eq_false_iff_ne.mpr h
        simp only [List.lookup, hb, if_neg (λ e : g = f => h (e.trans hk.symm))]
    . rw [if_neg hk]
      by_cases h : g = k
      . have hb : (g == k) = true := beq_iff_eq.mpr h
        simp only [List.lookup, hb, if_neg (λ e : g = f => hk (h.symm.trans e))]
      . have hb : (g == k) = false := beq_eq_false_iff_ne.mpr h
        simp only [List.lookup, hb]
        exact ih
theorem U7 (f : Str) (v : V) : ∀ fs : List (Str × V), f ∈ (F4 f v fs).map (·.1) /\ ∀ g, g ∈ fs.map (·.1) -> g ∈ (F4 f v fs).map (·.1)
  | [] => ⟨by simp [F4], λ g h => by simp at h⟩
  | (k, x) :: r => by
    obtain ⟨i1, i2⟩ := U7 f v r
    rw [show F4 f v ((k, x) :: r) = (if k = f then (k, v) :: r else (k, x) :: F4 f v r) from rfl]
    by_cases hk : k = f
    . rw [if_pos hk]
      subst hk
      exact ⟨by simp, λ g h => by simpa using h⟩
    . rw [if_neg hk]
      refine ⟨?_, λ g h => ?_⟩
      . rw [List.map_cons]
        exact List.mem_cons_of_mem _ i1
      . rw [List.map_cons] at h ⊢
        rcases List.mem_cons.mp h with e | e
        . exact List.mem_cons.mpr (.inl e)
        . exact List.mem_cons_of_mem _ (i2 g e)
theorem X3 (f : Str) (v : V) : ∀ fs : List (Str × V), (F4 f v fs).length <= fs.length + 1
  | [] => by simp [F4]
  | (k, x) :: r => by
    have ih := X3 f v r
    rw [show F4 f v ((k, x) :: r) = (if k = f then (k, v) :: r else (k, x) :: F4 f v r) from rfl]
    by_cases hk : k = f
    . rw [if_pos hk, List.length_cons, List.length_cons]; omega
    . rw [if_neg hk, List.length_cons, List.length_cons]; omega
theorem RelO.some_of {v : V} {o : Option Value} (r : RelO (some v) o) : ∃ u, o = some u /\ RelV v u := by
  cases o with
  | none => exact (show False from r).elim
  | some u => exact ⟨u, rfl, r⟩
theorem RelO.none_of {o : Option Value} (r : RelO none o) : o = none := by
  cases o with
  | none => rfl
  | some u => exact (show False from r).elim
theorem handed_of {v : V} {u : Value} (r : RelV v u) : PySem.W.handedIn u = true := by
  cases v with
  | non => cases (show u = Value.none from r); rfl
  | bl b => cases (show u = Value.bool b from r); rfl
  | int i => obtain ⟨t, e⟩ := (show ∃ t, u = Value.int i t from r); cases e; rfl
  | str x => obtain ⟨t, e⟩ := (show ∃ t, u = Value.str x t from r); cases e; rfl
  | byt b => obtain ⟨t, e⟩ := (show ∃ t, u = Value.bytes b t from r); cases e; rfl
  | flt b => obtain ⟨t, e⟩ := (show ∃ t, u = Value.float b t from r); cases e; rfl
  | ref a => cases (show u = Value.ref a from r); rfl
  | ty n => cases (show u = Value.type n from r); rfl
section
variable {P : Program} {w : World} {H H' : Hp} {h h' : Heap} {a C dx : Addr} {fs fs' : List (Str × V)}
theorem Z5 (hok : HOk P w H h) (e : H a = some (.ins C dx fs)) : ∃ mA, ObjM h a dx C mA /\ (∀ f, RelO (fs.lookup f) (mA f)) /\ PySem.Within mA (fs.map (·.1)) /\ fs.length <= 1000 /\ H dx = some (.own a) := by
  obtain ⟨d, z, ne, ob, mA, n, r, q⟩ := (show ObjOk P w H h a (.ins C dx fs) from hok a _ e)
  exact ⟨mA, ⟨ob, n, ne⟩, r, q, z, d⟩
end
structure Cls (K : PySem.W.Frag) (C : Addr) : Prop where
  pg : PySem.W.plainGet K C Str.empty = true
  hd : PySem.W.hasDictIn K C = true
  po : PySem.W.plainOver K C = true
  sa : PySem.W.findIn K (.ref C) "__setattr__" = some (some (.builtin "object.__setattr__"))
theorem Cls.get {K : PySem.W.Frag} {C : Addr} (c : Cls K C) (f : Str) : PySem.W.plainGet K C f = true := c.pg
def NoAttr (K : PySem.W.Frag) (C : Addr) (f : Str) : Prop := PySem.W.findIn K (.ref C) f = some none
theorem NoAttr.taker {K : PySem.W.Frag} {C : Addr} {f : Str} (n : NoAttr K C f) : PySem.W.takerIn K C f = some none := by
  unfold PySem.W.takerIn
  rw [show PySem.W.findIn K (.ref C) f = some none from n]
  rfl
structure Meth (K : PySem.W.Frag) (C : Addr) (m : Str) (f : Addr) : Prop where
  at_ : PySem.W.findIn K (.ref C) m = some (some (.ref f))
  fn : PySem.W.isFn K (.ref f) = true
  kp : PySem.W.keepIn K (.ref f) = true
section
variable {X : Cx} {pins : List (Addr × Obj)} {σ : St} {H : Hp} {s : Shared} {a C dx : Addr} {fs : List (Str × V)} {f : Str} {v : V} {A : Around} {E : Value -> Shared -> Prop}
theorem a4x {b : Bool} {Q : Value -> Shared -> Prop} (I : Inv X pins σ H s) (e : H a = some (.ins C dx fs)) (c : Cls X.K C) (n : NoAttr X.K C f) (l : fs.lookup f = some v)
    (h : ∀ u s', Inv X pins σ H s' -> RelV v u -> Q u s') : wpAny (model X.prog X.w) A (getAttr (.ref a) f b) Q E s := by
  obtain ⟨mA, O, r, _, _, _⟩ := Z5 I.hok e
  obtain ⟨u, hu, ru⟩ := RelO.some_of (v := v) (o := mA f) (by rw [<- l]; exact r f)
  exact get_map I.kIn O (c.get f) c.hd n hu (handed_of ru) (h u _ (I.tok _) ru)
theorem a0i {m : Str} {g : Addr} {pl : Sem Bool} {Q : Value × List Value -> Shared -> Prop} (I : Inv X pins σ H s) (e : H a = some (.ins C dx fs)) (c : Cls X.K C) (k : Meth X.K C m g) (l : fs.lookup m = none)
    (h : Q (.ref g, [.ref a]) s) : wpAny (model X.prog X.w) A (getMethod (.ref a) m pl) Q E s := by
  obtain ⟨mA, O, r, _, _, _⟩ := Z5 I.hok e
  have hn : mA m = none := RelO.none_of (by rw [<- l]; exact r m)
  exact get_meth I.kIn O (c.get m) k.at_ k.fn hn h
theorem a4y {y : V} {u : Value} {Q : Unit -> Shared -> Prop} (I : Inv X pins σ H s) (e : H a = some (.ins C dx fs)) (c : Cls X.K C) (n : NoAttr X.K C f) (hl : fs.length < 1000) (ry : RelV y u)
    (h : ∀ s', Inv X pins σ (upd H a (.ins C dx (F4 f y fs))) s' -> Q () s') : wpAny (model X.prog X.w) A (setAttr (.ref a) f u) Q E s := by
  obtain ⟨mA, O, r, wi, _, ho⟩ := Z5 I.hok e
  have hz : (fs.map (·.1)).length <= sizeLine := by rw [List.length_map, sizeLine_eq]; omega
  refine set_map I.kIn O c.sa c.po n.taker c.hd wi hz λ h' O' sb => h _ ?_
  have hd : ∃ o, h'.get? dx = some o := let ⟨o, _, _, e', _⟩ := O'.ns; ⟨o, e'⟩
  refine I.write (x := a) (e := dx) (by rw [e]; exact True.intro) (.inr ho) (λ b q hb z => (sb.2 b hb).trans z) hd ?_
  refine ⟨by rw [b4 O.ne]; exact ho, ?_, O.ne, O'.obj, _, O'.ns, λ g => ?_, λ g hg => ?_⟩
  . have := X3 f y fs; omega
  . show RelO ((F4 f y fs).lookup g) (if g = f then some u else mA g)
    rw [X0]
    by_cases q : g = f
    . rw [if_pos q, if_pos q]; exact ry
    . rw [if_neg q, if_neg q]; exact r g
  . by_cases q : g = f
    . rw [q]; exact (U7 f y fs).1
    . refine (U7 f y fs).2 g (wi g λ z => hg ?_)
      show (if g = f then some u else mA g) = none
      rw [if_neg q]; exact z
theorem Inv.made (I : Inv X pins σ H s) : Inv X pins σ (upd (upd H s.heap.objs.size (.own (s.heap.objs.size + 1))) (s.heap.objs.size + 1) (.ins C s.heap.objs.size []))
    { s with heap := (s.heap.push PySem.W.emptyDict).push (PySem.W.instObj C s.heap.objs.size) } := by
  have e1 : (s.heap.push PySem.W.emptyDict).get? s.heap.objs.size = some PySem.W.emptyDict := Heap.get?_push_size s.heap rfl
  have e2 : ((s.heap.push PySem.W.emptyDict).push (PySem.W.instObj C s.heap.objs.size)).get? (s.heap.objs.size + 1) = some (PySem.W.instObj C s.heap.objs.size) := by
    have := Heap.get?_push_size (s.heap.push PySem.W.emptyDict) (o := PySem.W.instObj C s.heap.objs.size) rfl
    rwa [Heap.size_push] at this
  have e3 : (s.heap.push PySem.W.emptyDict).Ns s.heap.objs.size (λ _ => none) := ⟨PySem.W.emptyDict, #[], _, e1, rfl, (λ e he => absurd he (by simp)), λ _ => rfl⟩
  have I1 := I.laid (a := s.heap.objs.size) (o := .own (s.heap.objs.size + 1)) (h' := s.heap.push PySem.W.emptyDict) (t' := s.toks) (λ b u q => Heap.get?_push_of_some _ q) (Nat.le_refl _) ⟨_, e1⟩
  refine I1.laid (a := s.heap.objs.size + 1) (o := .ins C s.heap.objs.size []) (t' := s.toks) (λ b u q => Heap.get?_push_of_some _ q) (Nat.le_of_eq (Heap.size_push _ _)) ?_
  have ne : s.heap.objs.size ≠ s.heap.objs.size + 1 := Nat.ne_of_lt (Nat.lt_succ_self _)
  refine ⟨by rw [b4 ne, b6], Nat.zero_le _, ne, e2, λ _ => none, (Heap.Ns1.of_empty e3).at λ o q => Heap.get?_push_of_some _ q, λ _ => True.intro, λ y hy => absurd rfl hy⟩
theorem attr_of {prog : Program} {w : World} {env : Env} {e : Expr} {f : Str} {pos : Pos} {s : Shared} {Q : Value -> Shared -> Prop} (hb : attributeBase e f env (eval e env) = eval e env)
    (h : wpAny (model prog w) A (eval e env) (λ o s₁ => wpAny (model prog w) A (getAttr o f true) Q E s₁) E s) : wpAny (model prog w) A (eval (.Attribute e f pos) env) Q E s :=
  Attribute_any_ h (by rw [arm_eval_Attribute, hb])
end
def sFld (K : PySem.W.Frag) (ta tv : TE) (f : Str) : TS := λ D σ H => tv σ H λ y H1 => ta σ H1 λ x H2 => ∃ a C dx fs, x = .ref a /\ H2 a = some (.ins C dx fs) /\ Cls K C /\ NoAttr K C f /\ fs.length < 1000 ∧
  D.nx σ (upd H2 a (.ins C dx (F4 f y fs)))
section
variable {X : Cx} {o e value : Expr} {f : Str} {pos pos' tpos : Pos} {ta tv : TE}
theorem ps_fld (ha : PE X o ta) (hv : PE X value tv) (hs : swapsWith value (some (.Attribute o f pos')) pos.line X.env = pure false) : PS X (.Assign [.Attribute o f pos'] value pos) (sFld X.K ta tv f) := by
  intro pins s σ H D I h
  refine plainObj_wpAny_Assign_Attribute (thn (hv pins s σ H _ I h) λ u s1 ⟨y, H1, I1, ry, q⟩ => thn (ha pins s1 σ H1 _ I1 q) λ ov s2 ⟨x, H2, I2, rx, a, C, dx, fs, ex, ea, c, n, l, q2⟩ => ?_) hs
  subst ex
  obtain rfl : ov = Value.ref a := rx
  exact a4y I2 ea c n l ry λ s3 I3 => ⟨σ, _, I3, q2⟩
end
section
variable {X : Cx} {pins : List (Addr × Obj)} {σ : St} {H : Hp} {s : Shared} {A : Around} {E : Value -> Shared -> Prop} {Q : Value -> Shared -> Prop} {c : Value} {b : Bool}
inductive TyOf (K : PySem.W.Frag) (H : Hp) : V -> Value -> Prop where
  | non : TyOf K H .non (.type "NoneType")
  | bl (x : Bool) : TyOf K H (.bl x) (.type "bool")
  | int (i : Int) : TyOf K H (.int i) (.type "int")
  | str (x : Str) : TyOf K H (.str x) (.type "str")
  | flt (x : UInt64) : TyOf K H (.flt x) (.type "float")
  | lst {a : Addr} {xs : List V} (e : H a = some (.lst xs)) : TyOf K H (.ref a) (.type "list")
  | frz {a : Addr} {o : Obj} {xs : List V} (e : H a = some (.frz o (.lst xs))) : TyOf K H (.ref a) (.type "list")
  | tup {a : Addr} {xs : List V} (e : H a = some (.tup xs)) : TyOf K H (.ref a) (.type "tuple")
  | dK {a : Addr} {kvs : List (Key × V)} (e : H a = some (.dK kvs)) : TyOf K H (.ref a) (.type "dict")
  | dT {a : Addr} {kvs : List (List Key × V)} (e : H a = some (.dT kvs)) : TyOf K H (.ref a) (.type "dict")
  | ins {a C dx : Addr} {fs : List (Str × V)} (e : H a = some (.ins C dx fs)) (cl : Cls K C) (ha : PySem.W.findIn K (.ref C) "__class__" = some (some (.builtin "object.__class__")))
      (hn : PySem.W.specialIn K (.builtin "object.__class__") "__get__" = some (some (.builtin "getset_descriptor.__get__"))) (htk : PySem.W.takesIn K (.builtin "object.__class__") = some true)
      (hm : PySem.W.mroIn K C (.type "object") = some true) : TyOf K H (.ref a) (.ref C)
theorem a1q {x : V} {u t : Value} (I : Inv X pins σ H s) (rx : RelV x u) (ty : TyOf X.K H x t) (e : PySem.W.kitOne X.K t c = some b) (h : ∀ tk, Q (.bool b) { s with toks := tk }) :
    wpAny (model X.prog X.w) A (call (.builtin "isinstance") [u, c]) Q E s := by
  cases ty with
  | non => cases (show u = Value.none from rx); exact PySem.W.kia_one PySem.W.kitx_none I.kIn True.intro e (λ z => nomatch z) h
  | bl y => cases (show u = Value.bool y from rx); exact PySem.W.kia_one PySem.W.kitx_bool I.kIn True.intro e (λ z => nomatch z) h
  | int i => obtain ⟨t, q⟩ := (show ∃ t, u = Value.int i t from rx); cases q; exact PySem.W.kia_one PySem.W.kitx_int I.kIn True.intro e (λ z => nomatch z) h
  | str y => obtain ⟨t, q⟩ := (show ∃ t, u = Value.str y t from rx); cases q; exact PySem.W.kia_one PySem.W.kitx_str I.kIn True.intro e (λ z => nomatch z) h
  | flt y => obtain ⟨t, q⟩ := (show ∃ t, u = Value.float y t from rx); cases q; exact PySem.W.kia_one PySem.W.kitx_float I.kIn True.intro e (λ z => nomatch z) h
  | @lst a xs ea =>
    cases (show u = Value.ref a from rx)
    obtain ⟨_, _, n, _, h1⟩ := (show ObjOk X.prog X.w H s.heap a (.lst xs) from I.hok a _ ea)
    exact PySem.W.kia_one PySem.W.kitx_list I.kIn ⟨_, h1, rfl⟩ e (λ z => nomatch z) h
  | @frz a ob xs ea =>
    cases (show u = Value.ref a from rx)
    obtain ⟨_, _, _, n, _, h1⟩ := (show ObjOk X.prog X.w H s.heap a (.frz ob (.lst xs)) from I.hok a _ ea)
    exact PySem.W.kia_one PySem.W.kitx_list I.kIn ⟨_, h1, rfl⟩ e (λ z => nomatch z) h
  | @tup a xs ea =>
    cases (show u = Value.ref a from rx)
    obtain ⟨_, _, _, p⟩ := (show ObjOk X.prog X.w H s.heap a (.tup xs) from I.hok a _ ea)
    obtain ⟨o, h1, h2, _⟩ := p
    exact PySem.W.kia_one PySem.W.kitx_tuple I.kIn ⟨o, h1, h2⟩ e (λ z => nomatch z) h
  | @dK a kvs ea =>
    cases (show u = Value.ref a from rx)
    obtain ⟨_, _, vs, _, p⟩ := (show ObjOk X.prog X.w H s.heap a (.dK kvs) from I.hok a _ ea)
    obtain ⟨o, es, ep, h1, h2, _⟩ := p
    exact PySem.W.kia_one PySem.W.kitx_dict I.kIn ⟨o, h1, h2.1⟩ e (λ z => nomatch z) h
  | @dT a kvs ea =>
    cases (show u = Value.ref a from rx)
    obtain ⟨_, _, xs, _, o, es, ep, h1, h2, _⟩ := (show ObjOk X.prog X.w H s.heap a (.dT kvs) from I.hok a _ ea)
    exact PySem.W.kia_one PySem.W.kitx_dict I.kIn ⟨o, h1, h2.1⟩ e (λ z => nomatch z) h
  | @ins a C dx fs ea cl ha hn htk hm =>
    cases (show u = Value.ref a from rx)
    obtain ⟨mA, O, _⟩ := Z5 I.hok ea
    obtain ⟨od, J, _⟩ := O.look
    exact PySem.W.kia_one (PySem.W.kitx_own (cl.get _) cl.hd ha hn htk hm) I.kIn J e (λ z => nomatch z) h
end
end L2
namespace L2
open PySem PySem.Spec PyProof.Rows
structure Room (k : Nat) (A : Around) : Prop where
  hd : A.handled = none
  dp : A.depth + 3 * k + 5 < recursionLimit
  un : A.units + 16 * k + 200 < cLine
theorem Room.mono {j k : Nat} {A : Around} (r : Room k A) (h : j <= k) : Room j A := ⟨r.hd, by have := r.dp; omega, by have := r.un; omega⟩
theorem Room.deeper {k : Nat} {A : Around} (r : Room (k + 1) A) (env : Env) : Room k (A.deeper env) :=
  ⟨r.hd, by have := r.dp; show A.depth + 1 + 3 * k + 5 < _; omega, by have := r.un; show A.units + 3 + 16 * k + 200 < _; omega⟩
theorem a4z {A : Around} {C : Addr} {us : List Value} {kw : List (Str × Value)} : (A.under (.builtin "type.__call__" ⟨.ref C :: us, kw⟩)).depth = A.depth + 1 := by
  first | rfl | simp [Around.under, Code.weight, Code.isCreation, Code.isGuard, Code.isCaller, Code.frames, Code.isFrame, guardIds]
theorem a4A {A : Around} {C : Addr} {us : List Value} {kw : List (Str × Value)} : (A.under (.builtin "type.__call__" ⟨.ref C :: us, kw⟩)).units = A.units + 1 := by
  first | rfl | simp [Around.under, Code.cUnits, Code.frames, Code.isFrame]
theorem Room.make {k : Nat} {A : Around} (r : Room (k + 1) A) (C : Addr) (us : List Value) (kw : List (Str × Value)) : Room k (A.under (.builtin "type.__call__" ⟨.ref C :: us, kw⟩)) :=
  ⟨r.hd, by have := r.dp; rw [a4z]; omega, by have := r.un; rw [a4A]; omega⟩
theorem Room.depth {k : Nat} {A : Around} (r : Room k A) : A.depth < recursionLimit := by have := r.dp; omega
theorem Room.units {k : Nat} {A : Around} (r : Room k A) : A.units + 64 < cLine := by have := r.un; omega
def b7 : TA := λ _ H Q => Q [] H
def a8 (ta : TE) (tr : TA) : TA := λ σ H Q => ta σ H λ x H1 => tr σ H1 λ xs H2 => Q (x :: xs) H2
section
variable {X : Cx} {e : Expr} {es : List Expr} {te : TE} {t : TA} {pos : Pos}
theorem pa_nil : PA X [] b7 := λ _ _ _ _ H Q I h => Calls.spliced_nil ⟨[], H, I, .nil, h⟩
theorem pa_cons (ha : PE X e te) (hr : PA X es t) (hs : starEach (e :: es) X.env = (false, eval e X.env) :: starEach es X.env := by rfl) : PA X (e :: es) (a8 te t) := by
  intro pos pins s σ H Q I h
  rw [hs]
  show wpAny _ _ (spliced ((false, eval e X.env) :: backTo pos (starEach es X.env))) _ _ s
  refine Calls.spliced_cons (thn (ha pins s σ H _ I h) λ u s1 ⟨x, H1, I1, r1, q1⟩ => ?_)
  exact thn (hr pos pins s1 σ H1 _ I1 q1) λ us s2 ⟨xs, H2, I2, r2, q2⟩ => ⟨x :: xs, H2, I2, .cons r1 r2, q2⟩
def tTup (t : TA) : TE := λ σ H Q => t σ H λ xs H1 => xs.length <= sizeLine /\ ∀ p, H1 p = none -> Q (.ref p) (upd H1 p (.tup xs))
def tLst (t : TA) : TE := λ σ H Q => t σ H λ xs H1 => xs.length <= sizeLine /\ ∀ p, H1 p = none -> Q (.ref p) (upd H1 p (.lst xs))
theorem pe_tup {x1} (h : PA X es t) : PE X (.Tuple es x1 pos) (tTup t) := by
  intro pins s σ H Q I hq
  refine wpAny_Tuple_spliced (thn (h pos pins s σ H _ I hq) λ us s1 ⟨xs, H1, I1, r, z, q⟩ => ⟨by rw [<- r.length]; exact z, ?_⟩)
  have hf : H1 s1.heap.objs.size = none := I1.hok.fresh (Nat.le_refl _)
  refine ⟨.ref s1.heap.objs.size, upd H1 s1.heap.objs.size (.tup xs), I1.laid (t' := s1.toks) (λ b u e => Heap.get?_push_of_some _ e) (Nat.le_refl _) ?_, rfl, q _ hf⟩
  exact ⟨z, us, r, ⟨_, Heap.get?_push_size _ rfl, rfl, _, rfl⟩⟩
theorem pe_lst (h : PA X es t) : PE X (.List es pos) (tLst t) := by
  intro pins s σ H Q I hq
  refine wpAny_List_spliced (thn (h pos pins s σ H _ I hq) λ us s1 ⟨xs, H1, I1, r, z, q⟩ => ⟨by rw [<- r.length]; exact z, ?_⟩)
  have hf : H1 s1.heap.objs.size = none := I1.hok.fresh (Nat.le_refl _)
  refine ⟨.ref s1.heap.objs.size, upd H1 s1.heap.objs.size (.lst xs), I1.laid (t' := s1.toks) (λ b u e => Heap.get?_push_of_some _ e) (Nat.le_refl _) ?_, rfl, q _ hf⟩
  exact ⟨z, us, 0, r, Heap.get?_push_size _ rfl⟩
end
abbrev Sp := List V -> Hp -> VK -> XK -> Prop
abbrev CXT := List Env -> Hp -> Shared -> XK -> Value -> Shared -> Prop
structure Env0 (P : Program) (w : World) (K : PySem.W.Frag) (mg : Str -> Option Value) (base : Heap) (A : Around) (outer : List Env) (s : Shared) (H : Hp) : Prop where
  frames : A.frames = some outer
  mod : Mod K mg base
  bs : ∀ b o, base.get? b = some o -> s.heap.get? b = some o /\ H b = none
  bsz : base.objs.size <= s.heap.objs.size
  funs : s.heap.FunFrames base outer
  frf : ∀ b ∈ frs outer, H b = none
  hok : HOk P w H s.heap
  bare : AllBare s.gens
def CE (outer : List Env) (P : Program) (w : World) (H : Hp) (s : Shared) (Q : VK) (u : Value) (s' : Shared) : Prop :=
  ∃ v H', s'.os = s.os /\ AllBare s'.gens /\ Un (frs outer) [] H H' s.heap s'.heap /\ HOk P w H' s'.heap /\ RelV v u /\ Q v H'
def CR (CX : CXT) (outer : List Env) (P : Program) (w : World) (H : Hp) (s : Shared) (Q : VK) (E : XK) (r : Result) (s' : Shared) : Prop :=
  match r with
  | .ok (.ret u) => CE outer P w H s Q u s'
  | .ok _ => False
  | .error e => CX outer H s E e s'
structure FnOk (P : Program) (w : World) (K : PySem.W.Frag) (mg : Str -> Option Value) (base : Heap) (CX : CXT) (k : Nat) (f : Addr) (fd : FuncData) (ps : List Str) (sp : Sp) : Prop where
  len : ∀ vs H Q E, sp vs H Q E -> vs.length = ps.length
  run : ∀ (A : Around) (outer : List Env) (s : Shared) (H : Hp) (args : Args) (us : List Value) (vs : List V) (Q : VK) (E : XK), Room k A -> Env0 P w K mg base A outer s H -> BindsTo s fd args (ps.zip us) -> Vals vs us -> sp vs H Q E →
    codeAny (model P w) A (.call (.ref f) args) (CR CX outer P w H s Q E) s
theorem FnOk.mono {P : Program} {w : World} {K : PySem.W.Frag} {mg : Str -> Option Value} {base : Heap} {CX : CXT} {j k : Nat} {f : Addr} {fd : FuncData} {ps : List Str} {sp : Sp} (F : FnOk P w K mg base CX j f fd ps sp) (h : j <= k) :
    FnOk P w K mg base CX k f fd ps sp := ⟨F.len, λ A outer s H args us vs Q E hr => F.run A outer s H args us vs Q E (hr.mono h)⟩
theorem Env0.make {P : Program} {w : World} {K : PySem.W.Frag} {mg : Str -> Option Value} {base : Heap} {A : Around} {outer : List Env} {s : Shared} {H : Hp} (e : Env0 P w K mg base A outer s H) (C : Addr) (us : List Value) (kw : List (Str × Value)) :
    Env0 P w K mg base (A.under (.builtin "type.__call__" ⟨.ref C :: us, kw⟩)) outer s H := ⟨by first | exact e.frames | (simpa [Around.under, Code.envs, Code.isFrame, pushEnvs] using e.frames), e.mod, e.bs, e.bsz, e.funs, e.frf, e.hok, e.bare⟩
section
variable {X : Cx} {pins : List (Addr × Obj)} {σ : St} {H : Hp} {s s' : Shared}
theorem Inv.env0 (I : Inv X pins σ H s) : Env0 X.prog X.w X.K X.mg X.base X.A X.stack s H :=
  ⟨I.ok.frames, I.ok.mod, I.bs, Nat.le_trans I.ok.bsz I.sz, I.stack, I.stkFree, I.hok, I.bare⟩
theorem Inv.after {Q : VK} {u : Value} (I : Inv X pins σ H s) (h : CE X.stack X.prog X.w H s Q u s') : EP X pins σ Q u s' := by
  obtain ⟨v, H', os, bare, un, hok, r, q⟩ := h
  obtain ⟨hh, g, d, t, os'⟩ := s'
  obtain rfl : os' = s.os := os
  exact ⟨v, H', I.call (h' := hh) (g' := g) (d' := d) (t' := t) (ch := []) un hok bare (λ b z => absurd z (by simp)), r, q⟩
end
def g5 (sp : Sp) (dvs : List V) (E : XK) (t : TA) : TE := λ σ H Q => t σ H λ vs H1 => sp (vs ++ dvs) H1 Q E
def tMeth (C : Addr) (m : Str) (sp : Sp) (dvs : List V) (E : XK) (ta : TE) (t : TA) : TE := λ σ H Q => ta σ H λ x H1 => ∃ a dx fs, x = .ref a /\ H1 a = some (.ins C dx fs) /\ fs.lookup m = none ∧
  t σ H1 λ vs H2 => sp (x :: (vs ++ dvs)) H2 Q E
def a1r (C : Addr) (sp : Sp) (dvs : List V) (E : XK) (t : TA) : TE := λ σ H Q => t σ H λ vs H1 => ∀ x dx, H1 x = none -> H1 dx = none -> dx ≠ x →
  sp (.ref x :: (vs ++ dvs)) (upd (upd H1 dx (.own x)) x (.ins C dx [])) (λ v H2 => v = .non /\ Q (.ref x) H2) E
def Binds (K : PySem.W.Frag) (fd : FuncData) (ps : List Str) (ds : List Value) : Prop :=
  ∀ (s : Shared) (us : List Value), K.In s.heap -> (us ++ ds).length = ps.length -> BindsTo s fd ⟨us, []⟩ (ps.zip (us ++ ds))
theorem Binds.all {K : PySem.W.Frag} {fd : FuncData} {ps : List Str} (h : ∀ us : List Value, us.length = ps.length -> bindArgs fd ⟨us, []⟩ = pure (ps.zip us)) : Binds K fd ps [] := λ s us _ hl => by
  rw [List.append_nil] at hl ⊢
  exact .of_eq (h us hl)
def y8 (CX : CXT) (X : Cx) (E : XK) : Prop := ∀ (pins : List (Addr × Obj)) (σ : St) (H : Hp) (s : Shared) (e : Value) (s' : Shared), Inv X pins σ H s -> CX X.stack H s E e s' -> X.xe e s'
section
variable {X : Cx} {CX : CXT} {k : Nat} {f C : Addr} {fd : FuncData} {ps : List Str} {sp : Sp} {dvs : List V} {ds : List Value} {E : XK} {x m : Str} {p pos apos : Pos} {e o : Expr} {es : List Expr} {ta : TE} {t : TA}
theorem a2r {pins : List (Addr × Obj)} {σ : St} {H : Hp} {s : Shared} {Q : VK} {us : List Value} {vs : List V} (F : FnOk X.prog X.w X.K X.mg X.base CX k f fd ps sp) (hr : Room k X.A) (hb : Binds X.K fd ps ds) (hd : Vals dvs ds) (hx : y8 CX X E)
    (I : Inv X pins σ H s) (r : Vals vs us) (h : sp (vs ++ dvs) H Q E) : wpAny (model X.prog X.w) X.A (call (.ref f) us) (EP X pins σ Q) X.xe s := by
  have r2 : Vals (vs ++ dvs) (us ++ ds) := r.append hd
  have hl : (us ++ ds).length = ps.length := by rw [<- r2.length]; exact F.len _ _ _ _ h
  refine wpAny_call (codeAny_mono (F.run X.A X.stack s H ⟨us, []⟩ (us ++ ds) (vs ++ dvs) Q E hr I.env0 (hb s us I.kIn hl) r2 h) λ r s' hq => ?_)
  cases r with
  | error e => exact hx pins σ H s e s' I hq
  | ok fl =>
    cases fl with
    | ret u => exact I.after hq
    | next => exact False.elim hq
    | brk => exact False.elim hq
    | cont => exact False.elim hq
theorem pe_call (F : FnOk X.prog X.w X.K X.mg X.base CX k f fd ps sp) (hr : Room k X.A) (hg : Gl X x) (hm : X.mg x = some (.ref f)) (hk : PySem.W.keepIn X.K (.ref f) = true) (hb : Binds X.K fd ps ds) (hd : Vals dvs ds) (hx : y8 CX X E)
    (ha : PA X (e :: es) t) (hdb : (x == ("__debug__" : Str)) = false := by decide) (he : starEach (e :: es) X.env = (false, eval e X.env) :: starEach es X.env := by rfl) (hpl : (backTo pos (starEach es X.env)).any (·.1) = false := by rfl) :
    PE X (.Call (.Name x p) (e :: es) [] pos) (g5 sp dvs E t) := by
  intro pins s σ H Q I h
  refine wpAny_Call_Name_kw (w8 I hg hm ?_ hdb)
  refine PySem.W.callWith_K (h₀ := X.base) I.ok.mod.kin hk (thn (ha pos pins s σ H _ I h) λ us s1 ⟨vs, H1, I1, r, q⟩ => ⟨I1.kIn, ?_⟩) he hpl
  exact a2r F hr hb hd hx I1 r q
theorem pe_call0 (F : FnOk X.prog X.w X.K X.mg X.base CX k f fd ps sp) (hr : Room k X.A) (hg : Gl X x) (hm : X.mg x = some (.ref f)) (hk : PySem.W.keepIn X.K (.ref f) = true) (hb : Binds X.K fd ps ds) (hd : Vals dvs ds) (hx : y8 CX X E)
    (hdb : (x == ("__debug__" : Str)) = false := by decide) : PE X (.Call (.Name x p) [] [] pos) (g5 sp dvs E b7) := by
  intro pins s σ H Q I h
  refine wpAny_Call_Name_kw (w8 I hg hm ?_ hdb)
  exact PySem.W.callWith_K0 I.kIn hk (a2r (us := []) F hr hb hd hx I .nil h)
theorem pe_meth {pl : Sem Bool} (he : PE X o ta) (c : Cls X.K C) (hm : Meth X.K C m f) (F : FnOk X.prog X.w X.K X.mg X.base CX k f fd ps sp) (hr : Room k X.A) (hb : Binds X.K fd ps ds) (hd : Vals dvs ds) (hx : y8 CX X E) (ha : PA X (e :: es) t)
    (hst : starEach (e :: es) X.env = (false, eval e X.env) :: starEach es X.env := by rfl) (hpl : (backTo pos (starEach es X.env)).any (·.1) = false := by rfl)
    (ht : eval (.Call (.Attribute o m apos) (e :: es) [] pos) X.env = (do
      let ov ← eval o X.env
      standAt apos.atName
      let (f, first) ← holding [ov] (getMethod ov m pl)
      callWith pos f first (backTo pos (starEach (e :: es) X.env)) (backToKw pos (keywordEach [] X.env))) := by rfl) :
    PE X (.Call (.Attribute o m apos) (e :: es) [] pos) (tMeth C m sp dvs E ta t) := by
  intro pins s σ H Q I h
  refine PySem.W.methodCall_KW (pl := pl) (thn (he pins s σ H _ I h) λ u s1 ⟨x, H1, I1, rx, a, dx, fs, ex, ea, l, q⟩ => ?_) ht
  subst ex
  obtain rfl : u = Value.ref a := rx
  refine a0i I1 ea c hm l ?_
  refine PySem.W.callWith_K (first := [.ref a]) (h₀ := X.base) I.ok.mod.kin hm.kp (thn (ha pos pins s1 σ H1 _ I1 q) λ us s2 ⟨vs, H2, I2, r, q2⟩ => ⟨I2.kIn, ?_⟩) hst hpl
  exact a2r (us := .ref a :: us) (vs := .ref a :: vs) F hr hb hd hx I2 (.cons rfl r) q2
theorem pe_meth0 {pl : Sem Bool} (he : PE X o ta) (c : Cls X.K C) (hm : Meth X.K C m f) (F : FnOk X.prog X.w X.K X.mg X.base CX k f fd ps sp) (hr : Room k X.A) (hb : Binds X.K fd ps ds) (hd : Vals dvs ds) (hx : y8 CX X E)
    (ht : eval (.Call (.Attribute o m apos) [] [] pos) X.env = (do
      let ov ← eval o X.env
      standAt apos.atName
      let (f, first) ← holding [ov] (getMethod ov m pl)
      callWith pos f first (backTo pos (starEach [] X.env)) (backToKw pos (keywordEach [] X.env))) := by rfl) :
    PE X (.Call (.Attribute o m apos) [] [] pos) (tMeth C m sp dvs E ta b7) := by
  intro pins s σ H Q I h
  refine PySem.W.methodCall_KW (pl := pl) (thn (he pins s σ H _ I h) λ u s1 ⟨x, H1, I1, rx, a, dx, fs, ex, ea, l, q⟩ => ?_) ht
  subst ex
  obtain rfl : u = Value.ref a := rx
  refine a0i I1 ea c hm l ?_
  exact PySem.W.callWith_K0 (first := [.ref a]) I1.kIn hm.kp (a2r (us := [.ref a]) (vs := [.ref a]) F hr hb hd hx I1 (.cons rfl .nil) q)
structure Mk (K : PySem.W.Frag) (C f : Addr) : Prop where
  makes : PySem.W.makesIn K C = true
  init : PySem.W.findIn K (.ref C) "__init__" = some (some (.ref f))
  fn : PySem.W.isFn K (.ref f) = true
  kp : PySem.W.keepIn K (.ref C) = true
theorem a3p {pins : List (Addr × Obj)} {σ : St} {H : Hp} {s : Shared} {Q : VK} {us : List Value} {vs : List V} (M : Mk X.K C f) (F : FnOk X.prog X.w X.K X.mg X.base CX k f fd ps sp) (hr : Room (k + 1) X.A) (hb : Binds X.K fd ps ds) (hd : Vals dvs ds)
    (hx : y8 CX X E) (I : Inv X pins σ H s) (r : Vals vs us)
    (h : ∀ x dx, H x = none -> H dx = none -> dx ≠ x -> sp (.ref x :: (vs ++ dvs)) (upd (upd H dx (.own x)) x (.ins C dx [])) (λ v H2 => v = .non /\ Q (.ref x) H2) E) :
    wpAny (model X.prog X.w) X.A (call (.ref C) us) (EP X pins σ Q) X.xe s := by
  have hq := h (s.heap.objs.size + 1) s.heap.objs.size (I.hok.fresh (Nat.le_succ _)) (I.hok.fresh (Nat.le_refl _)) (Nat.ne_of_lt (Nat.lt_succ_self _))
  have I2 := Inv.made (C := C) I
  have r2 : Vals (V.ref (s.heap.objs.size + 1) :: (vs ++ dvs)) (Value.ref (s.heap.objs.size + 1) :: (us ++ ds)) := .cons rfl (r.append hd)
  have hl : (Value.ref (s.heap.objs.size + 1) :: us ++ ds).length = ps.length := by
    have e := r2.length
    rw [F.len _ _ _ _ hq] at e
    exact e.symm
  refine wpAny_call (a3o (f := f) I.kIn M.makes M.init (beq_iff_eq.mp M.fn) (codeAny_mono (F.run _ X.stack _ _ ⟨Value.ref (s.heap.objs.size + 1) :: us, []⟩ (Value.ref (s.heap.objs.size + 1) :: (us ++ ds)) _ _ E (hr.make C us [])
    (I2.env0.make C us []) (hb _ (Value.ref (s.heap.objs.size + 1) :: us) I2.kIn hl) r2 hq) λ r s' hq' => ?_))
  cases r with
  | error e => exact hx pins σ _ _ e s' I2 hq'
  | ok fl =>
    cases fl with
    | ret u =>
      obtain ⟨v, H', I3, rv, ev, q3⟩ := I2.after hq'
      subst ev
      exact ⟨rv, ⟨V.ref (s.heap.objs.size + 1), H', I3, rfl, q3⟩⟩
    | next => exact False.elim hq'
    | brk => exact False.elim hq'
    | cont => exact False.elim hq'
theorem pe_make (M : Mk X.K C f) (F : FnOk X.prog X.w X.K X.mg X.base CX k f fd ps sp) (hr : Room (k + 1) X.A) (hg : Gl X x) (hm : X.mg x = some (.ref C)) (hb : Binds X.K fd ps ds) (hd : Vals dvs ds) (hx : y8 CX X E)
    (ha : PA X (e :: es) t) (hdb : (x == ("__debug__" : Str)) = false := by decide) (he : starEach (e :: es) X.env = (false, eval e X.env) :: starEach es X.env := by rfl) (hpl : (backTo pos (starEach es X.env)).any (·.1) = false := by rfl) :
    PE X (.Call (.Name x p) (e :: es) [] pos) (a1r C sp dvs E t) := by
  intro pins s σ H Q I h
  refine wpAny_Call_Name_kw (w8 I hg hm ?_ hdb)
  refine PySem.W.callWith_K (h₀ := X.base) I.ok.mod.kin M.kp (thn (ha pos pins s σ H _ I h) λ us s1 ⟨vs, H1, I1, r, q⟩ => ⟨I1.kIn, ?_⟩) he hpl
  exact a3p M F hr hb hd hx I1 r q
theorem pe_make0 (M : Mk X.K C f) (F : FnOk X.prog X.w X.K X.mg X.base CX k f fd ps sp) (hr : Room (k + 1) X.A) (hg : Gl X x) (hm : X.mg x = some (.ref C)) (hb : Binds X.K fd ps ds) (hd : Vals dvs ds) (hx : y8 CX X E)
    (hdb : (x == ("__debug__" : Str)) = false := by decide) : PE X (.Call (.Name x p) [] [] pos) (a1r C sp dvs E b7) := by
  intro pins s σ H Q I h
  refine wpAny_Call_Name_kw (w8 I hg hm ?_ hdb)
  exact PySem.W.callWith_K0 I.kIn M.kp (a3p (us := []) M F hr hb hd hx I .nil h)
end
section
variable {X : Cx} {CX : CXT} {k : Nat} {f C : Addr} {fd : FuncData} {ps ks : List Str} {sp : Sp} {E : XK} {x m : Str} {p pos apos kpos : Pos} {e o : Expr} {es : List Expr} {kws : List Keyword} {te ta : TE} {t tk : TA} {nm : Option Str}
variable {g : List Value -> List Value -> List Value} {gV : List V -> List V -> List V}
end
structure FnScope (N P : List Str) (sc : Scope) : Prop where
  kind : sc.kind = .function
  co : sc.isCoroutine = false
  gen : sc.isGenerator = false
  nd : N.Nodup
  pre : N.take P.length = P
  par : ∀ x ∈ P, sc.names.lookup x = some .local \/ sc.names.lookup x = some .cell
  nofree : ∀ y ∈ sc.names, y.2 ≠ .free
theorem a1s {kindOf : Str -> Option NameKind} {x : Str} : ∀ {binds : List (Str × Value)} {m : Str -> Option Value}, (∀ v, (x, v) ∉ binds) -> bindL kindOf binds m x = m x
  | [], _, _ => rfl
  | (n, v) :: r, m, h => by
    unfold bindL
    rw [a1s λ w hw => h w (List.mem_cons_of_mem _ hw)]
    split
    . have : x ≠ n := by rintro rfl; exact h v List.mem_cons_self
      simp [this]
    . rfl
theorem a1t {kindOf : Str -> Option NameKind} {x : Str} : ∀ {binds : List (Str × Value)} {m : Str -> Option Value}, (∀ v, (x, v) ∉ binds) -> bindC kindOf binds m x = m x
  | [], _, _ => rfl
  | (n, v) :: r, m, h => by
    unfold bindC
    rw [a1t λ w hw => h w (List.mem_cons_of_mem _ hw)]
    split
    . rfl
    . have : x ≠ n := by rintro rfl; exact h v List.mem_cons_self
      simp [this]
theorem a1u {kindOf : Str -> Option NameKind} {x : Str} {v : Value} : ∀ {P : List Str} {vs : List Value} {i : Nat} {m : Str -> Option Value}, P.Nodup -> P[i]? = some x -> vs[i]? = some v -> kindOf x = some .local →
    bindL kindOf (P.zip vs) m x = some v
  | [], _, _, _, _, h, _, _ => by simp at h
  | _ :: _, [], _, _, _, _, h, _ => by simp at h
  | p :: P, w :: vs, 0, m, nd, h1, h2, hk => by
    simp at h1 h2; subst h1; subst h2
    show bindL kindOf ((p, w) :: P.zip vs) m p = _
    unfold bindL
    rw [a1s λ v hv => (List.nodup_cons.mp nd).1 (List.of_mem_zip hv).1, if_pos hk]
    simp
  | p :: P, w :: vs, i + 1, m, nd, h1, h2, hk => by
    show bindL kindOf ((p, w) :: P.zip vs) m x = _
    unfold bindL
    exact a1u (i := i) (List.nodup_cons.mp nd).2 (by simpa using h1) (by simpa using h2) hk
theorem a1v {kindOf : Str -> Option NameKind} {x : Str} {v : Value} : ∀ {P : List Str} {vs : List Value} {i : Nat} {m : Str -> Option Value}, P.Nodup -> P[i]? = some x -> vs[i]? = some v -> kindOf x ≠ some .local →
    bindC kindOf (P.zip vs) m x = some v
  | [], _, _, _, _, h, _, _ => by simp at h
  | _ :: _, [], _, _, _, _, h, _ => by simp at h
  | p :: P, w :: vs, 0, m, nd, h1, h2, hk => by
    simp at h1 h2; subst h1; subst h2
    show bindC kindOf ((p, w) :: P.zip vs) m p = _
    unfold bindC
    rw [a1t λ v hv => (List.nodup_cons.mp nd).1 (List.of_mem_zip hv).1, if_neg hk]
    simp
  | p :: P, w :: vs, i + 1, m, nd, h1, h2, hk => by
    show bindC kindOf ((p, w) :: P.zip vs) m x = _
    unfold bindC
    exact a1v (i := i) (List.nodup_cons.mp nd).2 (by simpa using h1) (by simpa using h2) hk
def D8 (N : List Str) (vs : List V) : St := vs.map some ++ List.replicate (N.length - vs.length) none
def cxOf (CX : CXT) (P : Program) (w : World) (K : PySem.W.Frag) (mg : Str -> Option Value) (base : Heap) (N : List Str) (qual : Str) (scope : Scope) (f : Addr) (cd : Value) (A : Around) (outer : List Env) (s : Shared) (H : Hp) (E : XK) : Cx where
  prog := P
  w := w
  K := K
  mg := mg
  base := base
  A := A.deeper (envOfC qual scope s.heap.objs.size f cd)
  N := N
  s₀ := s
  H₀ := H
  env := envOfC qual scope s.heap.objs.size f cd
  outer := outer
  stack := envOfC qual scope s.heap.objs.size f cd :: outer
  ex := []
  calm := true
  fn := λ _ => true
  pn := []
  xe := λ e s' => wpAny (model P w) (A.deeper (envOfC qual scope s.heap.objs.size f cd)) (leaving (envOfC qual scope s.heap.objs.size f cd) e) (λ _ s'' => CX outer H s E e s'') (λ e' s'' => CX outer H s E e' s'') s'
theorem a3q {sc : Scope} {n : Nat} {x : Str} (h : sc.names.lookup x = some .cell) : ∃ c, (cellsFrom n sc.names []).lookup x = some c := by
  have q := PySem.W.cellsFrom_some sc.names n [] (.inl h)
  exact Option.isSome_iff_exists.mp q
theorem inv_start {CX : CXT} {P : Program} {w : World} {K : PySem.W.Frag} {mg : Str -> Option Value} {base : Heap} {N ps : List Str} {qual : Str} {scope : Scope} {f : Addr} {cd : Value} {A : Around} {outer : List Env} {s s1 : Shared} {H : Hp} {E : XK} {us : List Value} {vs : List V}
    (S : FnScope N ps scope) (hd : A.handled = none) (e0 : Env0 P w K mg base A outer s H) (hl : vs.length = ps.length) (r : Vals vs us)
    (x : InCallC s s.heap.objs.size (bindL (envOfC qual scope s.heap.objs.size f cd).kindOf (ps.zip us) λ _ => none) (cellsFrom (s.heap.objs.size + 1) scope.names []) (bindC (envOfC qual scope s.heap.objs.size f cd).kindOf (ps.zip us) λ _ => none) s1) :
    Inv (cxOf CX P w K mg base N qual scope f cd A outer s H E) [] (D8 N vs) H s1 := by
  have hpl : ps.length <= N.length := by have := congrArg List.length S.pre; rw [List.length_take] at this; omega
  obtain ⟨h1, tk, rfl, hk⟩ := x.done
  have noA : ∀ b : Addr, b ∉ (cxOf CX P w K mg base N qual scope f cd A outer s H E).ex := λ b z => absurd (show b ∈ ([] : List Addr) from z) (by simp)
  refine ⟨⟨e0.mod, S.kind, rfl, rfl, Nat.le_refl _, λ y z c h1 h2 => ?_, λ y hy => ?_, λ y c _ h => ?_, λ _ => hd, Around.frames_deeper e0.frames, .inr ⟨rfl, rfl⟩, λ b z => absurd z (noA b), e0.bs, e0.bsz, λ b _ _ => noA b, λ b z => absurd z (noA b), e0.funs, e0.frf⟩,
    rfl, e0.bare, Un.kept hk, ⟨_, x.toInCall.ns, λ i y v h1 h2 h3 => ?_⟩, λ y c h => ⟨_, x.cell y c h⟩, e0.hok.fresh (Nat.le_refl _), λ y c h => ?_, λ p hp => absurd (show p ∈ ([] : List (Addr × Obj)) from hp) (by simp), e0.hok.kept hk, ?_⟩
  . exact name_of_addr x.apart (PySem.mem_of_lookup h1) (PySem.mem_of_lookup h2)
  . have hy : scope.names.lookup y = some .cell \/ scope.names.lookup y = some .free := hy
    rcases hy with hy | hy
    . exact a3q hy
    . exact absurd rfl (S.nofree _ (PySem.mem_of_lookup hy))
  . exact Nat.le_of_lt (x.above y c (PySem.mem_of_lookup h))
  . have hi : i < vs.length := by
      unfold D8 at h2
      by_cases hi : i < vs.length
      . exact hi
      . rw [List.getElem?_append_right (by simpa using hi)] at h2
        rw [List.getElem?_replicate] at h2
        split at h2 <;> cases h2
    have ha : vs[i]? = some v := by
      unfold D8 at h2
      rw [List.getElem?_append_left (by simpa using hi), List.getElem?_map] at h2
      cases e : vs[i]? with
      | none => rw [e] at h2; cases h2
      | some a => rw [e] at h2; cases h2; rfl
    obtain ⟨u, hu, rv⟩ := r.get ha
    have hp : ps[i]? = some y := by
      rw [<- S.pre, List.getElem?_take_of_lt (by omega)]; exact h1
    have ndP : ps.Nodup := by rw [<- S.pre]; exact S.nd.sublist (List.take_sublist _ _)
    refine ⟨u, rv, ?_⟩
    rcases S.par y (List.mem_of_getElem? hp) with k | k
    . exact .inl ⟨k, a1u ndP hp hu k⟩
    . obtain ⟨c, e⟩ := a3q (n := s.heap.objs.size + 1) k
      refine .inr ⟨.inl k, c, e, ?_⟩
      have q := x.cell y c e
      rw [a1v ndP hp hu (by show scope.names.lookup y ≠ _; rw [k]; decide)] at q
      exact q
  . exact e0.hok.fresh (Nat.le_of_lt (x.above y c (PySem.mem_of_lookup h)))
  . unfold D8
    show _ = N.length
    rw [List.length_append, List.length_map, List.length_replicate]
    omega
theorem fn_of {CX : CXT} {P : Program} {w : World} {K : PySem.W.Frag} {mg : Str -> Option Value} {base : Heap} {k : Nat} {f : Addr} {name qual : Str} {params : Arguments} {body : List Stmt} {scope : Scope} {dV kV doc pm cdv ct oc : Value} {an od : Option Addr}
    {osl : Array (Option Value)} {N ps : List Str} {sp : Sp} (lk : K.lookup f = some ⟨oc, od, .func (PySem.W.fnOf name qual params body scope dV kV doc pm an cdv ct), osl⟩) (hcd : PySem.W.codeIn K cdv qual = true) (S : FnScope N ps scope)
    (len : ∀ vs H Q E, sp vs H Q E -> vs.length = ps.length)
    (hbody : ∀ (A : Around) (outer : List Env) (s : Shared) (H : Hp) (vs : List V) (Q : VK) (E : XK), Room k (A.deeper (envOfC qual scope s.heap.objs.size f cdv)) -> sp vs H Q E →
      ∃ t, PSs (cxOf CX P w K mg base N qual scope f cdv A outer s H E) body t /\ t { nx := λ _ H' => Q .non H', rt := Q } (D8 N vs) H) :
    FnOk P w K mg base CX (k + 1) f (PySem.W.fnOf name qual params body scope dV kV doc pm an cdv ct) ps sp := by
  refine ⟨len, λ A outer s H args us vs Q E hr e0 hb r hsp => ?_⟩
  have hl := len _ _ _ _ hsp
  have KX : K.In s.heap := e0.mod.kin.keeps λ b o e => (e0.bs b o e).1
  have lim : s.heap.NoLimit := e0.mod.nolimit.keeps λ b o e => (e0.bs b o e).1
  have hkind : ∀ y ∈ ps.zip us, scope.names.lookup y.1 = some .local \/ (scope.names.lookup y.1 = some .cell /\ ((cellsFrom (s.heap.objs.size + 1) scope.names []).lookup y.1).isSome = true) := λ ⟨n, v⟩ hy => by
    rcases S.par n (List.of_mem_zip hy).1 with q | q
    . exact .inl q
    . exact .inr ⟨q, PySem.W.cellsFrom_some _ _ _ (.inl q)⟩
  refine codeAny_call_function hr.depth (KX _ _ lk) rfl S.co S.gen rfl (PySem.W.codeRec_of KX hcd) (hb _ _ _ _ ?_)
  refine wpAny_newFunctionEnv_cells S.kind hkind λ env he s1 x => ?_
  subst he
  refine ⟨lim.keeps x.toInCall.keep, codeAny_func ?_⟩
  obtain ⟨t, ht, hq⟩ := hbody A outer s H vs Q E (hr.deeper _) hsp
  have I : Inv (cxOf CX P w K mg base N qual scope f cdv A outer s H E) [] (D8 N vs) H s1 := inv_start S hr.hd e0 hl r x
  refine wpAny_mono (ht [] s1 (D8 N vs) H _ I hq) (λ fl s' hs => ?_) λ e s' hs => hs
  have fin : ∀ {σ' : St} {H' : Hp} {v : V} {u : Value}, Inv (cxOf CX P w K mg base N qual scope f cdv A outer s H E) [] σ' H' s' -> RelV v u -> Q v H' -> CE outer P w H s Q u s' :=
    λ {σ' H' v u} J rv q => ⟨v, H', J.os, J.bare, J.base, J.hok, rv, q⟩
  cases fl with
  | ret u =>
    obtain ⟨v, σ', H', J, rv, q⟩ := hs
    exact fin J rv q
  | next =>
    obtain ⟨σ', H', J, q⟩ := hs
    exact fin (v := V.non) (u := Value.none) J rfl q
  | brk =>
    obtain ⟨_, _, _, q⟩ := hs
    exact False.elim q
  | cont =>
    obtain ⟨_, _, _, q⟩ := hs
    exact False.elim q
end L2
namespace L2
open PySem PySem.Spec PyProof.Rows
section
variable {X : Cx} {x : Str} {p pos : Pos} {e : Expr} {es : List Expr} {t : TA} {id T : String} {r : List V -> Hp -> VK -> Prop}
def tCB (r : List V -> Hp -> VK -> Prop) (t : TA) : TE := λ σ H Q => t σ H λ vs H1 => r vs H1 Q
theorem N1 (hc : CallR X (.builtin id) r) (hg : Gl X x) (hm : X.mg x = none) (hv : bootBuiltins x = some (.builtin id)) (ha : PA X (e :: es) t) (hn : x ≠ "__name__" := by decide) (hdb : (x == ("__debug__" : Str)) = false := by decide)
    (he : starEach (e :: es) X.env = (false, eval e X.env) :: starEach es X.env := by rfl) (hpl : (backTo pos (starEach es X.env)).any (·.1) = false := by rfl) : PE X (.Call (.Name x p) (e :: es) [] pos) (tCB r t) := by
  intro pins s σ H Q I h
  refine wpAny_Call_Name_kw (U5 I hg hm hv ?_ hn hdb)
  exact PyProof.Rows.callWith_builtin1 (thn (ha pos pins s σ H _ I h) λ us s1 ⟨vs, H1, I1, r1, q1⟩ => hc pins s1 σ H1 vs us Q I1 r1 q1) he hpl
theorem pe_callTy (hc : CallR X (.type T) r) (hg : Gl X x) (hm : X.mg x = none) (hv : bootBuiltins x = some (.type T)) (ha : PA X (e :: es) t) (hn : x ≠ "__name__" := by decide) (hdb : (x == ("__debug__" : Str)) = false := by decide)
    (he : starEach (e :: es) X.env = (false, eval e X.env) :: starEach es X.env := by rfl) (hpl : (backTo pos (starEach es X.env)).any (·.1) = false := by rfl) : PE X (.Call (.Name x p) (e :: es) [] pos) (tCB r t) := by
  intro pins s σ H Q I h
  refine wpAny_Call_Name_kw (U5 I hg hm hv ?_ hn hdb)
  exact PyProof.Rows.callWith_type1 (thn (ha pos pins s σ H _ I h) λ us s1 ⟨vs, H1, I1, r1, q1⟩ => hc pins s1 σ H1 vs us Q I1 r1 q1) he hpl
end
end L2
namespace L2
open PySem PySem.Spec PyProof.Rows
section
variable {κ : Type} [DecidableEq κ]
def A6 (kvs : List (κ × V)) (k : κ) : Option V := (kvs.find? λ kv => decide (kv.1 = k)).map (·.2)
def y0 (kvs : List (κ × V)) (k : κ) (v : V) : List (κ × V) :=
  if (kvs.any λ kv => decide (kv.1 = k)) = true then kvs.map (λ kv => if kv.1 = k then (kv.1, v) else kv) else kvs ++ [(k, v)]
theorem S5 {p : κ × V} {r : List (κ × V)} {k : κ} (e : p.1 = k) : A6 (p :: r) k = some p.2 := by simp [A6, List.find?_cons, e]
theorem F5 {p : κ × V} {r : List (κ × V)} {k : κ} (e : ¬ p.1 = k) : A6 (p :: r) k = A6 r k := by simp [A6, List.find?_cons, e]
theorem a0j (k : κ) : ∀ kvs : List (κ × V), (kvs.any λ kv => decide (kv.1 = k)) = (A6 kvs k).isSome
  | [] => rfl
  | p :: r => by
    rw [List.any_cons]
    by_cases e : p.1 = k
    . simp only [S5 e, decide_eq_true e, Bool.true_or, Option.isSome_some]
    . rw [F5 e, decide_eq_false e, Bool.false_or]; exact a0j k r
theorem N2 (kvs : List (κ × V)) (k : κ) (v : V) : (y0 kvs k v).length <= kvs.length + 1 := by
  unfold y0
  split
  . rw [List.length_map]; omega
  . rw [List.length_append, List.length_cons, List.length_nil]; omega
theorem a0k {kvs : List (κ × V)} {k : κ} (v : V) (h : A6 kvs k = none) : y0 kvs k v = kvs ++ [(k, v)] := by
  unfold y0
  rw [a0j, h]
  exact if_neg (by decide)
theorem RelO.isSome_eq {o : Option V} {u : Option Value} (r : RelO o u) : o.isSome = u.isSome := by
  cases o with
  | none => cases u with
    | none => rfl
    | some _ => exact (show False from r).elim
  | some _ => cases u with
    | none => exact (show False from r).elim
    | some _ => rfl
theorem KV.val {kvs : List (κ × V)} {vs : List (κ × Value)} (r : KV kvs vs) (k : κ) : RelO (A6 kvs k) (valueAt vs k) := by
  unfold KV at r
  induction r with
  | nil => exact True.intro
  | @cons p q ps qs h t ih =>
    obtain ⟨h1, h2⟩ := h
    by_cases e : p.1 = k
    . have e' : q.1 = k := h1.symm.trans e
      have b : valueAt (q :: qs) k = some q.2 := by simp [valueAt, List.find?_cons, e']
      rw [S5 e, b]; exact h2
    . have e' : ¬ q.1 = k := λ z => e (h1.trans z)
      have b : valueAt (q :: qs) k = valueAt qs k := by simp [valueAt, List.find?_cons, e']
      rw [F5 e, b]; exact ih
theorem KV.any {kvs : List (κ × V)} {vs : List (κ × Value)} (r : KV kvs vs) (k : κ) : (kvs.any λ kv => decide (kv.1 = k)) = vs.any λ kv => decide (kv.1 = k) := by
  unfold KV at r
  induction r with
  | nil => rfl
  | cons h t ih => rw [List.any_cons, List.any_cons, ih, h.1]
theorem KV.repl {kvs : List (κ × V)} {vs : List (κ × Value)} (r : KV kvs vs) (k : κ) {y : V} {u : Value} (ry : RelV y u) :
    KV (kvs.map λ kv => if kv.1 = k then (kv.1, y) else kv) (vs.map λ kv => if kv.1 = k then (kv.1, u) else kv) := by
  unfold KV at r ⊢
  induction r with
  | nil => exact .nil
  | @cons p q ps qs h t ih =>
    rw [List.map_cons, List.map_cons]
    refine .cons ?_ ih
    obtain ⟨h1, h2⟩ := h
    by_cases e : p.1 = k
    . rw [if_pos e, if_pos (h1.symm.trans e)]; exact ⟨h1, ry⟩
    . rw [if_neg e, if_neg (λ z => e (h1.trans z))]; exact ⟨h1, h2⟩
theorem KV.put {kvs : List (κ × V)} {vs : List (κ × Value)} (r : KV kvs vs) (k : κ) {y : V} {u : Value} (ry : RelV y u) : KV (y0 kvs k y) (stored vs k u) := by
  unfold y0 stored
  rw [r.any k]
  by_cases e : (vs.any λ kv => decide (kv.1 = k)) = true
  . rw [if_pos e, if_pos e]; exact r.repl k ry
  . rw [if_neg e, if_neg e]; exact Paired.snoc r ⟨rfl, ry⟩
theorem KV.length {kvs : List (κ × V)} {vs : List (κ × Value)} (r : KV kvs vs) : kvs.length = vs.length := Paired.length r
end
theorem a1w {P : Program} {w : World} {k : Key} {u : Value} (r : RelV (kV k) u) : (e7 P w).is k u = true := by
  cases k with
  | inl i => obtain ⟨t, e⟩ := (show ∃ t, u = Value.int i t from r); subst e; exact a3k P w i t
  | inr x => obtain ⟨t, e⟩ := (show ∃ t, u = Value.str x t from r); subst e; exact a3l P w x t
theorem a1x {P : Program} {w : World} : ∀ {ks : List Key} {us : List Value}, Vals (ks.map kV) us -> ItemsAre (e7 P w) ks us
  | [], _, r => by rw [List.map_nil] at r; cases r; exact .nil
  | k :: ks, _, r => by
    rw [List.map_cons] at r
    cases r with
    | cons h t => exact .cons (a1w h) (a1x t)
abbrev KT (H : Hp) : List (List Key × V) -> List (List Key × Addr × Value) -> Prop := Paired λ p q => p.1 = q.1 /\ H q.2.1 = some (.tup (p.1.map kV)) /\ RelV p.2 q.2.2
theorem KT.val {H : Hp} {kvs : List (List Key × V)} {xs : List (List Key × Addr × Value)} (r : KT H kvs xs) (k : List Key) : RelO (A6 kvs k) ((atKey xs k).map (·.2)) := by
  induction r with
  | nil => exact True.intro
  | @cons p q ps qs h t ih =>
    obtain ⟨h1, _, h2⟩ := h
    by_cases e : p.1 = k
    . have e' : q.1 = k := h1.symm.trans e
      have b : atKey (q :: qs) k = some q.2 := by simp [atKey, List.find?_cons, e']
      rw [S5 e, b]; exact h2
    . have e' : ¬ q.1 = k := λ z => e (h1.trans z)
      have b : atKey (q :: qs) k = atKey qs k := by simp [atKey, List.find?_cons, e']
      rw [F5 e, b]; exact ih
theorem KT.repl {H : Hp} {kvs : List (List Key × V)} {xs : List (List Key × Addr × Value)} (r : KT H kvs xs) (k : List Key) {y : V} {u : Value} (ry : RelV y u) :
    KT H (kvs.map λ kv => if kv.1 = k then (kv.1, y) else kv) (xs.map (putAt k u)) := by
  induction r with
  | nil => exact .nil
  | @cons p q ps qs h t ih =>
    rw [List.map_cons, List.map_cons]
    refine .cons ?_ ih
    obtain ⟨h1, h2, h3⟩ := h
    unfold putAt
    by_cases e : p.1 = k
    . rw [if_pos e, if_pos (h1.symm.trans e)]; exact ⟨h1, h2, ry⟩
    . rw [if_neg e, if_neg (λ z => e (h1.trans z))]; exact ⟨h1, h2, h3⟩
theorem KT.put {H : Hp} {kvs : List (List Key × V)} {xs : List (List Key × Addr × Value)} (r : KT H kvs xs) (k : List Key) {b : Addr} {y : V} {u : Value} (hb : H b = some (.tup (k.map kV))) (ry : RelV y u) :
    KT H (y0 kvs k y) (storedH xs k b u) := by
  have e : (kvs.any λ kv => decide (kv.1 = k)) = (atKey xs k).isSome := by
    rw [a0j, (r.val k).isSome_eq, Option.isSome_map]
  unfold y0 storedH
  rw [e]
  by_cases q : (atKey xs k).isSome = true
  . rw [if_pos q, if_pos q]; exact r.repl k ry
  . rw [if_neg q, if_neg q]; exact Paired.snoc r ⟨rfl, hb, ry⟩
theorem KT.keeps {H H' : Hp} {kvs : List (List Key × V)} {xs : List (List Key × Addr × Value)} (r : KT H kvs xs) (ht : ∀ b ys, H b = some (.tup ys) -> H' b = some (.tup ys)) : KT H' kvs xs :=
  Paired.mapP r λ _ _ z => ⟨z.1, ht _ _ z.2.1, z.2.2⟩
section
variable {P : Program} {w : World} {H : Hp} {h : Heap} {a : Addr}
theorem rd_of {u : HO} (ok : HOk P w H h) (e : Rd H a u) : ObjOk P w H h a u := e.ok ok
theorem S7 {kvs : List (Key × V)} (ok : HOk P w H h) (e : Rd H a (.dK kvs)) : kvs.length <= sizeLine /\ (a == sysModules) = false /\ ∃ vs, KV kvs vs /\ h.DictOf (e7 P w) a vs :=
  show ObjOk P w H h a (.dK kvs) from rd_of ok e
theorem dk_of {kvs : List (Key × V)} (ok : HOk P w H h) (e : H a = some (.dK kvs)) : kvs.length <= sizeLine /\ (a == sysModules) = false /\ ∃ vs, KV kvs vs /\ h.DictOf (e7 P w) a vs := S7 ok (.inl e)
theorem a0l {ks : List Key} (ok : HOk P w H h) (e : H a = some (.tup (ks.map kV))) : (tupleKind (e7 P w)).is h ks a := by
  obtain ⟨_, its, r, o, h1, h2, n, h3⟩ := (show ObjOk P w H h a (.tup (ks.map kV)) from ok a _ e)
  exact ⟨o, its.toArray, n, h1, h2, h3, by simpa using a1x r⟩
theorem a1y {kvs : List (List Key × V)} (ok : HOk P w H h) (e : Rd H a (.dT kvs)) : kvs.length <= sizeLine /\ (a == sysModules) = false ∧
    ∃ xs, KT H kvs xs /\ h.DictOfH (tupleKind (e7 P w)) a xs := by
  obtain ⟨z, y, xs, r, o, es, ep, h1, h2, h3, h4, h5⟩ := (show ObjOk P w H h a (.dT kvs) from rd_of ok e)
  refine ⟨z, y, xs, r, o, es, ep, h1, h2, h3, h4, λ x hx => ?_, h5⟩
  have all : ∀ {l : List (List Key × V)} {m : List (List Key × Addr × Value)}, KT H l m -> ∀ x ∈ m, (tupleKind (e7 P w)).is h x.1 x.2.1 := by
    intro l m q
    induction q with
    | nil => intro x hx; exact nomatch hx
    | @cons p q ps qs hq t ih =>
      intro x hx
      rcases List.mem_cons.mp hx with e | hx
      . subst e
        exact a0l ok (by rw [<- hq.1]; exact hq.2.1)
      . exact ih x hx
  exact all r x hx
theorem dt_of {kvs : List (List Key × V)} (ok : HOk P w H h) (e : H a = some (.dT kvs)) : kvs.length <= sizeLine /\ (a == sysModules) = false ∧
    ∃ xs, KT H kvs xs /\ h.DictOfH (tupleKind (e7 P w)) a xs := a1y ok (.inl e)
end
def DGet (H : Hp) (a : Addr) (y : V) (r : Option V) : Prop :=
  (∃ kvs k, Rd H a (.dK kvs) /\ y = kV k /\ r = A6 kvs k) \/ ∃ kvs k b, Rd H a (.dT kvs) /\ y = .ref b /\ H b = some (.tup (k.map kV)) /\ r = A6 kvs k
def DPut (H : Hp) (a : Addr) (y v : V) (H' : Hp) : Prop :=
  (∃ kvs k, H a = some (.dK kvs) /\ y = kV k /\ kvs.length < sizeLine /\ H' = upd H a (.dK (y0 kvs k v))) ∨
  ∃ kvs k b, H a = some (.dT kvs) /\ y = .ref b /\ H b = some (.tup (k.map kV)) /\ kvs.length < sizeLine /\ H' = upd H a (.dT (y0 kvs k v))
theorem DGet.k {H : Hp} {a : Addr} {kvs : List (Key × V)} {k : Key} (e : H a = some (.dK kvs)) : DGet H a (kV k) (A6 kvs k) := .inl ⟨kvs, k, .inl e, rfl, rfl⟩
theorem DGet.t {H : Hp} {a b : Addr} {kvs : List (List Key × V)} {k : List Key} (e : H a = some (.dT kvs)) (eb : H b = some (.tup (k.map kV))) : DGet H a (.ref b) (A6 kvs k) := .inr ⟨kvs, k, b, .inl e, rfl, eb, rfl⟩
theorem DPut.k {H : Hp} {a : Addr} {kvs : List (Key × V)} {k : Key} {v : V} (e : H a = some (.dK kvs)) (hl : kvs.length < sizeLine) : DPut H a (kV k) v (upd H a (.dK (y0 kvs k v))) := .inl ⟨kvs, k, e, rfl, hl, rfl⟩
theorem DPut.t {H : Hp} {a b : Addr} {kvs : List (List Key × V)} {k : List Key} {v : V} (e : H a = some (.dT kvs)) (eb : H b = some (.tup (k.map kV))) (hl : kvs.length < sizeLine) :
    DPut H a (.ref b) v (upd H a (.dT (y0 kvs k v))) := .inr ⟨kvs, k, b, e, rfl, eb, hl, rfl⟩
section
variable {X : Cx} {pins : List (Addr × Obj)} {σ : St} {H : Hp} {s : Shared} {a : Addr} {y v : V} {u r : Value} {o : Option V} {A : Around} {E : Value -> Shared -> Prop}
theorem Inv.big (I : Inv X pins σ H s) : sysModules < s.heap.objs.size := by
  have h : mainGlobals < s.heap.objs.size := (I.mod.glob.keeps I.bk).lt
  exact Nat.lt_trans (by decide) h
theorem d_getItem {Q : Value -> Shared -> Prop} (hu : A.units + 1 < cLine) (I : Inv X pins σ H s) (g : DGet H a y (some v)) (ry : RelV y u) (h : ∀ w' s', Inv X pins σ H s' -> RelV v w' -> Q w' s') :
    wpAny (model X.prog X.w) A (getItem (.ref a) u) Q E s := by
  rcases g with ⟨kvs, k, e, ey, l⟩ | ⟨kvs, k, b, e, ey, eb, l⟩
  . subst ey
    obtain ⟨z, hd, vs, rel, dd⟩ := S7 I.hok e
    obtain ⟨w', hw, rw'⟩ := RelO.some_of (v := v) (o := valueAt vs k) (by rw [l]; exact rel.val k)
    exact wpAny_getItem_of (a1w ry) dd.mapOf hw (h w' _ (I.tok _) rw')
  . subst ey
    cases (show u = Value.ref b from ry)
    obtain ⟨z, hd, xs, rel, dd⟩ := a1y I.hok e
    obtain ⟨w', hw, rw'⟩ := RelO.some_of (v := v) (o := (atKey xs k).map (·.2)) (by rw [l]; exact rel.val k)
    obtain ⟨p, hp, hp2⟩ := Option.map_eq_some_iff.mp hw
    refine wpAny_getItem_heap (tupleKind_room_in1 hu) (a0l I.hok eb) dd hp ?_
    rw [hp2]
    exact h w' _ (I.tok _) rw'
theorem d_in {Q : Value -> Shared -> Prop} (hu : A.units + 1 < cLine) (I : Inv X pins σ H s) (g : DGet H a y o) (ry : RelV y u) (h : ∀ s', Inv X pins σ H s' -> Q (.bool o.isSome) s') :
    wpAny (model X.prog X.w) A (compareOp .In u (.ref a)) Q E s := by
  rcases g with ⟨kvs, k, e, ey, l⟩ | ⟨kvs, k, b, e, ey, eb, l⟩
  . subst ey
    obtain ⟨z, hd, vs, rel, dd⟩ := S7 I.hok e
    refine wpAny_in_of (a1w ry) hd dd.mapOf ?_
    rw [<- (rel.val k).isSome_eq, <- l]
    exact h _ (I.tok _)
  . subst ey
    cases (show u = Value.ref b from ry)
    obtain ⟨z, hd, xs, rel, dd⟩ := a1y I.hok e
    refine wpAny_in_heap (tupleKind_room_in1 hu) (a0l I.hok eb) hd dd ?_
    have q := (rel.val k).isSome_eq
    rw [Option.isSome_map] at q
    rw [<- q, <- l]
    exact h _ (I.tok _)
theorem d_notIn {Q : Value -> Shared -> Prop} (hu : A.units + 1 < cLine) (I : Inv X pins σ H s) (g : DGet H a y o) (ry : RelV y u) (h : ∀ s', Inv X pins σ H s' -> Q (.bool (!o.isSome)) s') :
    wpAny (model X.prog X.w) A (compareOp .NotIn u (.ref a)) Q E s := by
  rcases g with ⟨kvs, k, e, ey, l⟩ | ⟨kvs, k, b, e, ey, eb, l⟩
  . subst ey
    obtain ⟨z, hd, vs, rel, dd⟩ := S7 I.hok e
    refine wpAny_notIn_of (a1w ry) hd dd.mapOf ?_
    rw [<- (rel.val k).isSome_eq, <- l]
    exact h _ (I.tok _)
  . subst ey
    cases (show u = Value.ref b from ry)
    obtain ⟨z, hd, xs, rel, dd⟩ := a1y I.hok e
    refine wpAny_notIn_heap (tupleKind_room_in1 hu) (a0l I.hok eb) hd dd ?_
    have q := (rel.val k).isSome_eq
    rw [Option.isSome_map] at q
    rw [<- q, <- l]
    exact h _ (I.tok _)
theorem a2t {h' : Heap} {t' : Nat} {ob : HO} (I : Inv X pins σ H s) (mu : Mut (H a)) (hs : Heap.SameBut a s.heap h') (he : ∃ q, h'.get? a = some q) (new : ObjOk X.prog X.w (upd H a ob) h' a ob) :
    Inv X pins σ (upd H a ob) { s with heap := h', toks := t' } :=
  I.write (x := a) (e := a) mu (.inl rfl) (λ b q hb z => (hs.2 b hb).trans z) he new
theorem dk_new {P : Program} {w : World} {H' : Hp} {h' : Heap} {kvs : List (Key × V)} {vs : List (Key × Value)} (z : kvs.length <= sizeLine) (hd : (a == sysModules) = false) (rel : KV kvs vs) (dd : h'.DictOf (e7 P w) a vs) :
    ObjOk P w H' h' a (.dK kvs) := ⟨z, hd, vs, rel, dd⟩
theorem a1z {H' : Hp} {Q : Unit -> Shared -> Prop} (hu : A.units + 1 < cLine) (I : Inv X pins σ H s) (g : DPut H a y v H') (ry : RelV y u) (rv : RelV v r) (h : ∀ s', Inv X pins σ H' s' -> Q () s') :
    wpAny (model X.prog X.w) A (setItem (.ref a) u r) Q E s := by
  rcases g with ⟨kvs, k, e, ey, l, eH⟩ | ⟨kvs, k, b, e, ey, eb, l, eH⟩
  . subst ey eH
    obtain ⟨z, hd, vs, rel, dd⟩ := dk_of I.hok e
    have hz : vs.length <= sizeLine := by rw [<- rel.length]; exact z
    have hl : (y0 kvs k v).length <= sizeLine := by have := N2 kvs k v; omega
    refine wpAny_setItem_pairs (hsz := hz) (a1w ry) dd λ h' dd' hs => h _ ?_
    have he : ∃ q, h'.get? a = some q := let ⟨q, _, _, hq, _⟩ := dd'; ⟨q, hq⟩
    exact a2t I (by rw [e]; exact True.intro) hs he (dk_new hl hd (rel.put k rv) dd')
  . subst ey eH
    cases (show u = Value.ref b from ry)
    obtain ⟨z, hd, xs, rel, dd⟩ := dt_of I.hok e
    have hz : xs.length <= sizeLine := by rw [<- Paired.length rel]; exact z
    have hl : (y0 kvs k v).length <= sizeLine := by have := N2 kvs k v; omega
    refine wpAny_setItem_heap (hsz := hz) (tupleKind_room_in1 hu) (a0l I.hok eb) dd λ h' dd' hs => h _ ?_
    obtain ⟨q, es, ep, hq, h2, h3, h4, _, h5⟩ := dd'
    refine a2t I (by rw [e]; exact True.intro) hs ⟨q, hq⟩ ⟨hl, hd, _, (rel.put k eb rv).keeps λ c ys ec => ?_, q, es, ep, hq, h2, h3, h4, h5⟩
    rw [b4 (ne_of ec e (λ z => nomatch z))]
    exact ec
end
section
variable {X : Cx} {pins : List (Addr × Obj)} {σ : St} {H : Hp} {s : Shared} {a : Addr} {kvs : List (Key × V)} {k : Key} {u : Value} {A : Around} {E : Value -> Shared -> Prop}
theorem d_len {Q : Value -> Shared -> Prop} (I : Inv X pins σ H s) (e : Rd H a (.dK kvs)) (h : ∀ t s', Inv X pins σ H s' -> Q (.int kvs.length t) s') : wpAny (model X.prog X.w) A (call (.builtin "len") [.ref a]) Q E s := by
  obtain ⟨z, hd, vs, rel, dd⟩ := S7 I.hok e
  refine call_len_dict hd dd (by rw [<- rel.length]; rw [sizeLine_eq] at z; omega) ?_
  rw [<- rel.length]
  exact h _ _ (I.tok _)
end
theorem a3r {X : Cx} {pins : List (Addr × Obj)} {σ : St} {H : Hp} {s : Shared} {a : Addr} {y : V} {o : Option V} (I : Inv X pins σ H s) (g : DGet H a y o) : s.TypeIs (.ref a) "dict" := by
  rcases g with ⟨kvs, k, e, _, _⟩ | ⟨kvs, k, b, e, _, _, _⟩
  . obtain ⟨_, _, vs, _, dd⟩ := S7 I.hok e
    exact dd.typeIs
  . obtain ⟨_, _, xs, _, dd⟩ := a1y I.hok e
    exact dd.typeIs
section
variable {X : Cx} {o i e value : Expr} {pos pos' tpos : Pos} {td ty tv : TE}
end
theorem a3s {P : Program} {w : World} {H : Hp} (h : Heap) (hb : sysModules < h.objs.size) : ObjOk P w H (h.push { cls := .type "dict", data := .dict #[] }) h.objs.size (.dK []) :=
  ⟨Nat.zero_le _, beq_eq_false_iff_ne.mpr (Ne.symm (Nat.ne_of_lt hb)), [], .nil, Heap.DictOf.new h⟩
theorem dt_empty {P : Program} {w : World} {H : Hp} (h : Heap) (hb : sysModules < h.objs.size) : ObjOk P w H (h.push { cls := .type "dict", data := .dict #[] }) h.objs.size (.dT []) :=
  ⟨Nat.zero_le _, beq_eq_false_iff_ne.mpr (Ne.symm (Nat.ne_of_lt hb)), [], .nil, _, #[], 0, Heap.get?_push_size _ rfl, ⟨rfl, rfl, rfl⟩, rfl, rfl, List.nodup_nil⟩
def tDNewK : TE := λ _ H Q => ∀ p, H p = none -> Q (.ref p) (upd H p (.dK []))
def tDNewT : TE := λ _ H Q => ∀ p, H p = none -> Q (.ref p) (upd H p (.dT []))
section
variable {X : Cx} {pos : Pos}
theorem pe_dnewK : PE X (.Dict [] [] pos) tDNewK := λ pins s σ H Q I h =>
  wpAny_Dict_empty ⟨.ref s.heap.objs.size, _, I.laid (a := s.heap.objs.size) (o := .dK []) (t' := s.toks) (λ _ _ q => Heap.get?_push_of_some _ q) (Nat.le_refl _) (a3s s.heap I.big), rfl, h _ (I.hok.fresh (Nat.le_refl _))⟩
theorem pe_dnewT : PE X (.Dict [] [] pos) tDNewT := λ pins s σ H Q I h =>
  wpAny_Dict_empty ⟨.ref s.heap.objs.size, _, I.laid (a := s.heap.objs.size) (o := .dT []) (t' := s.toks) (λ _ _ q => Heap.get?_push_of_some _ q) (Nat.le_refl _) (dt_empty s.heap I.big), rfl, h _ (I.hok.fresh (Nat.le_refl _))⟩
end
def tPairs : List (TE × TE) -> St -> Hp -> (List (V × V) -> Hp -> Prop) -> Prop
  | [], _, H, Q => Q [] H
  | (tk, tv) :: r, σ, H, Q => tk σ H λ x H1 => tv σ H1 λ y H2 => tPairs r σ H2 λ ps H3 => Q ((x, y) :: ps) H3
abbrev VV : List (V × V) -> List (Value × Value) -> Prop := Paired λ p q => RelV p.1 q.1 /\ RelV p.2 q.2
def PPs (X : Cx) (pos : Pos) (keys : List (Option Expr)) (values : List Expr) (trs : List (TE × TE)) : Prop :=
  ∀ (pins : List (Addr × Obj)) (s : Shared) (σ : St) (H : Hp) (Q : List (V × V) -> Hp -> Prop), Inv X pins σ H s -> tPairs trs σ H Q →
    wpAny (model X.prog X.w) X.A (evalPairs (pairTrees keys values X.env pos)) (λ vs s' => ∃ ps H', Inv X pins σ H' s' /\ VV ps vs /\ Q ps H') X.xe s
theorem pps_nil {X : Cx} {pos : Pos} : PPs X pos [] [] [] := λ pins s σ H Q I h => pairTrees_nil_walk ⟨[], H, I, .nil, h⟩
theorem pps_cons {X : Cx} {pos : Pos} {k v : Expr} {ks : List (Option Expr)} {vs : List Expr} {tk tv : TE} {trs : List (TE × TE)} (hk : PE X k tk) (hv : PE X v tv) (hr : PPs X pos ks vs trs) :
    PPs X pos (some k :: ks) (v :: vs) ((tk, tv) :: trs) := λ pins s σ H Q I h =>
  pairTrees_cons_walk (thn (hk pins s σ H _ I h) λ u s1 ⟨x, H1, I1, rx, q1⟩ => thn (hv pins s1 σ H1 _ I1 q1) λ w2 s2 ⟨y, H2, I2, ry, q2⟩ =>
    thn (hr pins s2 σ H2 _ I2 q2) λ ws s3 ⟨ps, H3, I3, rel, q3⟩ => ⟨(x, y) :: ps, H3, I3, .cons ⟨rx, ry⟩ rel, q3⟩)
def U8 (kvs more : List (Key × V)) : List (Key × V) := more.foldl (λ acc kv => y0 acc kv.1 kv.2) kvs
theorem KV.merge : ∀ {more : List (Key × V)} {rs : List (Key × Value)} {kvs : List (Key × V)} {vs : List (Key × Value)}, KV more rs -> KV kvs vs -> KV (U8 kvs more) (merged vs rs) := by
  intro more rs kvs vs r
  unfold KV at r
  induction r generalizing kvs vs with
  | nil => intro q; exact q
  | @cons p q ps qs h t ih =>
    intro r0
    have e : KV (y0 kvs p.1 p.2) (stored vs q.1 q.2) := by
      have := r0.put p.1 h.2
      rw [<- h.1]; exact this
    exact ih e
theorem P7 : ∀ (more kvs : List (Key × V)), (U8 kvs more).length <= kvs.length + more.length
  | [], kvs => by show kvs.length <= kvs.length + 0; omega
  | p :: r, kvs => by
    have h1 := P7 r (y0 kvs p.1 p.2)
    have h2 := N2 kvs p.1 p.2
    show (U8 (y0 kvs p.1 p.2) r).length <= _
    rw [List.length_cons]; omega
theorem a0m {P : Program} {w : World} : ∀ {kvs : List (Key × V)} {ws : List (Value × Value)}, VV (kvs.map λ kv => (kV kv.1, kv.2)) ws -> ∃ rs, Carries (e7 P w) ws rs /\ KV kvs rs
  | [], _, r => by rw [List.map_nil] at r; cases r; exact ⟨[], True.intro, .nil⟩
  | p :: kvs, _, r => by
    rw [List.map_cons] at r
    cases r with
    | @cons a b as bs h t =>
      obtain ⟨rs, c, q⟩ := a0m (P := P) (w := w) t
      obtain ⟨b1, b2⟩ := b
      exact ⟨(p.1, b2) :: rs, ⟨a1w h.1, rfl, c⟩, .cons ⟨rfl, h.2⟩ q⟩
def a1A (trs : List (TE × TE)) : TE := λ σ H Q => ∀ p, H p = none -> tPairs trs σ (upd H p (.dK [])) λ ps H2 => H2 p = some (.dK []) /\ ∃ kvs : List (Key × V), ps = kvs.map (λ kv => (kV kv.1, kv.2)) /\ kvs.length <= 15 /\ Q (.ref p) (upd H2 p (.dK (U8 [] kvs)))
theorem pe_disp {X : Cx} {pos : Pos} {keys : List (Option Expr)} {values : List Expr} {trs : List (TE × TE)} (h : PPs X pos keys values trs) (hall : keys.all (·.isSome) = true) (hl : keys.length = values.length) (h0 : keys ≠ [])
    (h15 : keys.length <= 15) : PE X (.Dict keys values pos) (a1A trs) := by
  intro pins s σ H Q I q
  have hn := I.hok.fresh (Nat.le_refl s.heap.objs.size)
  have I1 := I.laid (a := s.heap.objs.size) (o := .dK []) (h' := s.heap.push { cls := .type "dict", data := .dict #[] }) (t' := s.toks) (λ _ _ q => Heap.get?_push_of_some _ q) (Nat.le_refl _) (a3s s.heap I.big)
  refine wpAny_Dict_walk (knd := e7 X.prog X.w) hall hl h0 h15 (thn (h pins _ σ _ _ I1 (q _ hn)) λ ws s2 ⟨ps, H2, I2, rel, e, kvs, ep, lk, q2⟩ => ?_)
  subst ep
  obtain ⟨rs, c, rk⟩ := a0m (P := X.prog) (w := X.w) rel
  obtain ⟨z, hd, vs0, r0, dd⟩ := dk_of I2.hok e
  cases r0
  refine ⟨rs, c, dd, λ h' dd' hs => ⟨.ref s.heap.objs.size, _, ?_, rfl, q2⟩⟩
  have hz : (U8 [] kvs).length <= sizeLine := by
    have h1 := P7 kvs []
    rw [List.length_nil] at h1
    rw [sizeLine_eq]; omega
  have he : ∃ q, h'.get? s.heap.objs.size = some q := let ⟨q, _, _, hq, _⟩ := dd'; ⟨q, hq⟩
  exact a2t I2 (by rw [e]; exact True.intro) hs he (dk_new hz hd (rk.merge .nil) dd')
def IsD (H : Hp) (a : Addr) : Prop := (∃ kvs, Rd H a (.dK kvs)) \/ ∃ kvs, Rd H a (.dT kvs)
theorem isD_at {X : Cx} {pins : List (Addr × Obj)} {σ : St} {H : Hp} {s : Shared} {a : Addr} (I : Inv X pins σ H s) (d : IsD H a) :
    s.TypeIs (.ref a) "dict" /\ (∀ b, Value.ref a = .ref b -> ∃ ob, s.heap.get? b = some ob /\ ob.dict = none) /\ (a == sysModules) = false := by
  rcases d with ⟨kvs, e⟩ | ⟨kvs, e⟩
  . obtain ⟨_, hd, vs, _, dd⟩ := S7 I.hok e
    refine ⟨dd.typeIs, λ b q => ?_, hd⟩
    cases q
    obtain ⟨ob, _, _, h1, h2, _⟩ := dd
    exact ⟨ob, h1, h2.2.1⟩
  . obtain ⟨_, hd, xs, _, dd⟩ := a1y I.hok e
    refine ⟨dd.typeIs, λ b q => ?_, hd⟩
    cases q
    obtain ⟨ob, _, _, h1, h2, _⟩ := dd
    exact ⟨ob, h1, h2.2.1⟩
section
variable {X : Cx} {pins : List (Addr × Obj)} {σ : St} {H : Hp} {s : Shared} {a : Addr} {y d : V} {u r : Value} {o : Option V} {A : Around} {E : Value -> Shared -> Prop}
end
section
variable {X : Cx} {o e f : Expr} {apos cpos : Pos} {td ty tx : TE}
end
section
variable {X : Cx} {pins : List (Addr × Obj)} {σ : St} {H : Hp} {s : Shared} {a : Addr} {kvs : List (Key × V)} {A : Around} {E : Value -> Shared -> Prop}
end
section
variable {X : Cx} {pins : List (Addr × Obj)} {σ : St} {H : Hp} {s : Shared} {a : Addr} {y : V} {u : Value} {A : Around} {E : Value -> Shared -> Prop}
end
end L2
namespace HT
open PySem PyProof.Rows
section
open PySem.SeqAt
open PySem.AutoSeq1 (wpAny_loadPart')
open PySem.MeetsSeq PySem.MeetsSeq2 PySem.MeetsSeq3
end
section
variable {prog : Program} {w : World} {A : Around} {E : Value -> Shared -> Prop} {s : Shared}
def sIx (n d : Nat) : Option Int -> Nat
  | none => d
  | some v => if v < 0 then (v + (n : Int)).toNat else min v.toNat n
theorem S9 (n d : Nat) : sIx n d none = d := rfl
theorem a2u (n d k : Nat) : sIx n d (some (k : Int)) = min k n := by
  show (if (k : Int) < 0 then ((k : Int) + (n : Int)).toNat else min (k : Int).toNat n) = min k n
  rw [if_neg (by omega), Int.toNat_natCast]
end
end HT
namespace L2
open PySem PySem.Spec PyProof.Rows
abbrev TO := St -> Hp -> (Option Int -> Hp -> Prop) -> Prop
def PO (X : Cx) (e : Option Expr) (t : TO) : Prop :=
  ∀ (pins : List (Addr × Obj)) (s : Shared) (σ : St) (H : Hp) (Q : Option Int -> Hp -> Prop), Inv X pins σ H s -> t σ H Q →
    wpAny (model X.prog X.w) X.A (evalPart e X.env) (λ u s' => ∃ o H', Inv X pins σ H' s' /\ IsPart u o /\ Q o H') X.xe s
def g6 : TO := λ _ H Q => Q none H
def tPart (t : TE) : TO := λ σ H Q => t σ H λ x H1 => ∃ i, x = .int i /\ Q (some i) H1
section
variable {X : Cx} {e : Expr} {te : TE} {lo hi : Option Expr} {tl th : TO} {pos p2 : Pos}
theorem po_none : PO X none g6 := by
  intro pins s σ H Q I h
  rw [evalPart_none]
  exact wpAny_pure ⟨none, H, I, .none, h⟩
theorem po_some (h : PE X e te) : PO X (some e) (tPart te) := by
  intro pins s σ H Q I hw
  rw [evalPart_some]
  refine thn (h pins s σ H _ I hw) λ u s1 ⟨x, H1, I1, r1, q1⟩ => ?_
  obtain ⟨i, rfl, q⟩ := q1
  obtain ⟨t, rfl⟩ := r1
  exact ⟨some i, H1, I1, .int i t, q⟩
def SlR (X : Cx) (r : V -> Option Int -> Option Int -> Hp -> VK -> Prop) : Prop :=
  ∀ (pins : List (Addr × Obj)) (s : Shared) (σ : St) (H : Hp) (x : V) (v vl vu : Value) (lo hi : Option Int) (sl : Addr) (Q : VK), Inv X pins σ H s -> RelV x v -> s.heap.IsSliceOf sl vl vu .none -> IsPart vl lo -> IsPart vu hi -> r x lo hi H Q →
    ∃ T id, typeLookup (.type T) "__getitem__" = pure (some (.builtin id)) /\ s.TypeIs v T /\ wpAny (model X.prog X.w) X.A (getItem v (.ref sl)) (EP X pins σ Q) X.xe s
def tSl (r : V -> Option Int -> Option Int -> Hp -> VK -> Prop) (te : TE) (tl th : TO) : TE := λ σ H Q => te σ H λ x H1 => tl σ H1 λ l H2 => th σ H2 λ u H3 => r x l u H3 Q
theorem a3t {r : V -> Option Int -> Option Int -> Hp -> VK -> Prop} (hr : SlR X r) (he : PE X e te) (hl : PO X lo tl) (hu : PO X hi th) : PE X (.Subscript e (.Slice lo hi none p2) pos) (tSl r te tl th) := by
  intro pins s σ H Q I h
  refine Subscript_ (thn (he pins s σ H _ I h) λ v s1 ⟨x, H1, I1, r1, q1⟩ => ?_)
  refine wpAny_Slice (thn (hl pins s1 σ H1 _ I1 q1) λ vl s2 ⟨l, H2, I2, pl, q2⟩ => thn (hu pins s2 σ H2 _ I2 q2) λ vu s3 ⟨u, H3, I3, pu, q3⟩ => ?_)
  rw [evalPart_none]
  refine wpAny_pure ?_
  have I4 : Inv X pins σ H3 { s3 with heap := s3.heap.push { cls := .type "slice", data := .fields #[vl, vu, .none] } } := I3.kept (t' := s3.toks) λ b ob q => Heap.get?_push_of_some _ q
  obtain ⟨T, id, hT, ht, hg⟩ := hr pins { s3 with heap := s3.heap.push { cls := .type "slice", data := .fields #[vl, vu, .none] } } σ H3 x v vl vu l u s3.heap.objs.size Q I4 r1 (Heap.IsSliceOf.new ..) pl pu q3
  show wpAny (model X.prog X.w) X.A (subscriptTail e (.Slice lo hi none p2) v (.ref s3.heap.objs.size)) (EP X pins σ Q) X.xe { s3 with heap := s3.heap.push { cls := .type "slice", data := .fields #[vl, vu, .none] } }
  exact tail_any (ops := [.ref s3.heap.objs.size, v]) ht hT hg (by with_unfolding_all rfl)
def J9 (xs : List V) (lo hi : Option Int) : List V := (xs.drop (HT.sIx xs.length 0 lo)).take (HT.sIx xs.length xs.length hi - HT.sIx xs.length 0 lo)
theorem a3u (xs : List V) (lo hi : Option Int) : (J9 xs lo hi).length <= xs.length := by
  unfold J9
  rw [List.length_take, List.length_drop]
  omega
end
end L2
namespace L2
open PySem PySem.Spec PyProof.Rows
def ixN (n : Nat) (i : Int) : Option Nat := if 0 <= i then (if i < n then some i.toNat else none) else if -(n : Int) <= i then some (i + n).toNat else none
def atI {α : Type} (xs : List α) (i : Int) : Option α := (ixN xs.length i).bind λ j => xs[j]?
theorem a2v {n : Nat} {i : Int} {j : Nat} (h : ixN n i = some j) : seqIndex? i n = some j /\ j < n /\ -(n : Int) <= i /\ i < n := by
  unfold ixN at h
  by_cases h0 : 0 <= i
  . rw [if_pos h0] at h
    by_cases h1 : i < n
    . rw [if_pos h1] at h
      have e : i.toNat = j := Option.some.inj h
      exact ⟨by rw [seqIndex_of h0 h1, e], by omega, by omega, h1⟩
    . rw [if_neg h1] at h; cases h
  . rw [if_neg h0] at h
    by_cases h1 : -(n : Int) <= i
    . rw [if_pos h1] at h
      have e : (i + n).toNat = j := Option.some.inj h
      exact ⟨by rw [seqIndex_neg (by omega) h1, e], by omega, h1, by omega⟩
    . rw [if_neg h1] at h; cases h
theorem a2w {α : Type} {xs : List α} {i : Int} {v : α} (h : atI xs i = some v) : ∃ j, seqIndex? i xs.length = some j /\ xs[j]? = some v /\ j < xs.length /\ -(xs.length : Int) <= i /\ i < xs.length := by
  unfold atI at h
  cases e : ixN xs.length i with
  | none => rw [e] at h; cases h
  | some j =>
    rw [e] at h
    obtain ⟨h1, h2, h3, h4⟩ := a2v e
    exact ⟨j, h1, h, h2, h3, h4⟩
theorem K0 {α : Type} {xs : List α} {j : Nat} {v : α} (h : xs[j]? = some v) : atI xs (j : Int) = some v := by
  have hj : j < xs.length := (List.getElem?_eq_some_iff.mp h).1
  have e : ixN xs.length (j : Int) = some j := by
    unfold ixN
    rw [if_pos (by omega), if_pos (by omega)]; simp
  unfold atI; rw [e]; exact h
def PlainIx (b : Expr) : Prop := ∀ o i, subscripted b false o i = operate [o, i] (getItem o i)
def IxR (X : Cx) (r : R2) : Prop :=
  ∀ (value slice : Expr) (pins : List (Addr × Obj)) (s : Shared) (σ : St) (H : Hp) (x y : V) (v u : Value) (Q : VK), Inv X pins σ H s -> RelV x v -> RelV y u -> r x y H Q →
    subscripted slice false v u = operate [v, u] (getItem v u) -> wpAny (model X.prog X.w) X.A (subscriptTail value slice v u) (EP X pins σ Q) X.xe s
def MtR (X : Cx) (id : String) (r : V -> List V -> Hp -> VK -> Prop) : Prop :=
  ∀ (pins : List (Addr × Obj)) (s : Shared) (σ : St) (H : Hp) (x : V) (xs : List V) (v : Value) (us : List Value) (Q : VK), Inv X pins σ H s -> RelV x v -> Vals xs us -> r x xs H Q →
    wpAny (model X.prog X.w) X.A (call (.builtin id) (v :: us)) (EP X pins σ Q) X.xe s
section
variable {X : Cx} {a b : Expr} {ta tb : TE} {pos : Pos}
theorem IxR.or {r r' : R2} (h : IxR X r) (h' : IxR X r') : IxR X (λ x y H Q => r x y H Q \/ r' x y H Q) := by
  intro value slice pins s σ H x y v u Q I rx ry q hs
  rcases q with q | q
  . exact h value slice pins s σ H x y v u Q I rx ry q hs
  . exact h' value slice pins s σ H x y v u Q I rx ry q hs
theorem pe_ix {r : R2} (hr : IxR X r) (ha : PE X a ta) (hb : PE X b tb) (hs : PlainIx b) : PE X (.Subscript a b pos) (tOp r ta tb) := by
  intro pins s σ H Q I h
  exact Subscript_ (binT ha hb I h λ v u s2 x y H2 I2 rx ry q => hr a b pins s2 σ H2 x y v u Q I2 rx ry q (hs _ _))
def rIxL (K : PySem.W.Frag) : R2 := λ x y H Q => ∃ p xs i v, x = .ref p /\ y = .int i /\ SqL K H p xs /\ atI xs i = some v /\ Q v H
def rIxT (K : PySem.W.Frag) : R2 := λ x y H Q => ∃ p xs i v, x = .ref p /\ y = .int i /\ SqT K H p xs /\ atI xs i = some v /\ Q v H
def rIxS : R2 := λ x y H Q => ∃ z i c, x = .str z /\ y = .int i /\ z.length <= sizeLine /\ atI z.cps.toList i = some c /\ Q (.str ⟨#[c]⟩) H
theorem ix_list : IxR X (rIxL X.K) := by
  intro value slice pins s σ H x y v u Q I rx ry h hs
  obtain ⟨p, xs, i, z, rfl, rfl, hq, he, q⟩ := h
  cases rx
  obtain ⟨t, rfl⟩ := ry
  obtain ⟨its, r, pl, hz⟩ := I.list hq
  obtain ⟨j, h1, h2, h3, h4, h5⟩ := a2w he
  obtain ⟨w, ew, rw'⟩ := r.get h2
  have hl := r.length
  have hn := Q8
  have fin : EP X pins σ Q w s := ⟨z, H, I, rw', q⟩
  by_cases h0 : 0 <= i
  . have hj : i.toNat = j := by
      rw [seqIndex_of h0 h5] at h1
      exact Option.some.inj h1
    exact item_listR pl.isList h0 (by omega) (by rw [hj]; simpa using ew) fin hs
  . have hj : (i + (its.toArray.size : Int)).toNat = j := by
      rw [seqIndex_neg (by omega) h4] at h1
      rw [List.size_toArray, <- hl]
      exact Option.some.inj h1
    exact subscriptTail_builtinR (x := w) pl.isList.typeIs slot_list_getitem.lookup
      (wpAny_getItem_list_neg (Q := λ r s' => r = w /\ EP X pins σ Q r s') pl.isList (by omega) (by rw [List.size_toArray] <;> omega) (by omega) (by rw [hj]; simpa using ew) ⟨rfl, fin⟩) hs
theorem ix_tup : IxR X (rIxT X.K) := by
  intro value slice pins s σ H x y v u Q I rx ry h hs
  obtain ⟨p, xs, i, z, rfl, rfl, hq, he, q⟩ := h
  cases rx
  obtain ⟨t, rfl⟩ := ry
  obtain ⟨its, r, pl, hz⟩ := I.tuple hq
  obtain ⟨j, h1, h2, h3, h4, h5⟩ := a2w he
  obtain ⟨w, ew, rw'⟩ := r.get h2
  have hl := r.length
  have hn := Q8
  have fin : EP X pins σ Q w s := ⟨z, H, I, rw', q⟩
  exact subscriptTail_builtinR (x := w) pl.typeIs slot_tuple_getitem.lookup
    (getItem_tuple (j := j) (Q := λ r s' => r = w /\ EP X pins σ Q r s') pl (by omega) (by omega) (by rw [List.size_toArray, <- hl]; exact h1) (by simpa using ew) ⟨rfl, fin⟩) hs
theorem ix_str : IxR X rIxS := by
  intro value slice pins s σ H x y v u Q I rx ry h hs
  obtain ⟨z, i, c, rfl, rfl, hz, he, q⟩ := h
  obtain ⟨t, rfl⟩ := rx
  obtain ⟨t', rfl⟩ := ry
  obtain ⟨j, h1, h2, h3, h4, h5⟩ := a2w he
  have hl : z.cps.toList.length = z.length := by simp [Str.length]
  rw [hl] at h1 h4 h5
  have hn := Q8
  exact tail_any (typeIs_str s z t) slot_str_getitem.lookup (getItem_str (c := c) (by
    have e1 : decide (i < -(2 ^ 63 : Int)) = false := decide_eq_false (by omega)
    have e2 : decide (i ≥ 2 ^ 63) = false := decide_eq_false (by omega)
    rw [e1, e2, Bool.or_false]) (by rw [h1]; simpa using h2) ⟨.str ⟨#[c]⟩, H, I.tok _, ⟨_, rfl⟩, q⟩) hs
theorem a4C (its : List Value) (n j : Nat) (u : Value) : Obj.mapSeq (·.setIfInBounds j u) { cls := .type "list", data := .seq its.toArray n } = { cls := .type "list", data := .seq (its.set j u).toArray n } := by
  simp [Obj.mapSeq]
theorem Inv.lst {pins : List (Addr × Obj)} {σ : St} {H : Hp} {s : Shared} {p : Addr} {xs : List V} (I : Inv X pins σ H s) (h : H p = some (.lst xs)) :
    ∃ (its : List Value) (n : Nat), Vals xs its /\ s.heap.get? p = some { cls := .type "list", data := .seq its.toArray n } /\ xs.length <= sizeLine := by
  obtain ⟨z, its, n, r, e⟩ := I.hok p _ h
  exact ⟨its, n, r, e, z⟩
theorem Inv.lstUpd {pins : List (Addr × Obj)} {σ : St} {H : Hp} {s : Shared} {p : Addr} {xs ys : List V} {its its' : List Value} {n n' : Nat} {f : Obj -> Obj} (I : Inv X pins σ H s) (h : H p = some (.lst xs))
    (ho : s.heap.get? p = some { cls := .type "list", data := .seq its.toArray n }) (hf : f { cls := .type "list", data := .seq its.toArray n } = { cls := .type "list", data := .seq its'.toArray n' }) (r : Vals ys its') (hz : ys.length <= sizeLine) (t : Nat) :
    Inv X pins σ (upd H p (.lst ys)) { s with heap := s.heap.update p f, toks := t } := by
  have e : (s.heap.update p f).get? p = some { cls := .type "list", data := .seq its'.toArray n' } := by
    rw [Heap.get?_update_self f ho (by rw [hf] <;> rfl), hf]
  refine I.write (x := p) (e := p) (by rw [h]; trivial) (.inl rfl) (λ b u hb q => (Heap.get?_update_other _ _ (Ne.symm hb)).trans q) ⟨_, e⟩ ?_
  exact ⟨hz, its', n', r, e⟩
def rSetL : V -> V -> V -> Hp -> (Hp -> Prop) -> Prop := λ o i v H Q => ∃ p xs k j, o = .ref p /\ i = .int k /\ H p = some (.lst xs) /\ ixN xs.length k = some j /\ Q (upd H p (.lst (xs.set j v)))
theorem set_list : PSet X rSetL := by
  intro pins s σ H o i v ov iv u Q I ro ri rv h
  obtain ⟨p, xs, k, j, rfl, rfl, hp, hj, q⟩ := h
  cases ro
  obtain ⟨t, rfl⟩ := ri
  obtain ⟨its, n, r, ho, hz⟩ := I.lst hp
  obtain ⟨h1, h2, h3, h4⟩ := a2v hj
  have hl := r.length
  have hn := Q8
  have I' : Inv X pins σ (upd H p (.lst (xs.set j v))) { s with heap := s.heap.update p (Obj.mapSeq (·.setIfInBounds j u)) } :=
    I.lstUpd hp ho (a4C its n j u) (r.set rv j) (by rw [List.length_set]; exact hz) s.toks
  by_cases h0 : 0 <= k
  . have hk : k.toNat = j := by
      rw [seqIndex_of h0 h4] at h1
      exact Option.some.inj h1
    exact PySem.W.ki_setAt ho h0 (by omega) (by rw [List.size_toArray, <- hl]; exact h4) (by rw [hk]; exact ⟨_, I', q⟩)
  . have hk : (k + (its.toArray.size : Int)).toNat = j := by
      rw [seqIndex_neg (by omega) h3] at h1
      rw [List.size_toArray, <- hl]
      exact Option.some.inj h1
    exact PySem.W.ki_setBack ho (by omega) (by rw [List.size_toArray, <- hl]; exact h3) (by omega) (by rw [hk]; exact ⟨_, I', q⟩)
theorem a2x (lo hi : Option Int) (n : Nat) : (sliceBounds lo hi none n).1 = ((HT.sIx n 0 lo : Nat) : Int) /\ (sliceBounds lo hi none n).2.1 = ((HT.sIx n n hi : Nat) : Int) /\ (sliceBounds lo hi none n).2.2 = 1 := by
  refine ⟨?_, ?_, rfl⟩
  . cases lo with
    | none => simp [sliceBounds, HT.sIx]
    | some i =>
      simp only [sliceBounds, HT.sIx, Option.getD_none, show (1 : Int) > 0 by decide, if_true]
      by_cases h : i < 0
      . simp only [h, if_true] <;> omega
      . simp only [h, if_false] <;> omega
  . cases hi with
    | none => simp [sliceBounds, HT.sIx]
    | some i =>
      simp only [sliceBounds, HT.sIx, Option.getD_none, show (1 : Int) > 0 by decide, if_true]
      by_cases h : i < 0
      . simp only [h, if_true] <;> omega
      . simp only [h, if_false] <;> omega
theorem a1e (its : List Value) (lo hi : Option Int) : slicePick its.toArray lo hi none = ((its.drop (HT.sIx its.length 0 lo)).take (HT.sIx its.length its.length hi - HT.sIx its.length 0 lo)).toArray := by
  obtain ⟨h1, h2, h3⟩ := a2x lo hi its.toArray.size
  unfold slicePick
  rw [h1, h2, h3]
  simp only [sliceRange_one, pick_run, List.size_toArray] <;> rfl
def rSlL (K : PySem.W.Frag) : V -> Option Int -> Option Int -> Hp -> VK -> Prop := λ x lo hi H Q => ∃ a xs, x = .ref a /\ SqL K H a xs /\ ∀ p, H p = none -> Q (.ref p) (upd H p (.lst (J9 xs lo hi)))
theorem sl_list : SlR X (rSlL X.K) := by
  intro pins s σ H x v vl vu lo hi sl Q I rx hs pl pu h
  obtain ⟨a, xs, rfl, hx, q⟩ := h
  cases rx
  obtain ⟨its, r, ht, hz⟩ := I.list hx
  have hlen := r.length
  refine ⟨"list", _, slot_list_getitem.lookup, ht.isList.typeIs, ?_⟩
  refine wpAny_getItem_list_slice ht.isList hs pl pu .none (by simp) ?_ (by rw [List.size_toArray] <;> omega)
  rw [a1e, <- hlen]
  refine ⟨.ref s.heap.objs.size, _, I.laid (t' := s.toks) (o := .lst (J9 xs lo hi)) (λ b ob q => Heap.get?_push_of_some _ q) (Nat.le_refl _) ?_, rfl, q _ (I.hok.fresh (Nat.le_refl _))⟩
  exact ⟨Nat.le_trans (a3u xs lo hi) hz, _, 0, (r.drop (HT.sIx xs.length 0 lo)).take (HT.sIx xs.length xs.length hi - HT.sIx xs.length 0 lo), Heap.get?_push_size _ rfl⟩
def a0n : V -> Bool
  | .non => true
  | .bl _ => true
  | .int _ => true
  | .str _ => true
  | _ => false
def eqV : V -> V -> Bool
  | .non, .non => true
  | .bl a, .bl b => a == b
  | .bl a, .int b => (if a then 1 else 0) == b
  | .int a, .bl b => a == (if b then 1 else 0)
  | .int a, .int b => a == b
  | .str a, .str b => a == b
  | _, _ => false
theorem eqAt_V {A : Around} {s : Shared} {y x : V} {u v : Value} (ry : RelV y u) (rx : RelV x v) (fy : a0n y = true) (fx : a0n x = true) : SeqAt.EqAt A s u v (eqV y x) := by
  cases y with
  | non =>
    cases ry
    cases x with
    | non => cases rx; exact SeqAt.EqAt.same _
    | bl b => cases rx; exact SeqAt.EqAt.none_bool b
    | int b => obtain ⟨t, rfl⟩ := rx; exact SeqAt.EqAt.none_int b t
    | str b => obtain ⟨t, rfl⟩ := rx; exact SeqAt.EqAt.none_str b t
    | _ => exact absurd (show false = true from fx) Bool.false_ne_true
  | bl a =>
    cases ry
    cases x with
    | non => cases rx; exact SeqAt.EqAt.bool_none a
    | bl b => cases rx; exact SeqAt.EqAt.bool_bool a b
    | int b => obtain ⟨t, rfl⟩ := rx; exact SeqAt.EqAt.bool_int a b t
    | str b => obtain ⟨t, rfl⟩ := rx; exact SeqAt.EqAt.bool_str a b t
    | _ => exact absurd (show false = true from fx) Bool.false_ne_true
  | int a =>
    obtain ⟨t', rfl⟩ := ry
    cases x with
    | non => cases rx; exact SeqAt.EqAt.int_none a t'
    | bl b => cases rx; exact SeqAt.EqAt.int_bool a t' b
    | int b => obtain ⟨t, rfl⟩ := rx; exact SeqAt.EqAt.int_int a t' b t
    | str b => obtain ⟨t, rfl⟩ := rx; exact SeqAt.EqAt.int_str a t' b t
    | _ => exact absurd (show false = true from fx) Bool.false_ne_true
  | str a =>
    obtain ⟨t', rfl⟩ := ry
    cases x with
    | non => cases rx; exact SeqAt.EqAt.str_none a t'
    | bl b => cases rx; exact SeqAt.EqAt.str_bool a t' b
    | int b => obtain ⟨t, rfl⟩ := rx; exact SeqAt.EqAt.str_int a t' b t
    | str b => obtain ⟨t, rfl⟩ := rx; exact SeqAt.EqAt.str_str a t' b t
    | _ => exact absurd (show false = true from fx) Bool.false_ne_true
  | _ => exact absurd (show false = true from fy) Bool.false_ne_true
theorem T0 : CallR X (.builtin "len") (λ xs H Q => ∃ p ys, xs = [.ref p] /\ (SqL X.K H p ys \/ SqT X.K H p ys) /\ Q (.int ys.length) H) := by
  intro pins s σ H xs us Q I r h
  obtain ⟨p, ys, rfl, hq, q⟩ := h
  obtain ⟨u, rfl, rx⟩ := x0 r
  cases rx
  have hn := Q8
  rcases hq with hq | hq
  . obtain ⟨its, r', pl, hz⟩ := I.list hq
    have hlen := r'.length
    exact Calls.call_len_list pl.isList (by simp only [List.size_toArray] <;> omega) ⟨.int ys.length, H, I.tok _, ⟨s.toks + 1, by rw [List.size_toArray, hlen]⟩, q⟩
  . obtain ⟨its, r', pl, hz⟩ := I.tuple hq
    have hlen := r'.length
    exact len_tuple pl (by simp only [List.size_toArray] <;> omega) ⟨.int ys.length, H, I.tok _, ⟨s.toks + 1, by rw [List.size_toArray, hlen]⟩, q⟩
theorem a2y : CallR X (.builtin "len") (λ xs H Q => ∃ z, xs = [.str z] /\ z.length <= sizeLine /\ Q (.int z.length) H) := by
  intro pins s σ H xs us Q I r h
  obtain ⟨z, rfl, hz, q⟩ := h
  obtain ⟨u, rfl, t, rfl⟩ := x0 r
  have hn := Q8
  exact len_str (by omega) ⟨.int z.length, H, I.tok _, ⟨_, rfl⟩, q⟩
theorem CallR.or {f : Value} {r r' : List V -> Hp -> VK -> Prop} (h : CallR X f r) (h' : CallR X f r') : CallR X f (λ xs H Q => r xs H Q \/ r' xs H Q) := by
  intro pins s σ H xs us Q I rs q
  rcases q with q | q
  . exact h pins s σ H xs us Q I rs q
  . exact h' pins s σ H xs us Q I rs q
theorem T1 : CallR X (.type "list") (λ xs H Q => ∃ p ys, xs = [.ref p] /\ (SqL X.K H p ys \/ SqT X.K H p ys) /\ ∀ l, H l = none -> Q (.ref l) (upd H l (.lst ys))) := by
  intro pins s σ H xs us Q I r h
  obtain ⟨p, ys, rfl, hq, q⟩ := h
  obtain ⟨u, rfl, rx⟩ := x0 r
  cases rx
  have fin : ∀ (its : List Value), Vals ys its -> ys.length <= sizeLine -> ∀ (h' : Heap) (c' : Nat), (∀ b o', s.heap.get? b = some o' -> h'.get? b = some o') →
      h'.get? s.heap.objs.size = some { cls := .type "list", dict := none, data := .seq its.toArray c', slots := #[] } -> EP X pins σ Q (.ref s.heap.objs.size) { s with heap := h' } := λ its r' hz h' c' kp e =>
    ⟨.ref s.heap.objs.size, _, I.laid (t' := s.toks) kp (Nat.le_refl _) (show ObjOk X.prog X.w _ h' _ (.lst ys) from ⟨hz, its, c', r', e⟩), rfl, q _ (I.hok.fresh (Nat.le_refl _))⟩
  rcases hq with hq | hq
  . obtain ⟨its, r', pl, hz⟩ := I.list hq
    have hlen := r'.length
    obtain ⟨o, ho, hc, n, hd⟩ := pl.isList
    exact call_list_seq p (.inl rfl) ho hc hd (λ h' c' kp e => fin its r' hz h' c' kp e) (by simp only [List.size_toArray] <;> omega)
  . obtain ⟨its, r', pl, hz⟩ := I.tuple hq
    have hlen := r'.length
    obtain ⟨o, ho, hc, n, hd⟩ := pl
    exact call_list_seq p (.inr rfl) ho hc hd (λ h' c' kp e => fin its r' hz h' c' kp e) (by simp only [List.size_toArray] <;> omega)
theorem a1f : CallR X (.type "tuple") (λ xs H Q => ∃ p ys, xs = [.ref p] /\ ((SqL X.K H p ys /\ ∀ l, H l = none -> Q (.ref l) (upd H l (.tup ys))) \/ (SqT X.K H p ys /\ Q (.ref p) H))) := by
  intro pins s σ H xs us Q I r h
  obtain ⟨p, ys, rfl, h⟩ := h
  obtain ⟨u, rfl, rx⟩ := x0 r
  cases rx
  rcases h with ⟨hq, q⟩ | ⟨hq, q⟩
  . obtain ⟨its, r', pl, hz⟩ := I.list hq
    have hlen := r'.length
    refine call_tuple_list pl.isList (λ h' kp => ?_) (by simp only [List.size_toArray] <;> omega)
    have I1 : Inv X pins σ H { s with heap := h' } := I.kept (t' := s.toks) kp
    have I2 : Inv X pins σ (upd H h'.objs.size (.tup ys)) { s with heap := h'.push { cls := .type "tuple", data := .seq its.toArray } } :=
      I1.laid (t' := s.toks) (λ b o e => Heap.get?_push_of_some _ e) (Nat.le_refl _) (show ObjOk X.prog X.w _ _ _ (.tup ys) from ⟨hz, its, r', IsTup.new _ _⟩)
    exact ⟨.ref h'.objs.size, _, I2, rfl, q _ (I1.hok.fresh (Nat.le_refl _))⟩
  . obtain ⟨its, r', pl, hz⟩ := I.tuple hq
    exact call_tuple_same pl ⟨.ref p, H, I, rfl, q⟩
def tyV (K : PySem.W.Frag) (T : String) (x : V) (H : Hp) : Prop := match x with
  | .str _ => T = "str"
  | .int _ => T = "int"
  | .ref p => (T = "list" /\ ∃ xs, SqL K H p xs) \/ (T = "tuple" /\ ∃ o, K.lookup p = some o /\ o.cls = .type "tuple" /\ o.dict = none) ∨
      (T = "dict" /\ ((∃ kvs, H p = some (.dK kvs)) \/ ∃ kvs, H p = some (.dT kvs))) \/ (T = "set" /\ ∃ S n, H p = some (.set S n))
  | _ => False
theorem tyV_is {pins : List (Addr × Obj)} {σ : St} {H : Hp} {s : Shared} {T : String} {x : V} {v : Value} (I : Inv X pins σ H s) (r : RelV x v) (ty : tyV X.K T x H) :
    s.TypeIs v T /\ ∀ a, v = .ref a -> ∃ ob, s.heap.get? a = some ob /\ ob.dict = none := by
  cases x with
  | str z =>
    obtain ⟨t, rfl⟩ := r
    cases (show T = "str" from ty)
    exact ⟨typeIs_str s z t, λ _ e => nomatch e⟩
  | int i =>
    obtain ⟨t, rfl⟩ := r
    cases (show T = "int" from ty)
    exact ⟨typeIs_int s i t, λ _ e => nomatch e⟩
  | ref p =>
    cases r
    rcases ty with ⟨rfl, xs, hq⟩ | ⟨rfl, o, hk, hc, hd⟩ | ⟨rfl, hk⟩ | ⟨rfl, S, n, hk⟩
    . obtain ⟨its, _, pl, _⟩ := I.list hq
      refine ⟨pl.isList.typeIs, λ a e => ?_⟩
      cases e
      obtain ⟨o, n, e, c, hd, _⟩ := pl
      exact ⟨o, e, hd⟩
    . refine ⟨⟨o, I.kIn p o hk, hc⟩, λ a e => ?_⟩
      cases e
      exact ⟨o, I.kIn _ o hk, hd⟩
    . have z : ∃ o, s.heap.get? p = some o /\ o.ExactDict := by
        rcases hk with ⟨kvs, hk⟩ | ⟨kvs, hk⟩
        . obtain ⟨_, _, _, _, o, _, _, e, ex, _⟩ := I.hok p _ hk
          exact ⟨o, e, ex⟩
        . obtain ⟨_, _, _, _, o, _, _, e, ex, _⟩ := I.hok p _ hk
          exact ⟨o, e, ex⟩
      obtain ⟨o, e, ex⟩ := z
      refine ⟨⟨o, e, ex.1⟩, λ a e2 => ?_⟩
      cases e2
      exact ⟨o, e, ex.2.1⟩
    . obtain ⟨o, _, _, _, e, ex, _⟩ := I.hok p _ hk
      refine ⟨⟨o, e, ex.1⟩, λ a e2 => ?_⟩
      cases e2
      exact ⟨o, e, ex.2.1⟩
  | _ => exact False.elim ty
variable {o e : Expr} {es : List Expr} {to : TE} {t : TA} {name : Str} {apos cpos : Pos} {T id : String} {r : V -> List V -> Hp -> VK -> Prop}
/- xs.append(e), list.index on a module's tuple .. are MtR facts of 06m -/
end
end L2
namespace L2
open PySem PySem.Spec PyProof.Rows
def MtM (X : Cx) (id : String) (r : V -> List V -> Hp -> VK -> Prop) : Prop :=
  ∀ (pins : List (Addr × Obj)) (s : Shared) (σ : St) (H : Hp) (x : V) (xs : List V) (v : Value) (us : List Value) (Q : VK), Inv X pins σ H s -> RelV x v -> Vals xs us -> r x xs H Q →
    wpAny (model X.prog X.w) X.A (call (.builtin id) (v :: us)) (EP X pins σ Q) X.xe s
theorem Vals.one : ∀ {x : V} {us : List Value}, Vals [x] us -> ∃ u, us = [u] /\ RelV x u
  | _, _, .cons r .nil => ⟨_, rfl, r⟩
theorem Vals.eraseIdx : ∀ {xs : List V} {us : List Value} (i : Nat), Vals xs us -> Vals (xs.eraseIdx i) (us.eraseIdx i)
  | _, _, _, .nil => .nil
  | _, _, 0, .cons _ t => t
  | _, _, i + 1, .cons r t => .cons r (Vals.eraseIdx i t)
theorem Vals.rep {xs : List V} {us : List Value} (h : Vals xs us) : ∀ k : Nat, Vals (List.replicate k xs).flatten (List.replicate k us).flatten
  | 0 => .nil
  | k + 1 => by
    rw [List.replicate_succ, List.replicate_succ, List.flatten_cons, List.flatten_cons]
    exact Vals.append h (Vals.rep h k)
theorem a1B {α : Type} : ∀ (l : List α) (i : Nat), (l.eraseIdx i).length <= l.length
  | [], _ => Nat.le_refl _
  | _ :: _, 0 => Nat.le_succ _
  | _ :: r, i + 1 => Nat.succ_le_succ (a1B r i)
theorem a1C (its : List Value) : ∀ (k : Nat) (acc : List Value),
    List.foldl (λ x1 x2 => x1 ++ x2) acc.toArray (List.replicate k its.toArray) = (acc ++ (List.replicate k its).flatten).toArray
  | 0, acc => by simp
  | k + 1, acc => by
    have e : acc.toArray ++ its.toArray = (acc ++ its).toArray := by simp
    have e2 : (acc ++ its) ++ (List.replicate k its).flatten = acc ++ (List.replicate (k + 1) its).flatten := by
      rw [List.replicate_succ, List.flatten_cons, List.append_assoc]
    rw [<- e2, <- a1C its k (acc ++ its), <- e, List.replicate_succ, List.foldl_cons]
section
variable {X : Cx} {pins : List (Addr × Obj)} {σ : St} {H : Hp} {s : Shared} {l b : Addr} {xs ys zs : List V}
theorem Inv.lset {its its' : List Value} {n : Nat} {f : Array Value -> Array Value} {t' : Nat} (I : Inv X pins σ H s) (hH : H l = some (.lst xs))
    (e : s.heap.get? l = some { cls := .type "list", data := .seq its.toArray n }) (hf : f its.toArray = its'.toArray) (hv : Vals ys its') (hz : ys.length <= sizeLine) :
    Inv X pins σ (upd H l (.lst ys)) { s with heap := s.heap.update l (Obj.mapSeq f), toks := t' } := by
  have q := PySem.IsL.update e f
  rw [hf] at q
  refine I.write (x := l) (e := l) (by rw [hH]; exact trivial) (.inl rfl) (λ b' u hb hu => (Heap.get?_update_other s.heap (Obj.mapSeq f) (Ne.symm hb)).trans hu) ⟨_, q⟩ ?_
  exact ⟨hz, its', _, hv, q⟩
theorem Inv.lnew {its : List Value} {t' : Nat} (I : Inv X pins σ H s) (hv : Vals ys its) (hz : ys.length <= sizeLine) :
    Inv X pins σ (upd H s.heap.objs.size (.lst ys)) { s with heap := s.heap.push { cls := .type "list", data := .seq its.toArray }, toks := t' } :=
  I.laid (λ _ _ q => Heap.get?_push_of_some _ q) (Nat.le_refl _) ⟨hz, its, 0, hv, Heap.get?_push_size _ rfl⟩
theorem Inv.fresh (I : Inv X pins σ H s) : H s.heap.objs.size = none := I.hok.fresh (Nat.le_refl _)
theorem Inv.lstM (I : Inv X pins σ H s) (hH : H l = some (.lst xs)) : xs.length <= sizeLine /\ ∃ (its : List Value) (n : Nat), Vals xs its /\ xs.length = its.length /\ s.heap.get? l = some { cls := .type "list", data := .seq its.toArray n } := by
  obtain ⟨z, its, n, r, e⟩ := I.hok l _ hH
  exact ⟨z, its, n, r, r.length, e⟩
theorem notLongL {n : Nat} (h : n <= sizeLine) : Builtin.List.listTooLong n = false := by
  unfold Builtin.List.listTooLong
  exact decide_eq_false (by omega)
end
section
variable {X : Cx}
def rAppend : V -> List V -> Hp -> VK -> Prop := λ x vs H Q => ∃ l xs y, x = .ref l /\ vs = [y] /\ H l = some (.lst xs) /\ xs.length < sizeLine /\ Q .non (upd H l (.lst (xs ++ [y])))
theorem a1D : MtM X "list.append" rAppend := by
  intro pins s σ H x vs v us Q I rx rv h
  obtain ⟨l, xs, y, rfl, rfl, hH, hz, q⟩ := h
  cases rx
  obtain ⟨u, rfl, ru⟩ := rv.one
  obtain ⟨z, its, n, r, hl, e⟩ := I.lstM hH
  refine call_meets F.slot_list_append ⟨_, e, rfl⟩ F.entry_list_append (F.args_list_append_2 _ _) (PySem.list_append l its.toArray n u (by rw [List.size_toArray]; omega)) ⟨e, ?_⟩
  refine ⟨.non, _, I.lset (its' := its ++ [u]) hH e (by simp) (r.append (.cons ru .nil)) ?_, rfl, q⟩
  rw [List.length_append, List.length_singleton]
  omega
def rPopAt : V -> List V -> Hp -> VK -> Prop := λ x vs H Q => ∃ l xs i k y, x = .ref l /\ vs = [.int i] /\ H l = some (.lst xs) /\ -(2 ^ 63) <= i /\ i < 2 ^ 63 /\ seqIndex? i xs.length = some k /\ xs[k]? = some y /\ Q y (upd H l (.lst (xs.eraseIdx k)))
theorem mt_popAt : MtM X "list.pop" rPopAt := by
  intro pins s σ H x vs v us Q I rx rv h
  obtain ⟨l, xs, i, k, y, rfl, rfl, hH, h1, h2, hk, hy, q⟩ := h
  cases rx
  obtain ⟨u, rfl, ru⟩ := rv.one
  obtain ⟨t, rfl⟩ := ru
  obtain ⟨z, its, n, r, hl, e⟩ := I.lstM hH
  obtain ⟨w, hw, rw'⟩ := r.get hy
  refine call_meets F.slot_list_pop ⟨_, e, rfl⟩ F.entry_list_pop (F.args_list_pop_2 _ _)
    (MeetsSeq.list_pop_at l its.toArray n i t k w (fitsIndex_both h1 h2) (by rw [List.size_toArray, <- hl]; exact hk) (by rw [<- Array.getElem?_toList]; exact hw) (by rw [List.size_toArray]; omega)) ⟨e, ?_⟩
  refine ⟨y, _, I.lset (its' := its.eraseIdx k) hH e ?_ (r.eraseIdx k) ?_, rw', q⟩
  . show its.toArray.eraseIdxIfInBounds k = (its.eraseIdx k).toArray
    rw [List.eraseIdxIfInBounds_toArray]
  . have := a1B xs k
    omega
def rCat : R2 := λ x y H Q => ∃ l b xs zs, x = .ref l /\ y = .ref b /\ H l = some (.lst xs) /\ H b = some (.lst zs) /\ xs.length + zs.length <= sizeLine /\ ∀ p, H p = none -> Q (.ref p) (upd H p (.lst (xs ++ zs)))
theorem op_cat : OpR X (binaryOp .Add) rCat := by
  intro pins s σ H x y v u Q I rx ry h
  obtain ⟨l, b, xs, zs, rfl, rfl, hH, hB, hz, q⟩ := h
  cases rx
  cases ry
  obtain ⟨z, its, n, r, hl, e⟩ := I.lstM hH
  obtain ⟨z2, its2, n2, r2, hl2, e2⟩ := I.lstM hB
  refine PySem.P.add_list e e2 ?_ (by rw [List.size_toArray, List.size_toArray]; omega)
  have ea : its.toArray ++ its2.toArray = (its ++ its2).toArray := by simp
  rw [ea]
  exact ⟨.ref _, _, I.lnew (t' := s.toks) (r.append r2) (by rw [List.length_append]; omega), rfl, q _ I.fresh⟩
def rRep : R2 := λ x y H Q => ∃ l k xs, x = .ref l /\ y = .int k /\ H l = some (.lst xs) /\ -(2 ^ 63) <= k /\ k < 2 ^ 63 /\ xs.length * k.toNat <= sizeLine ∧
  ∀ p, H p = none -> Q (.ref p) (upd H p (.lst (List.replicate k.toNat xs).flatten))
theorem len_rep {α : Type} (xs : List α) (k : Nat) : (List.replicate k xs).flatten.length = k * xs.length := by
  induction k with
  | zero => simp
  | succ k ih => rw [List.replicate_succ, List.flatten_cons, List.length_append, ih, Nat.succ_mul, Nat.add_comm]
theorem op_rep : OpR X (binaryOp .Mult) rRep := by
  intro pins s σ H x y v u Q I rx ry h
  obtain ⟨l, k, xs, rfl, rfl, hH, h1, h2, hz, q⟩ := h
  cases rx
  obtain ⟨t, rfl⟩ := ry
  obtain ⟨z, its, n, r, hl, e⟩ := I.lstM hH
  have hlen : its.toArray.size * k.toNat <= sizeLine := by rw [List.size_toArray, <- hl]; exact hz
  have hcap : ¬ its.toArray.size * k.toNat > (2 ^ 63 - 1) / 8 := by
    have : (sizeLine : Nat) <= (2 ^ 63 - 1) / 8 := by decide
    omega
  have hfit : ¬ (!Builtin.List.listFitsIndex k) = true := by
    rw [fitsIndex_both h1 h2]
    exact Bool.false_ne_true
  have hlong : ¬ Builtin.List.listTooLong (its.toArray.size * k.toNat) = true := by
    rw [notLongL hlen]
    exact Bool.false_ne_true
  have hnew : List.foldl (λ x1 x2 => x1 ++ x2) #[] (List.replicate (if its.toArray.isEmpty = true then 0 else k.toNat) its.toArray) = (List.replicate k.toNat its).flatten.toArray := by
    have f0 : ∀ m : Nat, List.foldl (λ x1 x2 => x1 ++ x2) #[] (List.replicate m its.toArray) = (List.replicate m its).flatten.toArray := λ m => by
      have := a1C its m []
      rw [List.nil_append] at this
      exact this
    rw [f0]
    cases its with
    | nil => simp
    | cons a r' => rw [if_neg (by simp)]
  refine wpAny_binaryOp_repeat_ref (T := "list") (U := "int") (by decide) ⟨_, e, rfl⟩ (λ s' => typeIs_int s' k t) noFill_list_mul F.fills_int_mul F.slot_int_rmul repeat_list F.slot_int_index.lookup
    (call_meets F.slot_int_rmul (typeIs_int s k t) F.entry_int_rmul (F.args_int_rmul_2 _ _) (int___rmul___int_list k t l its.toArray n)
      ⟨e, rfl, ⟨_, e, rfl⟩, call_meets F.slot_list_mul ⟨_, e, rfl⟩ F.entry_list_mul (F.args_list_mul_2 _ _) (AutoListH.list___mul___list_int_3 l its.toArray n k t hfit hcap hlong) ⟨e, ?_⟩⟩)
  rw [hnew]
  exact ⟨.ref _, _, I.lnew (t' := s.toks) (r.rep k.toNat) (by rw [len_rep, Nat.mul_comm]; exact hz), rfl, q _ I.fresh⟩
end
section
variable {prog : Program} {w : World} {A : Around} {E : Value -> Shared -> Prop} {s : Shared}
set_option maxRecDepth 100000 in
end
section
variable {X : Cx}
end
end L2
namespace Att
open PySem PySem.W PySem.Calls PyProof.Rows
theorem Y6 {P : Params} {h : Heap} : ∀ (ns : List Int) (vs : List Value), WellAll P h vs (ns.map WData.int) -> IntsAre vs ns := by
  intro ns
  induction ns with
  | nil =>
    intro vs w
    rw [List.map_nil] at w
    cases w
    exact .nil
  | cons n ns ih =>
    intro vs w
    rw [List.map_cons] at w
    cases w with
    | cons a b =>
      cases a
      exact .cons _ _ (ih _ b)
theorem script_of {l : OpenLaw} {n : Nat} (hn : l.most = some n) {P : Params} {h : Heap} {args : List WData} {vals : List Value}
    (hpre : l.row.toRowW.claim.pre args = true) (hwl : WellAll P h vals args) :
    ∃ a vs ns, vals = [Value.ref a] /\ args = [WData.list (ns.map WData.int)] /\ h.get? a = some { cls := .type "list", data := .seq vs.toArray } /\ IntsAre vs ns /\ ns.length <= n := by
  have hsh : WShape.hasAll [] args [.list .int] = true := (pre_splitW hpre).1
  have hc : l.pre.holds [] { args := args } = true := (pre_splitW hpre).2
  obtain ⟨d, r, rfl, h1, h2⟩ := hasAllW_cons hsh
  obtain rfl := hasAllW_nil h2
  obtain ⟨xs, rfl, h3⟩ := hasW_list h1
  obtain ⟨ns, rfl⟩ := items_int h3
  have hlen : ns.length <= n := by
    unfold OpenLaw.pre at hc
    have h4 : (WTm.not (.lt (.lit (.int (n : Int))) (.len (.arg 0)))).holds [] { args := [.list (ns.map .int)] } = true := by
      have h4 := (holds_andW hc).1
      rw [hn] at h4
      exact h4
    have h5 := condW_of h4 (w_not (w_lt w_lit (w_len_list (w_arg rfl))))
    rw [List.length_map] at h5
    refine Nat.le_of_not_lt λ q => ?_
    have q' : (n : Int) < ((ns.length : Nat) : Int) := by omega
    first
      | (rw [decide_eq_true q'] at h5; exact absurd h5 (by decide))
      | (simp at h5; omega)
  cases hwl with
  | cons w1 w2 =>
    cases w2
    cases w1 with
    | list ho hall => exact ⟨_, _, ns, rfl, rfl, ho, Y6 ns _ hall, hlen⟩
theorem post_true (l : OpenLaw) (args : List WData) : l.row.toRowW.claim.post args (.bool true) args = true :=
  postW_of (r := l.row.toRowW) (X := (true == true))
    (show WShape.has [] (.bool true) .bool = true by first | rfl | decide | simp [WShape.has, WShape.arms, WShape.armsAll])
    (show (WTm.eq .res (.lit (.bool true))).value [] { args := args, res := some (.bool true), after := args } = some (.bool (true == true)) from w_eq_bool (w_res rfl) w_lit) rfl
section
variable {prog : Program} {w : World} {A : Around} {E : Value -> Shared -> Prop} {s : Shared} {K : Frag}
end
end Att
namespace L2
open PySem PySem.Spec PyProof.Rows
theorem a1E : ∀ {vs : List Value} {ns : List Int}, IntsAre vs ns -> Vals (ns.map V.int) vs
  | _, _, .nil => .nil
  | _, _, .cons n t h => .cons ⟨t, rfl⟩ (a1E h)
def Only (H : Hp) : Prop := ∀ b, H b = none \/ ∃ o xs, H b = some (.frz o (.lst xs))
theorem law_call {P : Program} {w : World} {K : PySem.W.Frag} {mg mb : Str -> Option Value} {CX : CXT} {k : Nat} {fa a : Addr} {fd : FuncData} {x : Str} {sp : Sp} {s₁ : Shared} {vs : List Value} {ns : List Int}
    (KX : K.In s₁.heap) (hns : s₁.heap.Ns mainGlobals mg) (hb : s₁.heap.Ns builtinsNs mb) (hbb : ∀ x : Str, x ≠ "__name__" -> mb x = bootBuiltins x) (hlim : s₁.heap.NoLimit) (hg : s₁.gens = #[])
    (ha : s₁.heap.get? a = some { cls := .type "list", data := .seq vs.toArray }) (hi : IntsAre vs ns) (hl : ns.length <= sizeLine) (hr : Room k callerA)
    (F : ∀ base : Heap, K.In base -> base.Ns mainGlobals mg -> FnOk P w K mg base CX k fa fd [x] sp) (hbind : ∀ (s : Shared) (u : Value), BindsTo s fd ⟨[u], []⟩ [(x, u)])
    (hsp : ∀ H : Hp, Only H -> SqL K H a (ns.map V.int) -> sp [.ref a] H (λ v _ => v = .bl true) λ _ _ _ => False)
    (hCX : ∀ H e s', CX [] H s₁ (λ _ _ _ => False) e s' -> False) :
    codeAny (model P w) callerA (.call (.ref fa) ⟨[.ref a], []⟩) (λ r s' => r = .ok (.ret (.bool true)) /\ OldK s₁.heap s'.heap /\ s'.os = s₁.os /\ AllBare s'.gens) s₁ := by
  have rv := a1E hi
  have lenV := hi.length
  have core : ∀ H : Hp, Only H -> SqL K H a (ns.map V.int) -> HOk P w H s₁.heap -> (∀ b, H b ≠ none -> b = a) -> (H a ≠ none -> K.lookup a = none) →
      codeAny (model P w) callerA (.call (.ref fa) ⟨[.ref a], []⟩) (λ r s' => r = .ok (.ret (.bool true)) /\ OldK s₁.heap s'.heap /\ s'.os = s₁.os /\ AllBare s'.gens) s₁ := by
    intro H hO hS hok hA hK
    have B2 : ∀ {b : Addr} {o : Obj}, s₁.heap.get? b = some o -> H b = none -> (hidT s₁.heap H).get? b = some o := λ e n => hidT_get e n
    have noA : ∀ {b : Addr} {o : Obj} {es : Array DictEntry} {ep : Nat}, s₁.heap.get? b = some o -> o.data = .dict es ep -> H b = none := λ {b o es ep} e d => by
      cases q : H b with
      | none => rfl
      | some u =>
        have e' : b = a := hA b (by rw [q]; simp)
        subst e'
        rw [ha] at e; cases e
        have d' : Data.seq vs.toArray _ = Data.dict es ep := d
        cases d'
    have nsK : ∀ {b : Addr} {m : Str -> Option Value}, s₁.heap.Ns b m -> (hidT s₁.heap H).Ns b m := λ {b m} ⟨o, es, ep, e, d, r⟩ => ⟨o, es, ep, B2 e (noA e d), d, r⟩
    have hKb : K.In (hidT s₁.heap H) := λ b o e => B2 (KX b o e) (by
      cases q : H b with
      | none => rfl
      | some u =>
        have e' : b = a := hA b (by rw [q]; simp)
        subst e'
        rw [hK (by rw [q]; simp)] at e; cases e)
    have hM : Mod K mg (hidT s₁.heap H) := ⟨hKb, nsK hns, ⟨mb, nsK hb, hbb⟩, let ⟨mc, h1, h2⟩ := hlim; ⟨mc, nsK h1, h2⟩⟩
    have e0 : Env0 P w K mg (hidT s₁.heap H) callerA [] s₁ H := ⟨rfl, hM, λ b o e => of_hidT e, Nat.le_of_eq (hidT_size _ _), trivial, λ b hb => absurd (show b ∈ ([] : List Addr) from hb) (by simp), hok, .of_eq hg⟩
    refine codeAny_mono ((F _ hKb (nsK hns)).run callerA [] s₁ H ⟨[.ref a], []⟩ [.ref a] [.ref a] _ _ hr e0 (hbind s₁ (.ref a)) (.cons rfl .nil) (hsp H hO hS)) λ r s' h => ?_
    cases r with
    | error e => exact (hCX H e s' h).elim
    | ok fl =>
      cases fl with
      | next => exact False.elim h
      | brk => exact False.elim h
      | cont => exact False.elim h
      | ret u =>
        obtain ⟨v, H', os, bare, un, hok', r', q⟩ := h
        have q' : v = .bl true := q
        subst q'
        obtain rfl : u = Value.bool true := r'
        refine ⟨rfl, OldK.of_keep λ b o e => ?_, os, bare⟩
        cases q : H b with
        | none => exact un.keep b o e q (by intro z; exact absurd (show b ∈ ([] : List Addr) from z) (by simp)) (by simp)
        | some u =>
          rcases hO b with z | ⟨ob, xs, z⟩
          . rw [q] at z; cases z
          . have z2 := un.frzs b ob _ z
            obtain ⟨e1, _⟩ := hok b _ z
            obtain ⟨e2, _⟩ := hok' b _ z2
            rw [e] at e1; cases e1
            exact e2
  cases hk : K.lookup a with
  | some o =>
    have e := KX a o hk
    rw [ha] at e
    cases e
    refine core (λ _ => none) (λ _ => .inl rfl) (.inr ⟨_, vs.toArray, _, hk, rfl, rfl, rfl, by rw [List.size_toArray, lenV]; exact hl, by simpa using rv⟩) (λ b u z => by have z' : (none : Option HO) = some u := z; cases z') (λ b z => absurd rfl z) λ z => absurd rfl z
  | none =>
    refine core (λ b => if b = a then some (.frz { cls := .type "list", data := .seq vs.toArray } (.lst (ns.map V.int))) else none) (λ b => ?_) (.inl (.inr ⟨{ cls := .type "list", data := .seq vs.toArray }, if_pos rfl⟩)) (λ b u z => ?_) (λ b z => ?_) λ _ => hk
    . by_cases hb : b = a
      . exact .inr ⟨_, _, if_pos hb⟩
      . exact .inl (if_neg hb)
    . by_cases hb : b = a
      . have z' := (if_pos hb).symm.trans z
        cases z'
        subst hb
        exact ⟨ha, by rw [List.length_map]; exact hl, vs, _, rv, ha⟩
      . have z' := (if_neg hb).symm.trans z
        cases z'
    . by_cases hb : b = a
      . exact hb
      . exact absurd (if_neg hb) z
end L2
namespace L2
open PySem PySem.Spec PyProof.Rows
end L2
/- THE LAST THEOREM (shape; LID, My.* are yours):
   My.Adr: a structure of the addresses that your layer names (classes, functions); My.Txt K t: a structure (Prop) of the equations over K;
   My.txt_mk : {K} {implicit addresses ..} (e1 : nsIn K mainGlobals "law" = some (some (.ref f))) (e2 : K.lookup f = some ⟨oc, od, .func (fnOf "law" "law" params body scope dV kV doc pm an cdv ct), sl⟩) (e3 : codeIn K cdv "law" = true) .. : ∃ t, My.Txt K t
set_option maxRecDepth 100000 in
set_option maxHeartbeats 0 in
(the tactic k_is has no namespace: write k_is) -/
namespace L2
open PySem PySem.Spec PyProof.Rows
def a2z (s : Stmt) (j : Nat) : Stmt := match s with
  | .ClassDef _ _ _ body _ _ _ _ _ _ _ => body.getD j (.Pass ⟨0, 0, 0, 0⟩)
  | _ => .Pass ⟨0, 0, 0, 0⟩
def c9 (s : Stmt) : Arguments := match s with
  | .FunctionDef _ a _ _ _ _ _ _ _ _ => a
  | _ => { posonlyargs := [], args := [], vararg := none, kwonlyargs := [], kw_defaults := [], kwarg := none, defaults := [] }
def b5 (s : Stmt) : List Stmt := match s with
  | .FunctionDef _ _ b _ _ _ _ _ _ _ => b
  | _ => []
def a9 (s : Stmt) : Scope := match s with
  | .FunctionDef _ _ _ _ _ _ sc _ _ _ => sc
  | _ => { kind := .function, names := [], isGenerator := false, isCoroutine := false }
abbrev CX0 : CXT := λ _ _ _ _ _ _ => False
abbrev E0 : XK := λ _ _ _ => False
theorem pass0 {X : Cx} : y8 CX0 X E0 := λ _ _ _ _ _ _ _ h => h.elim
structure Fun (K : PySem.W.Frag) (x qual : Str) (st : Stmt) (f : Addr) (fd : FuncData) : Prop where
  ex : ∃ (oc : Value) (od : Option Addr) (kV doc pm : Value) (an : Option Addr) (cdv ct : Value) (osl : Array (Option Value)),
    fd = PySem.W.fnOf x qual (c9 st) (b5 st) (a9 st) .none kV doc pm an cdv ct /\ K.lookup f = some ⟨oc, od, .func fd, osl⟩ /\ PySem.W.codeIn K cdv qual = true
  kp : PySem.W.keepIn K (.ref f) = true
section
variable {P : Program} {w : World} {K : PySem.W.Frag} {mg : Str -> Option Value} {base : Heap}
theorem Fun.ok {x qual : Str} {st : Stmt} {f : Addr} {fd : FuncData} {N ps : List Str} {k : Nat} {sp : Sp} (F : Fun K x qual st f fd) (S : FnScope N ps (a9 st)) (len : ∀ vs H Q E, sp vs H Q E -> vs.length = ps.length)
    (hbody : ∀ (cdv : Value) (A : Around) (outer : List Env) (s : Shared) (H : Hp) (vs : List V) (Q : VK) (E : XK), Room k (A.deeper (envOfC qual (a9 st) s.heap.objs.size f cdv)) -> sp vs H Q E →
      ∃ t, PSs (cxOf CX0 P w K mg base N qual (a9 st) f cdv A outer s H E).nox (b5 st) t /\ t { nx := λ _ H' => Q .non H', rt := Q } (D8 N vs) H) : FnOk P w K mg base CX0 (k + 1) f fd ps sp := by
  obtain ⟨oc, od, kV, doc, pm, an, cdv, ct, osl, rfl, lk, hcd⟩ := F.ex
  refine fn_of lk hcd S len λ A outer s H vs Q E hr hsp => ?_
  obtain ⟨t, h, q⟩ := hbody cdv A outer s H vs Q E hr hsp
  exact ⟨t, h.nox, q⟩
theorem Fun.binds {x qual : Str} {st : Stmt} {f : Addr} {fd : FuncData} {ps : List Str} (F : Fun K x qual st f fd)
    (h : ∀ (kV doc pm : Value) (an : Option Addr) (cdv ct : Value) (us : List Value), us.length = ps.length -> bindArgs (PySem.W.fnOf x qual (c9 st) (b5 st) (a9 st) .none kV doc pm an cdv ct) ⟨us, []⟩ = pure (ps.zip us)) : Binds K fd ps [] := by
  obtain ⟨oc, od, kV, doc, pm, an, cdv, ct, osl, rfl, lk, hcd⟩ := F.ex
  exact .all (h kV doc pm an cdv ct)
theorem a0o {x qual : Str} {st : Stmt} {f : Addr} {oc : Value} {od an : Option Addr} {osl : Array (Option Value)} {kV doc pm cdv ct : Value} (l : K.lookup f = some ⟨oc, od, .func (PySem.W.fnOf x qual (c9 st) (b5 st) (a9 st) .none kV doc pm an cdv ct), osl⟩)
    (c : PySem.W.codeIn K cdv qual = true) (k : PySem.W.keepIn K (.ref f) = true) : Fun K x qual st f (PySem.W.fnOf x qual (c9 st) (b5 st) (a9 st) .none kV doc pm an cdv ct) := ⟨⟨oc, od, kV, doc, pm, an, cdv, ct, osl, rfl, l, c⟩, k⟩
end
theorem hu_of {A : Around} {k : Nat} (hr : Room k A) : A.units + 1 < cLine := Nat.lt_of_le_of_lt (Nat.add_le_add_left (by decide : 1 <= 64) _) hr.units
theorem small1000 {n : Nat} (h : n <= 1000) : n < sizeLine := Nat.lt_of_le_of_lt h (by decide)
section
variable {X : Cx}
theorem call_lenD : CallR X (.builtin "len") (λ xs H Q => ∃ a kvs, xs = [V.ref a] /\ H a = some (.dK kvs) /\ Q (.int kvs.length) H) := by
  intro pins s σ H xs us Q I r h
  obtain ⟨a, kvs, rfl, ha, q⟩ := h
  obtain ⟨u, rfl, ru⟩ := x0 r
  cases ru
  exact d_len I (.inl ha) λ t s' I' => ⟨.int kvs.length, H, I', ⟨t, rfl⟩, q⟩
end
def Same (H H' : Hp) : Prop := ∀ b o, H b = some o -> H' b = some o
theorem Same.refl (H : Hp) : Same H H := λ _ _ h => h
theorem Same.trans {H H1 H2 : Hp} (a : Same H H1) (b : Same H1 H2) : Same H H2 := λ c o h => b c o (a c o h)
theorem Same.free {H H' : Hp} (e : Same H H') {l : Addr} (h : H' l = Option.none) : H l = Option.none := by
  cases q : H l with
  | none => rfl
  | some o =>
    rw [e l o q] at h
    cases h
theorem Same.seq {K : PySem.W.Frag} {H H' : Hp} {a : Addr} {xs : List V} (e : Same H H') (h : SqL K H a xs) : SqL K H' a xs := by
  rcases h with (h | ⟨o, h⟩) | h
  . exact .inl (.inl (e _ _ h))
  . exact .inl (.inr ⟨o, e _ _ h⟩)
  . exact .inr h
section
variable {κ : Type} [DecidableEq κ]
theorem nd_snoc : ∀ {l : List κ} {k : κ}, l.Nodup -> ¬ k ∈ l -> (l ++ [k]).Nodup
  | [], k, _, _ => by simp
  | a :: r, k, h, hk => by
    obtain ⟨h1, h2⟩ := List.nodup_cons.mp h
    show (a :: (r ++ [k])).Nodup
    refine List.nodup_cons.mpr ⟨λ m => ?_, nd_snoc h2 λ m => hk (List.mem_cons.mpr (Or.inr m))⟩
    rcases List.mem_append.mp m with q | q
    . exact h1 q
    . exact hk (List.mem_cons.mpr (Or.inl (List.mem_singleton.mp q).symm))
end
end L2
set_option maxHeartbeats 4000000
namespace L2
open PySem PySem.Spec PyProof.Rows
theorem z9 {H : Hp} {p : Addr} {o : HO} (h : H p = none) : Same H (upd H p o) := λ b u e => by
  rw [b4 (b8 e h)]
  exact e
theorem Same.put {H H' : Hp} {p : Addr} {o : HO} (s : Same H H') (h : H p = none) : Same H (L2.upd H' p o) := λ b u e => by
  rw [b4 (b8 e h)]
  exact s b u e
@[irreducible] def br (c : Bool) (A B : Prop) : Prop := match c with
  | true => A
  | false => B
theorem u0 {c : Bool} {A B : Prop} (hc : c = true) (h : A) : br c A B := by
  subst hc
  unfold br
  exact h
theorem y9 {c : Bool} {A B : Prop} (hc : c = false) (h : B) : br c A B := by
  subst hc
  unfold br
  exact h
theorem a2A {A B : Prop} : br true A B = A := by unfold br; rfl
theorem a0p {A B : Prop} : br false A B = B := by unfold br; rfl
theorem N3 {c : Bool} {A B : Prop} (h : br c A B) : if c = true then A else B := by
  cases c
  . rw [a0p] at h
    simpa using h
  . rw [a2A] at h
    simpa using h
theorem i9 {c : Bool} {A B : Prop} (h1 : c = true -> A) (h2 : c = false -> B) : br c A B := by
  cases c
  . exact y9 rfl (h2 rfl)
  . exact u0 rfl (h1 rfl)
theorem N4 {c : Prop} [Decidable c] {A B : Prop} (h1 : c -> A) (h2 : ¬ c -> B) : br (decide c) A B := i9 (λ h => h1 (of_decide_eq_true h)) (λ h => h2 (of_decide_eq_false h))
theorem a2B {c : Bool} {A B : Prop} (h : br c B A) : br (!c) A B := by
  cases c
  . rw [a0p] at h
    exact u0 rfl h
  . rw [a2A] at h
    exact y9 rfl h
theorem a3w {X : Cx} : CallR X (.builtin "isinstance") (λ xs H Q => ∃ (x : V) (t : Value) (b : Bool) (T : String), xs = [x, .ty T] /\ TyOf X.K H x t /\ PySem.W.kitOne X.K t (.type T) = some b /\ Q (.bl b) H) := by
  intro pins s σ H xs us Q I r h
  obtain ⟨x, t, b, T, rfl, ty, e, q⟩ := h
  obtain ⟨u, w', rfl, ru, rw'⟩ := a1o r
  cases rw'
  exact a1q I ru ty e λ tk => ⟨.bl b, H, I.tok tk, rfl, q⟩
def v7 (H : Hp) : V -> Option String
  | .non => some "NoneType"
  | .bl _ => some "bool"
  | .int _ => some "int"
  | .str _ => some "str"
  | .ref a => match H a with
    | some (.lst _) => some "list"
    | some (.frz _ (.lst _)) => some "list"
    | some (.tup _) => some "tuple"
    | some (.dK _) => some "dict"
    | some (.dT _) => some "dict"
    | _ => none
  | _ => none
theorem tyOf_kind {K : PySem.W.Frag} {H : Hp} {x : V} {T : String} (e : v7 H x = some T) : TyOf K H x (.type T) := by
  unfold v7 at e
  split at e
  . cases e; exact .non
  . cases e; exact .bl _
  . cases e; exact .int _
  . cases e; exact .str _
  . split at e
    . cases e; exact .lst (by assumption)
    . cases e; exact .frz (by assumption)
    . cases e; exact .tup (by assumption)
    . cases e; exact .dK (by assumption)
    . cases e; exact .dT (by assumption)
    . cases e
  . cases e
def K1 (S T : String) : Bool := S == T || (S == "bool" && T == "int")
def a0q : List String := ["NoneType", "bool", "int", "str", "list", "tuple", "dict"]
theorem kit_tt {K : PySem.W.Frag} {S T : String} {l : List Value} (hm : PySem.W.kitMeta T = true) (hl : fastBuiltinMro S = some l) : PySem.W.kitOne K (.type S) (.type T) = some ((Value.type S == Value.type T) || l.contains (.type T)) := by
  show (if (Value.type S == Value.type T) = true then some true else if PySem.W.kitMeta T = true then (fastBuiltinMro S).map (·.contains (.type T)) else none) = _
  rw [hm, hl]
  cases (Value.type S == Value.type T) <;> rfl
def rIsi : List V -> Hp -> VK -> Prop := λ xs H Q => ∃ (x : V) (S T : String), xs = [x, .ty T] /\ v7 H x = some S /\ T ∈ ["str", "int", "bool", "list", "tuple", "dict"] /\ Q (.bl (K1 S T)) H
theorem kindV_own {H : Hp} {x : V} {S : String} (e : v7 H x = some S) : S ∈ a0q := by
  unfold v7 at e
  split at e
  . cases e; decide
  . cases e; decide
  . cases e; decide
  . cases e; decide
  . split at e <;> first | (cases e; done) | (cases e; decide)
  . cases e
theorem kit_own {K : PySem.W.Frag} : ∀ S ∈ a0q, ∀ T ∈ ["str", "int", "bool", "list", "tuple", "dict"], PySem.W.kitOne K (.type S) (.type T) = some (K1 S T) := by
  intro S hS T hT
  have hm : PySem.W.kitMeta T = true := by
    revert T
    decide +kernel
  have hl : ∃ l, fastBuiltinMro S = some l /\ ∀ T ∈ ["str", "int", "bool", "list", "tuple", "dict"], ((Value.type S == Value.type T) || l.contains (.type T)) = K1 S T := by
    revert S
    have : ∀ S ∈ a0q, (match fastBuiltinMro S with | some l => ["str", "int", "bool", "list", "tuple", "dict"].all λ T => ((Value.type S == Value.type T) || l.contains (.type T)) == K1 S T | none => false) = true := by decide +kernel
    intro S hS
    have e := this S hS
    split at e
    . rename_i l hl
      refine ⟨l, hl, λ T hT => ?_⟩
      exact eq_of_beq (List.all_eq_true.mp e T hT)
    . cases e
  obtain ⟨l, h1, h2⟩ := hl
  rw [kit_tt hm h1, h2 T hT]
theorem call_isi {X : Cx} : CallR X (.builtin "isinstance") rIsi := by
  intro pins s σ H xs us Q I r h
  obtain ⟨x, S, T, rfl, e, hT, q⟩ := h
  exact a3w pins s σ H _ us Q I r ⟨x, .type S, K1 S T, T, rfl, tyOf_kind e, kit_own S (kindV_own e) T hT, q⟩
theorem op_le_str {X : Cx} : OpR X (compareOp .LtE) (λ x y H Q => ∃ i j, x = .str i /\ y = .str j /\ Q (.bl (!decide (j.cps.toList < i.cps.toList))) H) := by
  intro pins s σ H x y v u Q I rx ry h
  obtain ⟨i, j, rfl, rfl, q⟩ := h
  obtain ⟨t, rfl⟩ := rx
  obtain ⟨t', rfl⟩ := ry
  exact PySem.P.le_str (U6 I q rfl)
theorem sl_str {X : Cx} : SlR X (λ x lo hi H Q => ∃ z, x = .str z /\ z.length <= sizeLine /\ Q (.str (Txt.slice z lo hi)) H) := by
  intro pins s σ H x v vl vu lo hi sl Q I rx hs pl pu h
  obtain ⟨z, rfl, hz, q⟩ := h
  obtain ⟨t, rfl⟩ := rx
  refine ⟨"str", _, F.slot_str_getitem.lookup, typeIs_str _ _ _, ?_⟩
  have go : ∀ (l u : Option (Int × Tok)), vl = partValue l -> vu = partValue u -> lo = l.map (·.1) -> hi = u.map (·.1) -> wpAny (model X.prog X.w) X.A (getItem (.str z t) (.ref sl)) (EP X pins σ Q) X.xe s := by
    intro l u e1 e2 e3 e4
    subst e1 e2 e3 e4
    refine wpAny_getItem_str_slice (l := l) (u := u) (st := none) hs rfl ?_
    exact post_val_or_str ⟨Nat.le_trans (Txt.slice_le z _ _) hz, λ t' k => ⟨.str _, H, I.tok k, ⟨t', rfl⟩, q⟩⟩
  cases pl with
  | none =>
    cases pu with
    | none => exact go none none rfl rfl rfl rfl
    | int i t' => exact go none (some (i, t')) rfl rfl rfl rfl
  | int j t2 =>
    cases pu with
    | none => exact go (some (j, t2)) none rfl rfl rfl rfl
    | int i t' => exact go (some (j, t2)) (some (i, t')) rfl rfl rfl rfl
def repS (z : Str) (n : Nat) : Str := ⟨(List.replicate n z.cps.toList).flatten.toArray⟩
theorem a3x (z : Str) (n : Nat) : (repS z n).length = n * z.length := by
  show ((List.replicate n z.cps.toList).flatten.toArray).size = n * z.cps.size
  rw [List.size_toArray, List.length_flatten, List.map_replicate, List.sum_replicate_nat, Array.length_toList]
theorem a1F (a : Array Nat) : ∀ (n : Nat) (acc : Array Nat), ((List.replicate n a).foldl (· ++ ·) acc).toList = acc.toList ++ (List.replicate n a.toList).flatten
  | 0, acc => by simp
  | n + 1, acc => by
    rw [List.replicate_succ, List.foldl_cons, a1F a n, Array.toList_append, List.replicate_succ, List.flatten_cons, List.append_assoc]
theorem a4D {X : Cx} : OpR X (binaryOp .Mult) (λ x y H Q => ∃ z n, x = .str z /\ y = .int n /\ 0 < z.length /\ 0 <= n /\ n < 2 ^ 31 /\ n.toNat * z.length <= sizeLine /\ Q (.str (repS z n.toNat)) H) := by
  intro pins s σ H x y v u Q I rx ry h
  obtain ⟨z, n, rfl, rfl, h0, hn, h1, hz, q⟩ := h
  obtain ⟨t, rfl⟩ := rx
  obtain ⟨t', rfl⟩ := ry
  have hs : sizeLine = 16777216 := sizeLine_eq
  by_cases hn0 : n < 1
  . have e : n = 0 := by omega
    subst e
    refine PySem.P.mul_str_none (by decide) (by decide) ⟨.str (repS z 0), H, I.tok _, ⟨_, rfl⟩, q⟩
  . have hz' : z.length * n.toNat <= sizeLine := by rw [Nat.mul_comm]; exact hz
    have ez : ⟨(List.replicate n.toNat z.cps).foldl (· ++ ·) #[]⟩ = repS z n.toNat := by
      unfold repS
      congr 1
      apply Array.toList_inj.mp
      rw [a1F]
      simp
    refine PySem.P.mul_str (by simp; omega) (λ _ _ => ?_) (λ _ _ => ?_) ?_
    . have e1 : (z.length : Int) * n <= 16777216 := by
        have := hz'
        have e2 : ((z.length * n.toNat : Nat) : Int) = (z.length : Int) * n := by rw [Int.natCast_mul, Int.toNat_of_nonneg hn]
        omega
      intro h3
      have h4 : (2 ^ 63 - 1) / n < (z.length : Int) := h3
      have h5 : (2 ^ 63 - 1 : Int) < (z.length : Int) * n := Int.lt_mul_of_ediv_lt (by omega) h4
      omega
    . unfold Builtin.Str.tooLong
      exact decide_eq_false (by omega)
    . rw [if_neg hn0]
      by_cases h1' : (n == 1 || z.length == 0) = true
      . rw [if_pos h1']
        have en : n = 1 := by
          rcases Bool.or_eq_true _ _ ▸ h1' with z1 | z1
          . exact eq_of_beq z1
          . have := eq_of_beq z1; omega
        subst en
        have er : repS z (1 : Int).toNat = z := by
          unfold repS
          simp
        rw [er] at q
        exact ⟨.str z, H, I, ⟨_, rfl⟩, q⟩
      . rw [if_neg h1', ez]
        exact ⟨by show (repS z n.toNat).length <= sizeLine; rw [a3x]; exact hz, .str _, H, I.tok _, ⟨_, rfl⟩, q⟩
theorem a3y {X : Cx} (hc : X.calm = true) : CallR X (.builtin "all") (λ xs H Q => ∃ p bs, xs = [.ref p] /\ SqL X.K H p (List.map V.bl bs) /\ Q (.bl (bs.all id)) H) := by
  intro pins s σ H xs us Q I r h
  obtain ⟨p, bs, rfl, hp, q⟩ := h
  obtain ⟨u, rfl, ru⟩ := x0 r
  cases ru
  obtain ⟨its, rv, pl, hz⟩ := I.list hp
  have hlt : p < s.heap.objs.size := by
    obtain ⟨o, n, e, _⟩ := pl
    exact Heap.lt_size e
  have hlen : its.length = bs.length := by rw [<- rv.length, List.length_map]
  refine call_all_walk (wpAny_pyIter_list pl.isList ?_)
  refine ⟨s.heap.objs.size, _, _, _, _, _, λ i => bs.getD i true, rfl, Walks.list (show X.A.in1.handled = none from I.ok.hd hc) s.heap.objs.size p (Nat.ne_of_lt hlt) its.toArray, ⟨⟨_, Heap.get?_push_size _ rfl, rfl, rfl⟩, pl.isList.at λ o e => Heap.get?_push_of_some _ e⟩, ?_, ?_⟩
  . intro i v s' Q' E' hv hq
    have hv' : its[i]? = some v := by simpa using hv
    have hb : bs[i]? = some (bs.getD i true) := by
      have hi : i < bs.length := by rw [<- hlen]; exact (List.getElem?_eq_some_iff.mp hv').1
      simp [List.getD, hi]
    obtain ⟨u, hu, ru⟩ := rv.get (i := i) (x := .bl (bs.getD i true)) (by rw [List.getElem?_map, hb]; rfl)
    rw [hv'] at hu
    cases hu
    cases ru
    exact wpAny_truthy_bool hq
  . intro h' tk hk
    have e : ((List.range its.toArray.size).all λ i => bs.getD i true) = bs.all id := by
      rw [List.size_toArray, hlen]
      rw [Bool.eq_iff_iff, List.all_eq_true, List.all_eq_true]
      constructor
      . intro h b hb
        obtain ⟨i, hi, e⟩ := List.mem_iff_getElem.mp hb
        have := h i (List.mem_range.mpr hi)
        simp [List.getD, hi, e] at this
        exact this
      . intro h i hi
        have hi' := List.mem_range.mp hi
        have := h bs[i] (List.getElem_mem hi')
        simp [List.getD, hi']
        exact this
    rw [e]
    exact ⟨.bl _, H, I.kept (h' := h') (t' := tk) λ b o eo => hk b o (by
      have : b < s.heap.objs.size := Heap.lt_size eo
      simp
      exact Nat.ne_of_lt this) (Heap.get?_push_of_some _ eo), rfl, q⟩
theorem call_all0 {X : Cx} (hc : X.calm = true) : CallR X (.builtin "all") (λ xs H Q => ∃ p bs, xs = [.ref p] /\ Rd H p (.lst (List.map V.bl bs)) /\ Q (.bl (bs.all id)) H) := by
  intro pins s σ H xs us Q I r h
  obtain ⟨p, bs, e, hp, q⟩ := h
  exact a3y hc pins s σ H xs us Q I r ⟨p, bs, e, .inl hp, q⟩
theorem Turn.imp {P : Program} {w : World} {K : PySem.W.Frag} {tg : Expr} {J J' : It} {fp : List Addr} {it : Addr} {tn : Nat -> Heap -> Prop} (T : Turn P w K tg J fp it tn)
    (hg : ∀ i H, J'.go i H -> J.go i H) (hy : ∀ i H x H', J'.go i H -> J.yld i H x H' -> J'.yld i H x H') (hs : ∀ i H, J'.stop i H -> J.stop i H) : Turn P w K tg J' fp it tn :=
  ⟨T.mem, T.obj, T.keep, λ X e1 e2 e3 hc i pins s σ H E I hf st g => thn (T.item X e1 e2 e3 hc i pins s σ H E I hf st (hg i H g)) λ r s1 ⟨u, e, h⟩ => ⟨u, e, thn h λ _ s2 ⟨x, H', I', rx, y, st', fr⟩ => ⟨x, H', I', rx, hy i H x H' g y, st', fr⟩⟩,
    λ X e1 e2 e3 hc i pins s σ H E I hf st g => T.done X e1 e2 e3 hc i pins s σ H E I hf st (hs i H g), T.self⟩
def Itl0 (a : Addr) : It := ⟨λ i H => ∃ xs x, Rd H a (.lst xs) /\ xs[i]? = some x, λ i H x H' => H' = H /\ ∀ xs, Rd H a (.lst xs) -> xs[i]? = some x, λ i H => ∃ xs, Rd H a (.lst xs) /\ xs.length <= i⟩
def Itt0 (a : Addr) : It := ⟨λ i H => ∃ xs x, Rd H a (.tup xs) /\ xs[i]? = some x, λ i H x H' => H' = H /\ ∀ xs, Rd H a (.tup xs) -> xs[i]? = some x, λ i H => ∃ xs, Rd H a (.tup xs) /\ xs.length <= i⟩
def Its (z : Str) : It := ⟨λ i _ => i < z.length, λ i H x H' => H' = H /\ ∃ c, z.cps[i]? = some c /\ x = .str ⟨#[c]⟩, λ i _ => z.length <= i⟩
theorem turn_str {P : Program} {w : World} {K : PySem.W.Frag} {tg : Expr} (it : Addr) (z : Str) (t : Tok) (ty : String) (hty : ty = "str_ascii_iterator" \/ ty = "str_iterator") : Turn P w K tg (Its z) [it] it (λ i h => h.IsStrIter it ty z t i) where
  mem := by simp
  obj := λ i h st b hb => by
    have e : b = it := by simpa using hb
    subst e
    obtain ⟨o, e, c, d⟩ := st
    exact ⟨o, e, λ v z => by rw [d] at z; cases z⟩
  keep := λ i h h' st k => by
    obtain ⟨o, e, r⟩ := st
    exact ⟨o, k it (by simp) o e, r⟩
  item := by
    intro X hP hw hK hc i pins s σ H E I hf st hg
    subst hP hw hK
    obtain ⟨f0, f1, f2, f3, f4, f5⟩ := hf it (by simp)
    have hg' : i < z.cps.size := hg
    have W : Walks X.prog X.w X.A it [it] [it] z.cps.size (SignAt z) (λ i h => h.IsStrIter it ty z t i) := by
      rcases hty with rfl | rfl
      . exact Walks.strAscii (I.ok.hd hc) it z t
      . exact Walks.strWide (I.ok.hd hc) it z t
    refine W.item i s _ _ hg' st λ v h' tk hv st' kk => ?_
    obtain ⟨c, u, hcu, rfl⟩ := hv
    have I1 : Inv X pins σ H { s with heap := h', toks := tk } := I.turned (λ b o hb e => kk b o (by simpa using hb) e) f0 f1 f3 f4 f5
    obtain ⟨o, e, cl, d⟩ := id st'
    have hn : ["enumerate", "zip", "dict_itemiterator", "dict_reverseitemiterator", "odict_iterator", "itertools.zip_longest", "itertools.pairwise"].contains ty = false := by
      rcases hty with rfl | rfl <;> decide
    exact ⟨_, rfl, go_of (s := { s with heap := h', toks := tk }) e cl d hn ⟨.str ⟨#[c]⟩, H, I1, ⟨u, rfl⟩, ⟨rfl, c, hcu, rfl⟩, st', λ b hb => (hf b hb).1⟩⟩
  done := by
    intro X hP hw hK hc i pins s σ H E I hf st hg
    subst hP hw hK
    obtain ⟨f0, f1, f2, f3, f4, f5⟩ := hf it (by simp)
    have hg' : z.cps.size <= i := hg
    rcases hty with rfl | rfl
    . exact wpAny_pyNext_ascii_end (I.ok.hd hc) st (by simp; omega) λ h' eb => ⟨rfl, I.turned (t' := s.toks) (λ b o hb e => eb b o hb e) f0 f1 f3 f4 f5⟩
    . exact wpAny_pyNext_wide_end (I.ok.hd hc) st (by simp; omega) λ h' eb => ⟨rfl, I.turned (t' := s.toks) (λ b o hb e => eb b o hb e) f0 f1 f3 f4 f5⟩
  self := λ A i s Q E st h => by
    rcases hty with rfl | rfl
    . exact wpAny_pyIter_striter_ascii st h
    . exact wpAny_pyIter_striter_wide st h
section
variable {X : Cx} {tg : Expr}
def X4 (n : Nat) (t : TGs) : TG := λ v σ H Q => ∃ a xs, v = .ref a /\ Rd H a (.tup xs) /\ xs.length = n /\ t xs σ H Q
theorem pg_tup0 {es : List Expr} {k : Nat} {t : TGs} {n : Nat} {pos : Pos} (hc : X.calm = true) (h : PGs X es t) (hn : (assignEach es X.env).length = n := by rfl) (hst : (assignEach es X.env).findIdx? (·.1) = none := by rfl) : PG X (.Tuple es k pos) (X4 n t) :=
  λ pins s σ H v u Q I r ⟨a, xs, e, hq, hl, hw⟩ => pg_tup (X := X) hc h hn hst pins s σ H v u Q I r ⟨a, xs, e, .inl hq, hl, hw⟩
def tFld0 (C : Addr) (ta : TE) (f : Str) : TE := λ σ H Q => ta σ H λ x H1 => ∃ a dx fs v, x = .ref a /\ H1 a = some (.ins C dx fs) /\ fs.lookup f = some v /\ Q v H1
theorem pe_fld0 {C : Addr} {e : Expr} {f : Str} {pos : Pos} {ta : TE} (c : Cls X.K C) (n : NoAttr X.K C f) (he : PE X e ta) (hb : attributeBase e f X.env (eval e X.env) = eval e X.env) : PE X (.Attribute e f pos) (tFld0 C ta f) := by
  intro pins s σ H Q I h
  refine attr_of hb (thn (he pins s σ H _ I h) λ u s1 ⟨x, H1, I1, rx, a, dx, fs, v, ex, ea, l, q⟩ => ?_)
  subst ex
  obtain rfl : u = Value.ref a := rx
  exact a4x I1 ea c n l λ u' s2 I2 ru => ⟨v, H1, I2, ru, q⟩
end
theorem for_list0 {a : Addr} {xs : List V} {g : TG} {tb : TS} {D : Ends} {σ : St} {H : Hp} (Pv : Nat -> St -> Hp -> Prop) (h0 : Pv 0 σ H) (hl : ∀ i σ H, i <= xs.length -> Pv i σ H -> Rd H a (.lst xs))
    (hs : ∀ i x σ H, xs[i]? = some x -> Pv i σ H -> g x σ H λ σ2 H2 => tb { D with nx := Pv (i + 1), ct := Pv (i + 1), bk := D.nx } σ2 H2) (hd : ∀ σ H, Pv xs.length σ H -> D.nx σ H) :
    ∃ W : Nat -> Nat -> St -> Hp -> Prop, (∃ m, W 0 m σ H) /\ ∀ i m σ H, W i m σ H →
      ((Itl0 a).stop i H /\ D.nx σ H) \/ ((Itl0 a).go i H /\ ∃ N : St -> Hp -> Prop, (∀ σ' H', N σ' H' -> ∃ m', m' < m /\ W (i + 1) m' σ' H') /\ ∀ x H', (Itl0 a).yld i H x H' -> g x σ H' λ σ2 H2 => tb { D with nx := N, ct := N, bk := D.nx } σ2 H2) := by
  refine ⟨λ i m σ H => m = xs.length - i /\ i <= xs.length /\ Pv i σ H, ⟨xs.length, by simp, Nat.zero_le _, h0⟩, ?_⟩
  rintro i m σ H ⟨rfl, hi, p⟩
  have q := hl i σ H hi p
  by_cases hlt : i < xs.length
  . refine .inr ⟨⟨xs, xs[i], q, by simp [hlt]⟩, Pv (i + 1), λ σ' H' p' => ⟨xs.length - (i + 1), by omega, rfl, hlt, p'⟩, λ x H' y => ?_⟩
    obtain ⟨e, y⟩ := y
    subst e
    exact hs i x σ _ (y xs q) p
  . have e : i = xs.length := by omega
    subst e
    exact .inl ⟨⟨xs, q, Nat.le_refl _⟩, hd σ H p⟩
theorem for_str {z : Str} {g : TG} {tb : TS} {D : Ends} {σ : St} {H : Hp} (Pv : Nat -> St -> Hp -> Prop) (h0 : Pv 0 σ H)
    (hs : ∀ i c σ H, z.cps[i]? = some c -> Pv i σ H -> g (.str ⟨#[c]⟩) σ H λ σ2 H2 => tb { D with nx := Pv (i + 1), ct := Pv (i + 1), bk := D.nx } σ2 H2) (hd : ∀ σ H, Pv z.length σ H -> D.nx σ H) :
    ∃ W : Nat -> Nat -> St -> Hp -> Prop, (∃ m, W 0 m σ H) /\ ∀ i m σ H, W i m σ H →
      ((Its z).stop i H /\ D.nx σ H) \/ ((Its z).go i H /\ ∃ N : St -> Hp -> Prop, (∀ σ' H', N σ' H' -> ∃ m', m' < m /\ W (i + 1) m' σ' H') /\ ∀ x H', (Its z).yld i H x H' -> g x σ H' λ σ2 H2 => tb { D with nx := N, ct := N, bk := D.nx } σ2 H2) := by
  refine ⟨λ i m σ H => m = z.length - i /\ i <= z.length /\ Pv i σ H, ⟨z.length, by simp, Nat.zero_le _, h0⟩, ?_⟩
  rintro i m σ H ⟨rfl, hi, p⟩
  by_cases hlt : i < z.length
  . refine .inr ⟨hlt, Pv (i + 1), λ σ' H' p' => ⟨z.length - (i + 1), by omega, rfl, hlt, p'⟩, λ x H' y => ?_⟩
    obtain ⟨e, c, hc, ex⟩ := y
    subst e ex
    exact hs i c σ _ hc p
  . have e : i = z.length := by omega
    subst e
    exact .inl ⟨Nat.le_refl _, hd σ H p⟩
def PIfs (X : Cx) (ifs : List Expr) (t : TT) : Prop :=
  ∀ (pins : List (Addr × Obj)) (s : Shared) (σ : St) (H : Hp) (Q : Bool -> Hp -> Prop), Inv X pins σ H s -> t σ H Q →
    wpAny (model X.prog X.w) X.A (forIn ifs true λ c r => if r = true then do let ok ← isTrue c X.env (eval c X.env); pure (ForInStep.yield ok) else pure (ForInStep.yield r)) (TP X pins σ Q) X.xe s
def tYes : TT := λ _ H Q => Q true H
theorem pif_nil {X : Cx} : PIfs X [] tYes := λ pins s σ H Q I h => by
  rw [List.forIn_nil]
  exact wpAny_pure ⟨H, I, h⟩
theorem pif_one {X : Cx} {c : Expr} {t : TT} (hc : PT X c t) : PIfs X [c] t := λ pins s σ H Q I h => by
  rw [List.forIn_cons, if_pos rfl]
  refine wpAny_bind (wpAny_bind (thn (hc pins s σ H Q I h) λ b s1 q => ?_))
  refine wpAny_pure ?_
  dsimp only
  rw [List.forIn_nil]
  exact wpAny_pure q
inductive FreeOk (X : Cx) (scope : Scope) (cl : List (Str × Addr)) : List (Str × Nat) -> Prop where
  | nil : FreeOk X scope cl []
  | cons {x : Str} {j : Nat} {fr : List (Str × Nat)} (h1 : X.N[j]? = some x) (h2 : X.env.kindOf x = some .cell) (h3 : (relabel scope X.env).names.lookup x = some .cell) (h4 : cl.lookup x = X.env.cells.lookup x) (r : FreeOk X scope cl fr) : FreeOk X scope cl ((x, j) :: fr)
theorem FreeOk.get {X : Cx} {scope : Scope} {cl : List (Str × Addr)} : ∀ {fr : List (Str × Nat)}, FreeOk X scope cl fr -> ∀ {k : Nat} {q : Str × Nat}, fr[k]? = some q →
    X.N[q.2]? = some q.1 /\ X.env.kindOf q.1 = some .cell /\ (relabel scope X.env).names.lookup q.1 = some .cell /\ cl.lookup q.1 = X.env.cells.lookup q.1
  | _, .nil, _, _, h => by simp at h
  | _, .cons h1 h2 h3 h4 r, 0, q, h => by
    simp at h
    subst h
    exact ⟨h1, h2, h3, h4⟩
  | _, .cons _ _ _ _ r, k + 1, q, h => r.get (k := k) (by simpa using h)
structure CDyn where
  fp : List Addr
  pins : List (Addr × Obj)
  s : Shared
  H : Hp
  C : Addr
def i6 (X : Cx) (tn : List Str) (fr : List (Str × Nat)) (scope : Scope) (cl : List (Str × Addr)) (d : CDyn) : Cx where
  prog := X.prog
  w := X.w
  K := X.K
  mg := X.mg
  base := X.base
  A := X.A
  N := tn ++ fr.map (·.1)
  s₀ := d.s
  H₀ := d.H
  env := compEnvC scope cl d.C X.env
  outer := X.stack
  stack := X.stack
  ex := d.fp
  fn := λ _ => false
  calm := X.calm
  pn := X.pn ++ d.pins
  xe := λ _ _ => False
def inn (tn : List Str) (fr : List (Str × Nat)) (σ : St) : St := tn.map (λ _ => none) ++ fr.map λ q => (σ[q.2]?).join
def Q9 (n : Nat) (g : TG) : Prop := ∀ v σ H Q, g v σ H Q -> g v σ H λ σ' H' => Q σ' H' /\ σ'.drop n = σ.drop n
def a2C (n : Nat) (g : TGs) : Prop := ∀ v σ H Q, g v σ H Q -> g v σ H λ σ' H' => Q σ' H' /\ σ'.drop n = σ.drop n
theorem kg_name {n i : Nat} (h : i < n := by decide) : Q9 n (b9 i) := λ v σ H Q q => ⟨q, List.drop_set_of_lt h⟩
theorem kg_nil {n : Nat} : a2C n gNil := λ v σ H Q ⟨e, q⟩ => ⟨e, q, rfl⟩
theorem kg_tup {n k : Nat} {t : TGs} (h : a2C n t) : Q9 n (X4 k t) := λ v σ H Q ⟨a, xs, e, hr, hl, q⟩ => ⟨a, xs, e, hr, hl, h _ _ _ _ q⟩
def tComp (wi : TI) (tn : List Str) (fr : List (Str × Nat)) (g : TG) (tt : TT) (te : TE) : TE := λ σ H Q => wi σ H λ J H1 => ∀ p, H1 p = none →
  ∃ W : Nat -> Nat -> Hp -> Prop, (∃ m, W 0 m (upd H1 p (.lst []))) /\ ∀ i m G, W i m G →
    (J.stop i G /\ Q (.ref p) G) \/ (J.go i G /\ ∃ N : Hp -> Prop, (∀ G', N G' -> ∃ m', m' < m /\ W (i + 1) m' G') /\ ∀ x G', J.yld i G x G' →
      g x (inn tn fr σ) G' λ σ2 G2 => tt σ2 G2 λ b G3 => br b (te σ2 G3 λ y G4 => ∃ ys, G4 p = some (.lst ys) /\ ys.length < sizeLine /\ N (upd G4 p (.lst (ys ++ [y])))) (N G3))
section
variable {prog : Program} {w : World} {A : Around} {R : Result -> Shared -> Prop} {s : Shared}
theorem a3A {elt target iter : Expr} {ifs : List Expr} {scope : Scope} {pos : Pos} {it acc : Value} {env : Env} (I : Nat -> Shared -> Prop)
    (turn : ∀ n s, I n s -> wpAny (model prog w) A (pyNext it) (λ r s₁ => match r with
      | none => R (.ok .next) s₁
      | some v => wpAny (model prog w) A (letOwnedTupleGo target it v) (λ _ s₀ => wpAny (model prog w) A (assign target env v) (λ _ s₂ =>
          wpAny (model prog w) A (forIn ifs true λ c r => if r = true then do let ok ← isTrue c env (eval c env); pure (ForInStep.yield ok) else pure (ForInStep.yield r)) (λ ok s₃ =>
            if ok = true then wpAny (model prog w) A (eval elt env) (λ x s₄ =>
              wpAny (model prog w) A (call (.builtin "list.append") [acc, x]) (λ _ s₅ => ∃ m, m < n /\ I m s₅) (λ _ _ => False) s₄) (λ _ _ => False) s₃
            else ∃ m, m < n /\ I m s₃) (λ _ _ => False) s₂) (λ _ _ => False) s₀) (λ _ _ => False) s₁) (λ _ _ => False) s)
    (n : Nat) (h : I n s) :
    codeAny (model prog w) A (.compLoop (.ListComp elt [⟨target, iter, ifs, 0⟩] scope pos) 0 it acc env) R s := by
  refine codeAny_loop rfl I (λ n s hI => ?_) n h
  show wpAny _ A ((compTurn (.ListComp elt [⟨target, iter, ifs, 0⟩] scope pos) 0 it acc env).onRaise (λ x => do noteFrame x env; theTreesLotGoes x)) _ _ s
  refine wpAny_noted ?_
  rw [compTurn_list]
  refine wpAny_bind (wpAny_standAt (wpAny_bind (wpAny_mono (turn n s hI) (λ r s₁ h₁ => ?_) λ _ _ z => z.elim)))
  cases r with
  | none => exact wpAny_pure h₁
  | some v =>
    refine wpAny_bind (wpAny_mono h₁ (λ _ s₀ h₀ => ?_) λ _ _ z => z.elim)
    refine wpAny_bind (wpAny_mono h₀ (λ _ s₂ h₂ => wpAny_bind (wpAny_mono h₂ (λ ok s₃ h₃ => ?_) λ _ _ z => z.elim)) λ _ _ z => z.elim)
    cases ok with
    | false => exact wpAny_pure ⟨rfl, h₃⟩
    | true =>
      exact wpAny_bind (wpAny_bind (wpAny_mono h₃ (λ x s₄ h₄ => wpAny_bind (wpAny_mono h₄ (λ _ s₅ h₅ => wpAny_pure (wpAny_pure ⟨rfl, h₅⟩)) λ _ _ z => z.elim)) λ _ _ z => z.elim))
end
section
variable {X : Cx} {elt tg iter : Expr} {ifs : List Expr} {scope : Scope} {pos : Pos} {tn : List Str} {fr : List (Str × Nat)} {cl : List (Str × Addr)} {wi : TI} {g : TG} {tt : TT} {te : TE}
structure CompOk (X : Cx) (scope : Scope) (tn : List Str) (fr : List (Str × Nat)) (cl : List (Str × Addr)) : Prop where
  clos : closureFor scope X.env = pure cl
  kind : scope.kind = .function
  nocell : ∀ y ∈ scope.names, y.2 ≠ .cell
  names : ∀ y ∈ scope.names, y.2 = .local -> scope.names.lookup y.1 = some .local
  free : FreeOk X scope cl fr
  has : ∀ x, ((relabel scope X.env).names.lookup x = some .cell \/ (relabel scope X.env).names.lookup x = some .free) -> ∃ c, cl.lookup x = some c
  sub : ∀ x c, cl.lookup x = some c -> X.env.cells.lookup x = some c
theorem a1G {RR : Value -> Addr -> Result -> Shared -> Prop} {pins : List (Addr × Obj)} {s : Shared} {σ : St} {H : Hp} {Q : VK} (hc : X.calm = true) (ok : CompOk X scope tn fr cl) (kg : Q9 tn.length g) (hi : PI X tg iter wi)
    (hg : ∀ d, PG (i6 X tn fr scope cl d) tg g) (ht : ∀ d, PIfs (i6 X tn fr scope cl d) ifs tt) (he : ∀ d, PE (i6 X tn fr scope cl d) elt te) (I : Inv X pins σ H s) (h : tComp wi tn fr g tt te σ H Q)
    (hRR : ∀ (p C : Addr) (G : Hp) (s' : Shared), Inv X pins σ G s' -> FpOk X pins G C -> (∃ m, s'.heap.Ns C m) -> Q (.ref p) G -> RR (.ref p) C (.ok .next) s') :
    wpAny (model X.prog X.w) X.A (eval iter X.env) (λ x s₁ => wpAny (model X.prog X.w) X.A (pyIter x) (λ it s₂ => wpAny (model X.prog X.w) X.A (newList []) (λ acc s₃ =>
      wpAny (model X.prog X.w) X.A (newFunctionEnv scope X.env.globals cl [] X.env.qual none .none (some X.env)) (λ cenv s₄ =>
        codeAny (model X.prog X.w) X.A (.compStart (.ListComp elt [⟨tg, iter, ifs, 0⟩] scope pos) 0 it acc { cenv with scope := relabel scope X.env }) (RR acc cenv.locals) s₄) X.xe s₃) X.xe s₂) X.xe s₁) X.xe s := by
  refine thn (hi pins s σ H _ I h) λ v s1 h1 => thn h1 λ itv s2 h2 => ?_
  obtain ⟨it, fp, tk, J, H2, e, I2, T, st2, f2, hq⟩ := h2
  subst e
  refine wpAny_newObj_type (wpAny_newFunctionEnv ok.nocell (by intro y hy; simp at hy) (λ h₁ hns₁ hsb₁ => ?_) ok.kind)
  dsimp only at hns₁ hsb₁ ⊢
  generalize hH2 : s2.heap.push { cls := .type "list", dict := none, data := .seq ([] : List Value).toArray } = HH at hns₁ hsb₁ ⊢
  have hC : HH.objs.size = s2.heap.objs.size + 1 := by rw [<- hH2, Heap.size_push]
  have hDC : s2.heap.objs.size ≠ HH.objs.size := by rw [hC]; exact Nat.ne_of_lt (Nat.lt_succ_self _)
  have hCle : s2.heap.objs.size <= HH.objs.size := by rw [hC]; exact Nat.le_succ _
  have J2 : ∀ b, b < s2.heap.objs.size -> b ≠ HH.objs.size := λ b hb => by rw [hC]; exact Nat.ne_of_lt (Nat.lt_succ_of_lt hb)
  have old : ∀ b o, s2.heap.get? b = some o -> h₁.get? b = some o := λ b o e => hsb₁.extBut b o (J2 b (Heap.lt_size e)) (Heap.get?_push_of_some _ (hH2 ▸ Heap.get?_push_of_some _ e))
  have hacc : h₁.get? s2.heap.objs.size = some { cls := .type "list", data := .seq ([] : List Value).toArray } := hsb₁.extBut _ _ hDC (Heap.get?_push_of_some _ (hH2 ▸ Heap.get?_push_size _ rfl))
  generalize hp : s2.heap.objs.size = p at hDC hCle hacc
  generalize hCC : HH.objs.size = C at hDC hCle J2 hns₁
  have hnp : H2 p = none := I2.hok.fresh (by rw [<- hp]; exact Nat.le_refl _)
  have hnC : H2 C = none := I2.hok.fresh (by rw [hp]; exact hCle)
  obtain ⟨W, ⟨m0, w0⟩, turn⟩ := hq p hnp
  have lt2 : ∀ b o, s2.heap.get? b = some o -> b ≠ C := λ b o e => J2 b (Heap.lt_size e)
  have ok' : (i6 X tn fr scope cl ⟨fp, pins, s2, H2, C⟩).Ok := by
    refine ⟨I2.ok.mod, ok.kind, I2.ok.glob, I2.ok.blt, (by show s2.heap.objs.size <= C; rw [hp]; exact hCle), λ x y c h1 h2 => I2.ok.inj x y c (ok.sub x c h1) (ok.sub y c h2), ok.has, λ x c z => absurd z (by simp [i6]), I2.ok.hd, I2.ok.frames, .inl rfl, λ b hb => ⟨?_, λ x c h => (f2 b hb).2.2.2.2.1 x c (ok.sub x c h)⟩, I2.bs,
      Nat.le_trans I2.ok.bsz I2.sz, λ b o e hb => ?_, λ b hb hf => ?_, I2.stack, I2.stkFree⟩
    . obtain ⟨o, e, _⟩ := T.obj 0 _ st2 b hb
      exact lt2 b o e
    . rcases (f2 b hb).2.2.2.1 with z | z
      . exact I2.ok.noex b o e z
      . have := Nat.lt_of_lt_of_le (Heap.lt_size e) (Nat.le_trans I2.ok.bsz z)
        exact absurd this (Nat.lt_irrefl _)
    . rcases List.mem_cons.mp (I2.stkSub b hf) with z | z
      . exact (f2 b hb).2.1 z
      . exact (f2 b hb).2.2.1 z
  have new : ObjOk X.prog X.w (upd H2 p (.lst [])) h₁ p (.lst []) := ⟨Nat.zero_le _, [], 0, .nil, hacc⟩
  have J0 : ∀ tk', Inv (i6 X tn fr scope cl ⟨fp, pins, s2, H2, C⟩) [] (inn tn fr σ) (upd H2 p (.lst [])) { s2 with heap := h₁, toks := tk' } := λ tk' => by
    refine ⟨ok', rfl, I2.bare, Un.laid old (by rw [<- hp]; exact Nat.le_refl _) hnp, ⟨_, hns₁, λ i x v h1 h2 h3 => ?_⟩, λ x c h => ?_, ?_, λ x c h => ?_, λ q hq => ?_, I2.hok.laid old (by rw [<- hp]; exact Nat.le_refl _) new, ?_⟩
    . -- a name from around
      have h2' : (tn.map (λ _ => (none : Option V)) ++ fr.map λ q => (σ[q.2]?).join)[i]? = some (some v) := h2
      have h1' : (tn ++ fr.map (·.1))[i]? = some x := h1
      by_cases hi : i < tn.length
      . rw [List.getElem?_append_left (by simpa using hi), List.getElem?_map] at h2'
        cases e : tn[i]? with
        | none => rw [e] at h2'; cases h2'
        | some a => rw [e] at h2'; cases h2'
      . rw [List.getElem?_append_right (by simpa using hi), List.length_map, List.getElem?_map] at h2'
        rw [List.getElem?_append_right (by omega), List.getElem?_map] at h1'
        cases e : fr[i - tn.length]? with
        | none => rw [e] at h2'; cases h2'
        | some q =>
          rw [e] at h1' h2'
          have e1 : q.1 = x := Option.some.inj h1'
          have e2 : (σ[q.2]?).join = some v := Option.some.inj h2'
          have e3 : σ[q.2]? = some (some v) := by
            cases z : σ[q.2]? with
            | none => rw [z] at e2; cases e2
            | some o => rw [z] at e2; exact congrArg some e2
          obtain ⟨g1, g2, g3, g4⟩ := ok.free.get e
          obtain ⟨m, hn, hl⟩ := I2.loc
          obtain ⟨u, ru, lk⟩ := hl q.2 q.1 v g1 e3 (.inr (.inl g2))
          refine ⟨u, ru, .inr ⟨.inl (by rw [<- e1]; exact g3), ?_⟩⟩
          rcases lk with ⟨z, _⟩ | ⟨_, c, hcl, hcell⟩
          . rw [g2] at z; cases z
          . obtain ⟨o, ho, hd⟩ := hcell
            exact ⟨c, by rw [<- e1]; exact g4.trans hcl, o, old c o ho, hd⟩
    . obtain ⟨v, o, ho, hd⟩ := I2.cell x c (ok.sub x c h)
      exact ⟨v, o, old c o ho, hd⟩
    . show upd H2 p (.lst []) C = none
      rw [b4 (Ne.symm hDC)]
      exact hnC
    . obtain ⟨v, o, ho, hd⟩ := I2.cell x c (ok.sub x c h)
      show upd H2 p (.lst []) c = none
      rw [b4 (Nat.ne_of_lt (by rw [<- hp]; exact Heap.lt_size ho))]
      exact I2.freeC x c (ok.sub x c h)
    . have hq' : q ∈ X.pn ++ pins := by simpa [i6] using hq
      obtain ⟨e, n, ne, nf, d⟩ := I2.pin q hq'
      refine ⟨old _ _ e, ?_, lt2 _ _ e, λ hf => ?_, d⟩
      . show upd H2 p (.lst []) q.1 = none
        rw [b4 (Nat.ne_of_lt (by rw [<- hp]; exact Heap.lt_size e))]
        exact n
      . rcases List.mem_cons.mp (I2.stkSub _ hf) with z | z
        . exact ne z
        . exact nf z
    . show (inn tn fr σ).length = (tn ++ fr.map (·.1)).length
      unfold inn
      simp
  have stat : ∀ {G : Hp}, (∀ b ∈ fp, G b = none) -> ∀ b ∈ fp, FpOk (i6 X tn fr scope cl ⟨fp, pins, s2, H2, C⟩) [] G b := λ {G} hn b hb => by
    obtain ⟨f0, f1, f3, f4, f5, f6⟩ := f2 b hb
    obtain ⟨o, e, _⟩ := T.obj 0 _ st2 b hb
    refine ⟨hn b hb, lt2 b o e, λ hf => ?_, .inl hb, λ x c h => f5 x c (ok.sub x c h), λ q hq => f6 q (by simpa [i6] using hq)⟩
    rcases List.mem_cons.mp (I2.stkSub _ hf) with z | z
    . exact f1 z
    . exact f3 z
  have wk : ∀ {σ9 : St}, σ9.drop tn.length = (inn tn fr σ).drop tn.length -> ∀ (i : Nat) (v : V), (inn tn fr σ)[i]? = some (some v) -> σ9[i]? = some (some v) := λ {σ9} hd i v h => by
    by_cases hi : i < tn.length
    . have h' : (tn.map (λ _ => (none : Option V)) ++ fr.map λ q => (σ[q.2]?).join)[i]? = some (some v) := h
      rw [List.getElem?_append_left (by simpa using hi), List.getElem?_map] at h'
      cases e : tn[i]? with
      | none => rw [e] at h'; cases h'
      | some a => rw [e] at h'; cases h'
    . have e1 : ((inn tn fr σ).drop tn.length)[i - tn.length]? = some (some v) := by
        rw [List.getElem?_drop]
        rw [show tn.length + (i - tn.length) = i by omega]
        exact h
      rw [<- hd, List.getElem?_drop, show tn.length + (i - tn.length) = i by omega] at e1
      exact e1
  have loop : ∀ tk', codeAny (model X.prog X.w) X.A (.compLoop (.ListComp elt [⟨tg, iter, ifs, 0⟩] scope pos) 0 (.ref it) (.ref p) (compEnvC scope cl C X.env)) (RR (.ref p) C) { s2 with heap := h₁, toks := tk' } := λ tk' => by
    refine a3A (λ n s' => ∃ i G, Inv (i6 X tn fr scope cl ⟨fp, pins, s2, H2, C⟩) [] (inn tn fr σ) G s' /\ tk i s'.heap /\ (∀ b ∈ fp, G b = none) /\ W i n G) ?_ m0
      ⟨0, _, J0 tk', T.keep 0 _ _ st2 λ b _ o e => old b o e, λ b hb => ?_, w0⟩
    . rintro n s3 ⟨i, G, I3, st3, fr3, w3⟩
      rcases turn i n G w3 with ⟨stop, qn⟩ | ⟨go, N, hN, step⟩
      . refine thn (T.done (i6 X tn fr scope cl ⟨fp, pins, s2, H2, C⟩) rfl rfl rfl hc i [] s3 _ G _ I3 (stat fr3) st3 stop) λ r s4 ⟨hr, I4⟩ => ?_
        subst hr
        obtain ⟨m, hm, _⟩ := I4.loc
        refine hRR p C G s4 ?_ ?_ ⟨m, hm⟩ qn
        . exact I2.call' (ch := fp) I4.os I4.base I4.hok I4.bare λ b hb => ⟨(f2 b hb).2.2.2.1, (f2 b hb).2.1, (f2 b hb).2.2.2.2.1, (f2 b hb).2.2.2.2.2⟩
        . exact I2.fpOk (by rw [hp]; exact hCle) I4.free
      . refine thn (T.item (i6 X tn fr scope cl ⟨fp, pins, s2, H2, C⟩) rfl rfl rfl hc i [] s3 _ G _ I3 (stat fr3) st3 go) λ r s4 ⟨u, hr, h4⟩ => ?_
        subst hr
        refine thn h4 λ _ s5 ⟨x, H5, I5, r5, y5, st5, fr5⟩ => ?_
        have I5' := I5.pinned (stat fr5) (T.obj _ _ st5)
        refine thn (hg _ _ s5 _ H5 x u _ I5' r5 (kg _ _ _ _ (step x H5 y5))) λ _ s6 ⟨σ6, H6, I6, q6, k6⟩ => ?_
        have again : ∀ {H9 : Hp} {s9 : Shared}, Inv (i6 X tn fr scope cl ⟨fp, pins, s2, H2, C⟩) ([] ++ a0g fp s5.heap) σ6 H9 s9 -> N H9 -> ∃ m, m < n /\ ∃ i G, Inv (i6 X tn fr scope cl ⟨fp, pins, s2, H2, C⟩) [] (inn tn fr σ) G s9 /\ tk i s9.heap /\ (∀ b ∈ fp, G b = none) /\ W i m G := λ {H9 s9} I9 n9 => by
          obtain ⟨m', hm, w9⟩ := hN H9 n9
          refine ⟨m', hm, i + 1, H9, ?_, T.keep _ _ _ st5 λ b hb o e => (I9.pin (b, o) (List.mem_append_right _ (List.mem_append_right _ (J8 hb e)))).1, λ b hb => ?_, w9⟩
          . refine (I9.unpinned).weak ?_ (wk k6)
            rw [I9.len, I3.len]
          . obtain ⟨o, e, d⟩ := T.obj _ _ st5 b hb
            exact (I9.pin (b, o) (List.mem_append_right _ (List.mem_append_right _ (J8 hb e)))).2.1
        refine thn (ht _ _ s6 σ6 H6 _ I6 q6) λ b s7 ⟨H7, I7, q7⟩ => ?_
        cases b with
        | false =>
          rw [if_neg Bool.false_ne_true]
          rw [a0p] at q7
          exact again I7 q7
        | true =>
          rw [if_pos rfl]
          rw [a2A] at q7
          refine thn (he _ _ s7 σ6 H7 _ I7 q7) λ y s8 ⟨yv, H8, I8, r8, ys, hp8, hl8, n8⟩ => ?_
          refine thn (a1D _ s8 σ6 H8 (.ref p) [yv] (.ref p) [y] (λ _ H9 => N H9) I8 rfl (.cons r8 .nil) ⟨p, ys, yv, rfl, rfl, hp8, hl8, n8⟩) λ _ s9 ⟨v9, H9, I9, r9, q9⟩ => ?_
          exact again I9 q9
    . obtain ⟨o, e, _⟩ := T.obj 0 _ st2 b hb
      rw [b4 (Nat.ne_of_lt (by rw [<- hp]; exact Heap.lt_size e))]
      exact (f2 b hb).1
  subst hp
  subst hCC
  exact codeAny_compStart_list (loop _) (T.self _ _ _ _ _ (T.keep 0 _ _ st2 λ b _ o e => old b o e) (loop _))
theorem pe_comp (hc : X.calm = true) (ok : CompOk X scope tn fr cl) (kg : Q9 tn.length g) (hi : PI X tg iter wi)
    (hg : ∀ d, PG (i6 X tn fr scope cl d) tg g) (ht : ∀ d, PIfs (i6 X tn fr scope cl d) ifs tt) (he : ∀ d, PE (i6 X tn fr scope cl d) elt te)
    (hs : ∀ x, foldedSetIterable iter X.env x = pure x := by intro _; rfl) : PE X (.ListComp elt [⟨tg, iter, ifs, 0⟩] scope pos) (tComp wi tn fr g tt te) := by
  intro pins s σ H Q I h
  rw [eval_ListComp]
  refine wpAny_comprehension_free (use := none) rfl hs ok.clos ok.kind ok.names (a1G (RR := λ acc C => compPost (model X.prog X.w) X.A X.xe none (EP X pins σ Q) acc C) hc ok kg hi hg ht he I h ?_)
  intro p C G s' I' f m q
  obtain ⟨m, hm⟩ := m
  refine ⟨m, hm, λ h' hs' => ⟨.ref p, G, ?_, rfl, q⟩⟩
  exact I'.turned (it := C) (h' := h') (t' := s'.toks) (λ b o hb e => hs'.extBut b o hb e) f.1 f.2.1 f.2.2.2.1 f.2.2.2.2.1 f.2.2.2.2.2
end
end L2
namespace L2
open PySem PySem.Spec PyProof.Rows
theorem comp_str {z : Str} {g : TG} {tt : TT} {te : TE} {τ : St} {p : Addr} {H1 : Hp} {Q : VK} (f : Nat -> Option V) (hz : z.length < sizeLine)
    (turn : ∀ (i c : Nat), z.cps[i]? = some c -> ∀ (G : Hp) (k : Option V -> Hp -> Prop), k (f c) G -> g (.str ⟨#[c]⟩) τ G λ σ2 G2 => tt σ2 G2 λ b G3 => br b (te σ2 G3 λ y G4 => k (some y) G4) (k none G3))
    (fin : Q (.ref p) (upd H1 p (.lst (z.cps.toList.filterMap f)))) :
    ∃ W : Nat -> Nat -> Hp -> Prop, (∃ m, W 0 m (upd H1 p (.lst []))) /\ ∀ i m G, W i m G →
    ((Its z).stop i G /\ Q (.ref p) G) \/ ((Its z).go i G /\ ∃ N : Hp -> Prop, (∀ G', N G' -> ∃ m', m' < m /\ W (i + 1) m' G') /\ ∀ x G', (Its z).yld i G x G' →
      g x τ G' λ σ2 G2 => tt σ2 G2 λ b G3 => br b (te σ2 G3 λ y G4 => ∃ ys, G4 p = some (.lst ys) /\ ys.length < sizeLine /\ N (upd G4 p (.lst (ys ++ [y])))) (N G3)) := by
  have hzl : z.cps.toList.length = z.length := by simp [Str.length]
  refine ⟨λ i m G => m = z.length - i /\ i <= z.length /\ G = upd H1 p (.lst ((z.cps.toList.take i).filterMap f)), ⟨z.length, by simp, Nat.zero_le _, by simp⟩, ?_⟩
  rintro i m G ⟨rfl, hi, rfl⟩
  by_cases hlt : i < z.length
  . refine .inr ⟨hlt, λ G' => G' = upd H1 p (.lst ((z.cps.toList.take (i + 1)).filterMap f)), λ G' e => ⟨z.length - (i + 1), by omega, rfl, hlt, e⟩, λ x G' y => ?_⟩
    obtain ⟨e, c, hc, ex⟩ := y
    subst e ex
    have hc' : z.cps.toList[i]? = some c := by simpa using hc
    have et : (z.cps.toList.take (i + 1)).filterMap f = (z.cps.toList.take i).filterMap f ++ (f c).toList := by
      rw [List.take_add_one, hc', List.filterMap_append]
      cases e : f c <;> simp [e]
    have hlen : ((z.cps.toList.take i).filterMap f).length < sizeLine := Nat.lt_of_le_of_lt (Nat.le_trans (List.length_filterMap_le _ _) (by rw [List.length_take]; exact Nat.min_le_right _ _)) (by rw [hzl]; exact hz)
    refine turn i c hc _ (λ o G' => match o with | some y => ∃ ys, G' p = some (.lst ys) /\ ys.length < sizeLine /\ upd G' p (.lst (ys ++ [y])) = upd H1 p (.lst ((z.cps.toList.take (i + 1)).filterMap f)) | none => G' = upd H1 p (.lst ((z.cps.toList.take (i + 1)).filterMap f))) ?_
    rw [et]
    cases f c with
    | some y => exact ⟨_, b6, hlen, by rw [a2m]; simp⟩
    | none => simp
  . have e : i = z.length := by omega
    subst e
    refine .inl ⟨Nat.le_refl _, ?_⟩
    rw [<- hzl, List.take_length]
    exact fin
theorem F6 (a b : Str) : (a ++ b).cps.toList = a.cps.toList ++ b.cps.toList := by
  show (a.cps ++ b.cps).toList = _
  simp
end L2
namespace L2
open PySem PySem.Spec PyProof.Rows
section
variable {X : Cx} {CX : CXT} {k : Nat} {f : Addr} {fd : FuncData} {st : Stmt} {ps : List Str} {sp : Sp} {x : Str} {p pos : Pos} {e : Expr} {es : List Expr} {t : TA}
end
end L2
namespace L2
open PySem PySem.Spec PyProof.Rows
end L2
namespace Tv
open PySem PySem.Spec PyProof.Rows L2
abbrev St := L2.St
section
variable {X : Cx}
theorem PE.imp {e : Expr} {t u : TE} (h : PE X e t) (i : ∀ σ H Q, u σ H Q -> t σ H Q) : PE X e u := λ pins s σ H Q I q => h pins s σ H Q I (i σ H Q q)
theorem PT.imp {e : Expr} {t u : TT} (h : PT X e t) (i : ∀ σ H Q, u σ H Q -> t σ H Q) : PT X e u := λ pins s σ H Q I q => h pins s σ H Q I (i σ H Q q)
theorem OpR.imp {f : Value -> Value -> Sem Value} {r r' : R2} (h : OpR X f r) (i : ∀ x y H Q, r' x y H Q -> r x y H Q) : OpR X f r' := λ pins s σ H x y v u Q I rx ry q => h pins s σ H x y v u Q I rx ry (i x y H Q q)
theorem CallR.imp {f : Value} {r r' : List V -> Hp -> VK -> Prop} (h : CallR X f r) (i : ∀ xs H Q, r' xs H Q -> r xs H Q) : CallR X f r' := λ pins s σ H xs us Q I rx q => h pins s σ H xs us Q I rx (i xs H Q q)
theorem IxR.imp {r r' : R2} (h : IxR X r) (i : ∀ x y H Q, r' x y H Q -> r x y H Q) : IxR X r' := λ value slice pins s σ H x y v u Q I rx ry q => h value slice pins s σ H x y v u Q I rx ry (i x y H Q q)
def xE : TE := λ _ _ _ => False
def xT : TT := λ _ _ _ => False
def xS : TS := λ _ _ _ => False
def xA : TA := λ _ _ _ => False
def xG : TG := λ _ _ _ _ => False
def xR : R2 := λ _ _ _ _ => False
theorem l5 {e : Expr} : PE X e xE := λ _ _ _ _ _ _ h => h.elim
theorem pt_x {e : Expr} : PT X e xT := λ _ _ _ _ _ _ h => h.elim
theorem A1 {e : Stmt} : PS X e xS := λ _ _ _ _ _ _ h => h.elim
theorem pa_x {e : List Expr} : PA X e xA := λ _ _ _ _ _ _ _ h => h.elim
theorem pg_x {e : Expr} : PG X e xG := λ _ _ _ _ _ _ _ _ _ h => h.elim
theorem op_x {f : Value -> Value -> Sem Value} : OpR X f xR := λ _ _ _ _ _ _ _ _ _ _ _ _ h => h.elim
def gv (i : Nat) : TE := λ σ H Q => match σ[i]? with | some (some v) => Q v H | _ => False
theorem pe_gv {i : Nat} {x : Str} {pos : Pos} (hN : X.N[i]? = some x) (hv : Vis X.env.scope x) (hd : (x == ("__debug__" : Str)) = false) (hcd : (x == ("__classdict__" : Str)) = false) : PE X (.Name x pos) (gv i) :=
  PE.imp (pe_var hN hv hd hcd) λ σ H Q h => by
    unfold gv at h
    split at h
    . exact ⟨_, by assumption, h⟩
    . exact h.elim
def j8 : List Str -> Str -> Option Nat
  | [], _ => none
  | y :: r, x => if y = x then some 0 else (j8 r x).map (· + 1)
theorem i7 : ∀ {N : List Str} {x : Str} {i : Nat}, j8 N x = some i -> N[i]? = some x
  | [], _, _, h => by simp [j8] at h
  | y :: r, x, i, h => by
    unfold j8 at h
    split at h
    . rename_i e
      cases h
      simp [e]
    . cases e : j8 r x with
      | none => rw [e] at h; cases h
      | some j =>
        rw [e] at h
        cases h
        simpa using i7 e
@[irreducible] def newO (H : Hp) (o : HO) (Q : VK) : Prop := ∀ p, H p = none -> Q (.ref p) (upd H p o)
theorem a2D {H : Hp} {o : HO} {Q : VK} : newO H o Q = ∀ p, H p = none -> Q (.ref p) (upd H p o) := by unfold newO; rfl
theorem newO.at {H : Hp} {o : HO} {Q : VK} (h : newO H o Q) : ∀ p, H p = none -> Q (.ref p) (upd H p o) := by
  rw [a2D] at h
  exact h
theorem c7 {H : Hp} {o : HO} {Q : VK} (h : ∀ p G, H p = none -> Same H G -> G p = some o -> Q (.ref p) G) : newO H o Q := by
  rw [a2D]
  exact λ p hp => h p _ hp (z9 hp) b6
theorem new_u {H : Hp} {o : HO} {Q : VK} (h : ∀ p, H p = none -> Q (.ref p) (upd H p o)) : newO H o Q := by
  rw [a2D]
  exact h
@[irreducible] def addH (l b : Addr) (H : Hp) (Q : VK) : Prop := match H l, H b with
  | some (.lst xs), some (.lst ys) => xs.length + ys.length <= sizeLine /\ newO H (.lst (xs ++ ys)) Q
  | _, _ => False
def j0 : R2 := λ x y H Q => match x, y with
  | .int i, .int j => Q (.int (i + j)) H
  | .str a, .str b => a.length + b.length <= sizeLine /\ Q (.str (a ++ b)) H
  | .ref l, .ref b => addH l b H Q
  | _, _ => False
theorem op_addG : OpR X (binaryOp .Add) j0 := OpR.imp (OpR.or op_add (OpR.or a4w op_cat)) λ x y H Q h => by
  unfold j0 at h
  split at h
  . exact .inl ⟨_, _, rfl, rfl, h⟩
  . exact .inr (.inl ⟨_, _, rfl, rfl, h⟩)
  . unfold addH at h
    split at h
    . exact .inr (.inr ⟨_, _, _, _, rfl, rfl, by assumption, by assumption, h.1, h.2.at⟩)
    . exact h.elim
  . exact h.elim
def subG : R2 := λ x y H Q => match x, y with
  | .int i, .int j => Q (.int (i - j)) H
  | _, _ => False
theorem op_subG : OpR X (binaryOp .Sub) subG := OpR.imp op_sub λ x y H Q h => by
  unfold subG at h
  split at h
  . exact ⟨_, _, rfl, rfl, h⟩
  . exact h.elim
def CMulW (i j : Int) : Prop := CMul i j \/ IntMulOk i j
theorem op_mulW : OpR X (binaryOp .Mult) (rI CMulW λ i j => .int (i * j)) := opI λ _ _ _ _ _ _ _ hc q => mul_int q (hc.elim CMul.ok id)
def mulG : R2 := λ x y H Q => match x, y with
  | .int i, .int j => CMulW i j /\ Q (.int (i * j)) H
  | .str z, .int n => (0 < z.length /\ 0 <= n /\ n < 2 ^ 31 /\ n.toNat * z.length <= sizeLine) /\ Q (.str (repS z n.toNat)) H
  | .ref l, .int k => match H l with
    | some (.lst xs) => (-(2 ^ 63) <= k /\ k < 2 ^ 63 /\ xs.length * k.toNat <= sizeLine) /\ newO H (.lst (List.replicate k.toNat xs).flatten) Q
    | _ => False
  | _, _ => False
theorem op_mulG : OpR X (binaryOp .Mult) mulG := OpR.imp (OpR.or op_mulW (OpR.or a4D op_rep)) λ x y H Q h => by
  unfold mulG at h
  split at h
  . exact .inl ⟨_, _, rfl, rfl, h⟩
  . obtain ⟨⟨h1, h2, h3, h4⟩, q⟩ := h
    exact .inr (.inl ⟨_, _, rfl, rfl, h1, h2, h3, h4, q⟩)
  . split at h
    . obtain ⟨⟨h1, h2, h3⟩, q⟩ := h
      exact .inr (.inr ⟨_, _, _, rfl, rfl, by assumption, h1, h2, h3, q.at⟩)
    . exact h.elim
  . exact h.elim
def P8 : R2 := λ x y H Q => match x, y with
  | .int i, .int j => (0 < j /\ j < 2 ^ 200) /\ Q (.int (i / j)) H
  | _, _ => False
theorem O8 {j : Int} (h0 : 0 < j) (h : j < 2 ^ 200) : j.natAbs.log2 < 9000 := by
  have h1 : j.natAbs ≠ 0 := by omega
  have h2 : j.natAbs < 2 ^ 200 := by
    have e : ((j.natAbs : Nat) : Int) = j := by omega
    have h3 : ((j.natAbs : Nat) : Int) < ((2 ^ 200 : Nat) : Int) := by rw [e]; exact h
    exact Int.ofNat_lt.mp h3
  have h3 := (Nat.log2_lt h1).mpr h2
  omega
theorem op_fdivG : OpR X (binaryOp .FloorDiv) P8 := by
  intro pins s σ H x y v u Q I rx ry h
  unfold P8 at h
  split at h
  . obtain ⟨⟨hj, hj2⟩, q⟩ := h
    obtain ⟨t, rfl⟩ := rx
    obtain ⟨t', rfl⟩ := ry
    rename_i i j
    exact floordiv_int (by omega) (by rw [Int.fdiv_eq_ediv_of_nonneg i (by omega)]; exact ⟨.int (i / j), H, I.tok _, ⟨_, rfl⟩, q⟩) (.inl (PyProof.noPylong_of_log2 (O8 hj hj2)))
  . exact h.elim
def E9 : R2 := λ x y H Q => match x, y with
  | .int i, .int j => 0 < j /\ Q (.int (i % j)) H
  | _, _ => False
theorem op_modG : OpR X (binaryOp .Mod) E9 := OpR.imp op_mod λ x y H Q h => by
  unfold E9 at h
  split at h
  . exact ⟨_, _, rfl, rfl, h⟩
  . exact h.elim
def powG : R2 := λ x y H Q => match x, y with
  | .int i, .int j => CPow i j /\ Q (.int (i ^ j.toNat)) H
  | _, _ => False
theorem op_powG : OpR X (binaryOp .Pow) powG := OpR.imp op_pow λ x y H Q h => by
  unfold powG at h
  split at h
  . exact ⟨_, _, rfl, rfl, h⟩
  . exact h.elim
def binG : Operator -> R2
  | .Add => j0 | .Sub => subG | .Mult => mulG | .FloorDiv => P8 | .Mod => E9 | .Pow => powG | _ => xR
theorem op_binG : ∀ op, OpR X (binaryOp op) (binG op)
  | .Add => op_addG | .Sub => op_subG | .Mult => op_mulG | .FloorDiv => op_fdivG | .Mod => op_modG | .Pow => op_powG
  | .MatMult => op_x | .Div => op_x | .LShift => op_x | .RShift => op_x | .BitOr => op_x | .BitXor => op_x | .BitAnd => op_x
end
def rdD : Nat -> Hp -> V -> Option PyData
  | _, _, .non => some .none
  | _, _, .bl b => some (.bool b)
  | _, _, .int i => some (.int i)
  | _, _, .str x => some (.str x)
  | n + 1, H, .ref a => match H a with
    | some (.lst xs) => (xs.mapM (rdD n H)).map .list
    | some (.tup xs) => (xs.mapM (rdD n H)).map .tuple
    | _ => none
  | _, _, _ => none
theorem mapM_cons {α β : Type} {f : α -> Option β} {x : α} {xs : List α} : (x :: xs).mapM f = (f x).bind λ y => (xs.mapM f).bind λ ys => some (y :: ys) := by
  simp [List.mapM_cons]
theorem m4 {α β : Type} {f : α -> Option β} : ∀ {xs : List α} {ys : List β}, xs.mapM f = some ys -> ys.length = xs.length /\ ∀ (i : Nat) x, xs[i]? = some x -> ∃ y, ys[i]? = some y /\ f x = some y
  | [], ys, h => by
    simp at h
    subst h
    exact ⟨rfl, λ i x e => by simp at e⟩
  | x :: xs, ys, h => by
    rw [mapM_cons] at h
    cases e : f x with
    | none => rw [e] at h; cases h
    | some y =>
      cases e2 : xs.mapM f with
      | none => rw [e, e2] at h; cases h
      | some r =>
        rw [e, e2] at h
        cases h
        obtain ⟨h1, h2⟩ := m4 e2
        refine ⟨by simp [h1], λ i z hz => ?_⟩
        cases i with
        | zero =>
          simp at hz
          subst hz
          exact ⟨y, rfl, e⟩
        | succ i => exact h2 i z (by simpa using hz)
theorem mapM_same {α β : Type} {f g : α -> Option β} (fg : ∀ x y, f x = some y -> g x = some y) : ∀ {xs : List α} {ys : List β}, xs.mapM f = some ys -> xs.mapM g = some ys
  | [], ys, h => by simpa using h
  | x :: xs, ys, h => by
    rw [mapM_cons] at h ⊢
    cases e : f x with
    | none => rw [e] at h; cases h
    | some y =>
      cases e2 : xs.mapM f with
      | none => rw [e, e2] at h; cases h
      | some r =>
        rw [e, e2] at h
        rw [fg x y e, mapM_same fg e2]
        exact h
theorem F7 : ∀ {ds es : List PyData}, ds.length = es.length -> PyData.eqvAll ds es = (List.range ds.length).all λ j => PyData.eqv (ds.getD j .none) (es.getD j .none)
  | [], [], _ => rfl
  | [], _ :: _, h => by simp at h
  | _ :: _, [], h => by simp at h
  | d :: ds, e :: es, h => by
    show (PyData.eqv d e && PyData.eqvAll ds es) = _
    rw [F7 (by simpa using h), List.length_cons, List.range_succ_eq_map, List.all_cons, List.all_map]
    rfl
theorem F8 : ∀ {ds es : List PyData}, ds.length ≠ es.length -> PyData.eqvAll ds es = false
  | [], [], h => absurd rfl h
  | [], _ :: _, _ => rfl
  | _ :: _, [], _ => rfl
  | d :: ds, e :: es, h => by
    show (PyData.eqv d e && PyData.eqvAll ds es) = _
    rw [F8 (by simpa using h), Bool.and_false]
theorem X5 {f : V -> Option PyData} (hf : ∀ x d, f x = some d -> PyData.eqv d d = true) : ∀ {xs : List V} {ds : List PyData}, xs.mapM f = some ds -> PyData.eqvAll ds ds = true
  | [], ds, h => by simp at h; subst h; rfl
  | x :: xs, ds, h => by
    rw [mapM_cons] at h
    cases e : f x with
    | none => rw [e] at h; cases h
    | some y =>
      cases e2 : xs.mapM f with
      | none => rw [e, e2] at h; cases h
      | some r =>
        rw [e, e2] at h
        cases h
        show (PyData.eqv y y && PyData.eqvAll r r) = true
        rw [hf x y e, X5 hf e2]
        rfl
theorem a0s {H : Hp} : ∀ (n : Nat) (x : V) (d : PyData), rdD n H x = some d -> PyData.eqv d d = true
  | n, .non, d, h => by cases n <;> (cases h; rfl)
  | n, .bl b, d, h => by cases n <;> (cases h; exact beq_self_eq_true b)
  | n, .int b, d, h => by cases n <;> (cases h; exact beq_self_eq_true b)
  | n, .str b, d, h => by cases n <;> (cases h; exact beq_self_eq_true b)
  | n, .byt b, d, h => by cases n <;> cases h
  | n, .flt b, d, h => by cases n <;> cases h
  | n, .ty b, d, h => by cases n <;> cases h
  | 0, .ref a, d, h => by cases h
  | n + 1, .ref a, d, h => by
    unfold rdD at h
    cases e : H a with
    | none => rw [e] at h; cases h
    | some o =>
      rw [e] at h
      cases o <;> first | (cases h; done) | skip
      all_goals
        rename_i xs
        simp only at h
        cases e2 : xs.mapM (rdD n H) with
        | none => rw [e2] at h; cases h
        | some ds =>
          rw [e2] at h
          cases h
          exact X5 (a0s n) e2
def flatD : V -> PyData
  | .non => .none
  | .bl b => .bool b
  | .int i => .int i
  | .str z => .str z
  | _ => .none
section
variable {X : Cx} {pins : List (Addr × Obj)} {σ : St} {H : Hp} {s : Shared}
theorem z6 (I : Inv X pins σ H s) {a : Addr} {xs : List V} (e : H a = some (.lst xs)) : ∃ its : List Value, Vals xs its /\ s.heap.IsList a its.toArray := by
  obtain ⟨its, r, p, _⟩ := I.list (.inl (.inl e))
  exact ⟨its, r, p.isList⟩
theorem F1 (I : Inv X pins σ H s) {a : Addr} {xs : List V} (e : H a = some (.tup xs)) : ∃ its : List Value, Vals xs its /\ s.heap.IsTuple a its.toArray := by
  obtain ⟨its, r, p, _⟩ := I.tuple (.inl (.inl e))
  exact ⟨its, r, p⟩
theorem v8 (A : Around) : A.in1.units = A.units + 1 := rfl
theorem eqAt_fs {A : Around} {x : V} {u : Value} {a : Addr} (rx : RelV x u) (fx : a0n x = true) (hu : A.units < cLine) (h : (∃ its, s.heap.IsList a its) \/ ∃ its, s.heap.IsTuple a its) : SeqAt.EqAt A s u (.ref a) false /\ SeqAt.EqAt A s (.ref a) u false := by
  cases x with
  | non =>
    cases rx
    rcases h with ⟨its, h⟩ | ⟨its, h⟩
    . exact ⟨SeqAt.EqAt.none_list h hu, SeqAt.EqAt.list_none h hu⟩
    . exact ⟨SeqAt.EqAt.none_tuple h hu, SeqAt.EqAt.tuple_none h hu⟩
  | bl b =>
    cases rx
    rcases h with ⟨its, h⟩ | ⟨its, h⟩
    . exact ⟨SeqAt.EqAt.bool_list b h hu, SeqAt.EqAt.list_bool b h hu⟩
    . exact ⟨SeqAt.EqAt.bool_tuple b h hu, SeqAt.EqAt.tuple_bool b h hu⟩
  | int i =>
    obtain ⟨t, rfl⟩ := rx
    rcases h with ⟨its, h⟩ | ⟨its, h⟩
    . exact ⟨SeqAt.EqAt.int_list i t h hu, SeqAt.EqAt.list_int i t h hu⟩
    . exact ⟨SeqAt.EqAt.int_tuple i t h hu, SeqAt.EqAt.tuple_int i t h hu⟩
  | str i =>
    obtain ⟨t, rfl⟩ := rx
    rcases h with ⟨its, h⟩ | ⟨its, h⟩
    . exact ⟨SeqAt.EqAt.str_list i t h hu, SeqAt.EqAt.list_str i t h hu⟩
    . exact ⟨SeqAt.EqAt.str_tuple i t h hu, SeqAt.EqAt.tuple_str i t h hu⟩
  | _ => cases fx
theorem K2 {n : Nat} {a : Addr} {d : PyData} (h : rdD n H (.ref a) = some d) : ∃ m, n = m + 1 /\ ((∃ xs ds, H a = some (.lst xs) /\ xs.mapM (rdD m H) = some ds /\ d = .list ds) \/ ∃ xs ds, H a = some (.tup xs) /\ xs.mapM (rdD m H) = some ds /\ d = .tuple ds) := by
  cases n with
  | zero => cases h
  | succ m =>
    refine ⟨m, rfl, ?_⟩
    unfold rdD at h
    cases e : H a with
    | none => rw [e] at h; cases h
    | some o =>
      rw [e] at h
      cases o <;> first | (cases h; done) | skip
      . rename_i xs
        simp only at h
        cases e2 : xs.mapM (rdD m H) with
        | none => rw [e2] at h; cases h
        | some ds => rw [e2] at h; cases h; exact .inl ⟨xs, ds, rfl, e2, rfl⟩
      . rename_i xs
        simp only at h
        cases e2 : xs.mapM (rdD m H) with
        | none => rw [e2] at h; cases h
        | some ds => rw [e2] at h; cases h; exact .inr ⟨xs, ds, rfl, e2, rfl⟩
theorem A2 {n : Nat} {x : V} {d : PyData} (h : rdD n H x = some d) (hx : ∀ a, x ≠ .ref a) : a0n x = true /\ d = flatD x := by
  cases x with
  | ref a => exact absurd rfl (hx a)
  | _ => cases n <;> first | (cases h; exact ⟨rfl, rfl⟩) | cases h
end
section
variable {X : Cx} {pins : List (Addr × Obj)} {σ : St} {H : Hp} {s : Shared}
theorem D9 {α : Type} {xs : List α} {i : Nat} {x d : α} (h : xs[i]? = some x) : xs.getD i d = x := by
  simp [List.getD, h]
theorem w4 (x : V) : (∃ a, x = .ref a) \/ ∀ a, x ≠ .ref a := by
  cases x <;> first | exact .inl ⟨_, rfl⟩ | exact .inr λ a h => by cases h
theorem a2E (I : Inv X pins σ H s) : ∀ (n : Nat) (A : Around) (x y : V) (u v : Value) (d e : PyData), rdD n H x = some d -> rdD n H y = some e -> RelV x u -> RelV y v -> A.units + n < cLine -> SeqAt.EqAt A s u v (PyData.eqv d e) := by
  intro n
  induction n with
  | zero =>
    intro A x y u v d e hx hy rx ry hu
    rcases w4 x with ⟨a, rfl⟩ | nx
    . cases hx
    rcases w4 y with ⟨a, rfl⟩ | ny
    . cases hy
    obtain ⟨fx, rfl⟩ := A2 hx nx
    obtain ⟨fy, rfl⟩ := A2 hy ny
    have := eqAt_V (A := A) (s := s) rx ry fx fy
    cases x <;> cases y <;> first | (cases fx; done) | (cases fy; done) | exact this
  | succ n ih =>
    intro A x y u v d e hx hy rx ry hu
    have hu' : A.units < cLine := by omega
    rcases w4 x with ⟨a, rfl⟩ | nx
    . obtain ⟨m, em, hx'⟩ := K2 hx
      cases em
      cases rx
      rcases w4 y with ⟨b, rfl⟩ | ny
      . obtain ⟨m', em', hy'⟩ := K2 hy
        cases em'
        cases ry
        by_cases hab : a = b
        . subst hab
          rw [hx] at hy
          cases hy
          rw [a0s _ _ _ hx]
          exact SeqAt.EqAt.same _
        . rcases hx' with ⟨xs, ds, ha, hd, rfl⟩ | ⟨xs, ds, ha, hd, rfl⟩
          . obtain ⟨its, r1, l1⟩ := z6 I ha
            obtain ⟨q1, q2⟩ := m4 hd
            rcases hy' with ⟨ys, es, hb, he, rfl⟩ | ⟨ys, es, hb, he, rfl⟩
            . obtain ⟨jts, r2, l2⟩ := z6 I hb
              obtain ⟨p1, p2⟩ := m4 he
              have e1 := r1.length
              have e2 := r2.length
              show SeqAt.EqAt A s _ _ (PyData.eqvAll ds es)
              by_cases hl : its.length = jts.length
              . have ez : PyData.eqvAll ds es = (List.range its.toArray.size).all λ j => PyData.eqv (ds.getD j .none) (es.getD j .none) := by
                  rw [F7 (by omega)]
                  congr 2
                  simp
                  omega
                rw [ez]
                refine SeqAt.EqAt.of_refs hab (SeqAt.RcAt.lists l1 l2 (by simpa using hl) hu' λ j j1 j2 => ?_)
                have j1' : j < xs.length := by simpa [e1] using j1
                have j2' : j < ys.length := by simpa [e2] using j2
                obtain ⟨y1, g1, k1⟩ := q2 j xs[j] (by simp [j1'])
                obtain ⟨y2, g2, k2⟩ := p2 j ys[j] (by simp [j2'])
                obtain ⟨u1, w1, z1⟩ := r1.get (i := j) (x := xs[j]) (by simp [j1'])
                obtain ⟨u2, w2, z2⟩ := r2.get (i := j) (x := ys[j]) (by simp [j2'])
                rw [D9 g1, D9 g2]
                have o1 : its.toArray[j] = u1 := by
                  obtain ⟨_, o⟩ := List.getElem?_eq_some_iff.mp w1
                  simpa using o
                have o2 : jts.toArray[j] = u2 := by
                  obtain ⟨_, o⟩ := List.getElem?_eq_some_iff.mp w2
                  simpa using o
                rw [o1, o2]
                exact ih A.in1 _ _ _ _ _ _ k1 k2 z1 z2 (by rw [v8]; omega)
              . rw [F8 (by omega)]
                exact SeqAt.EqAt.of_refs hab (SeqAt.RcAt.lists_lengths l1 l2 (by simpa using hl) hu')
            . obtain ⟨jts, r2, l2⟩ := F1 I hb
              exact SeqAt.EqAt.list_tuple l1 l2 hu'
          . obtain ⟨its, r1, l1⟩ := F1 I ha
            obtain ⟨q1, q2⟩ := m4 hd
            rcases hy' with ⟨ys, es, hb, he, rfl⟩ | ⟨ys, es, hb, he, rfl⟩
            . obtain ⟨jts, r2, l2⟩ := z6 I hb
              exact SeqAt.EqAt.tuple_list l1 l2 hu'
            . obtain ⟨jts, r2, l2⟩ := F1 I hb
              obtain ⟨p1, p2⟩ := m4 he
              have e1 := r1.length
              have e2 := r2.length
              show SeqAt.EqAt A s _ _ (PyData.eqvAll ds es)
              have ez : PyData.eqvAll ds es = ((List.range (min its.toArray.size jts.toArray.size)).all (λ j => PyData.eqv (ds.getD j .none) (es.getD j .none)) && its.toArray.size == jts.toArray.size) := by
                by_cases hl : its.length = jts.length
                . rw [F7 (by omega)]
                  have : (its.toArray.size == jts.toArray.size) = true := by simpa using hl
                  rw [this, Bool.and_true]
                  congr 2
                  simp
                  omega
                . rw [F8 (by omega)]
                  have : (its.toArray.size == jts.toArray.size) = false := by simpa using hl
                  rw [this, Bool.and_false]
              rw [ez]
              refine SeqAt.EqAt.of_refs hab (SeqAt.RcAt.tuples l1 l2 hu' λ j j1 j2 => ?_)
              have j1' : j < xs.length := by simpa [e1] using j1
              have j2' : j < ys.length := by simpa [e2] using j2
              obtain ⟨y1, g1, k1⟩ := q2 j xs[j] (by simp [j1'])
              obtain ⟨y2, g2, k2⟩ := p2 j ys[j] (by simp [j2'])
              obtain ⟨u1, w1, z1⟩ := r1.get (i := j) (x := xs[j]) (by simp [j1'])
              obtain ⟨u2, w2, z2⟩ := r2.get (i := j) (x := ys[j]) (by simp [j2'])
              rw [D9 g1, D9 g2]
              have o1 : its.toArray[j] = u1 := by
                obtain ⟨_, o⟩ := List.getElem?_eq_some_iff.mp w1
                simpa using o
              have o2 : jts.toArray[j] = u2 := by
                obtain ⟨_, o⟩ := List.getElem?_eq_some_iff.mp w2
                simpa using o
              rw [o1, o2]
              exact ih A.in1 _ _ _ _ _ _ k1 k2 z1 z2 (by rw [v8]; omega)
      . obtain ⟨fy, rfl⟩ := A2 hy ny
        have hs : (∃ its, s.heap.IsList a its) \/ ∃ its, s.heap.IsTuple a its := by
          rcases hx' with ⟨xs, ds, ha, _, _⟩ | ⟨xs, ds, ha, _, _⟩
          . obtain ⟨its, _, l⟩ := z6 I ha; exact .inl ⟨_, l⟩
          . obtain ⟨its, _, l⟩ := F1 I ha; exact .inr ⟨_, l⟩
        have z := (eqAt_fs ry fy hu' hs).2
        rcases hx' with ⟨xs, ds, ha, hd, rfl⟩ | ⟨xs, ds, ha, hd, rfl⟩ <;> (cases y <;> first | (cases fy; done) | exact z)
    . obtain ⟨fx, rfl⟩ := A2 hx nx
      rcases w4 y with ⟨b, rfl⟩ | ny
      . obtain ⟨m', em', hy'⟩ := K2 hy
        cases em'
        cases ry
        have hs : (∃ its, s.heap.IsList b its) \/ ∃ its, s.heap.IsTuple b its := by
          rcases hy' with ⟨xs, ds, ha, _, _⟩ | ⟨xs, ds, ha, _, _⟩
          . obtain ⟨its, _, l⟩ := z6 I ha; exact .inl ⟨_, l⟩
          . obtain ⟨its, _, l⟩ := F1 I ha; exact .inr ⟨_, l⟩
        have z := (eqAt_fs rx fx hu' hs).1
        rcases hy' with ⟨xs, ds, ha, hd, rfl⟩ | ⟨xs, ds, ha, hd, rfl⟩ <;> (cases x <;> first | (cases fx; done) | exact z)
      . obtain ⟨fy, rfl⟩ := A2 hy ny
        have := eqAt_V (A := A) (s := s) rx ry fx fy
        cases x <;> cases y <;> first | (cases fx; done) | (cases fy; done) | exact this
theorem rc_flat {A : Around} {x y : V} {u v : Value} (rx : RelV x u) (ry : RelV y v) (fx : a0n x = true) (fy : a0n y = true) : SeqAt.RcAt A s u v (eqV x y) /\ SeqAt.RcNeAt A s u v (!eqV x y) := by
  cases x with
  | non =>
    cases rx
    cases y with
    | non =>
      cases ry
      exact ⟨SeqAt.RcAt.none_none, SeqAt.RcNeAt.none_none⟩
    | bl c =>
      cases ry
      exact ⟨SeqAt.RcAt.none_bool _, SeqAt.RcNeAt.none_bool _⟩
    | int c =>
      obtain ⟨t2, rfl⟩ := ry
      exact ⟨SeqAt.RcAt.none_int _ _, SeqAt.RcNeAt.none_int _ _⟩
    | str c =>
      obtain ⟨t2, rfl⟩ := ry
      exact ⟨SeqAt.RcAt.none_str _ _, SeqAt.RcNeAt.none_str _ _⟩
    | _ => cases fy
  | bl a =>
    cases rx
    cases y with
    | non =>
      cases ry
      exact ⟨SeqAt.RcAt.bool_none _, SeqAt.RcNeAt.bool_none _⟩
    | bl c =>
      cases ry
      exact ⟨SeqAt.RcAt.bool_bool _ _, SeqAt.RcNeAt.bool_bool _ _⟩
    | int c =>
      obtain ⟨t2, rfl⟩ := ry
      exact ⟨SeqAt.RcAt.bool_int _ _ _, SeqAt.RcNeAt.bool_int _ _ _⟩
    | str c =>
      obtain ⟨t2, rfl⟩ := ry
      exact ⟨SeqAt.RcAt.bool_str _ _ _, SeqAt.RcNeAt.bool_str _ _ _⟩
    | _ => cases fy
  | int a =>
    obtain ⟨t1, rfl⟩ := rx
    cases y with
    | non =>
      cases ry
      exact ⟨SeqAt.RcAt.int_none _ _, SeqAt.RcNeAt.int_none _ _⟩
    | bl c =>
      cases ry
      exact ⟨SeqAt.RcAt.int_bool _ _ _, SeqAt.RcNeAt.int_bool _ _ _⟩
    | int c =>
      obtain ⟨t2, rfl⟩ := ry
      exact ⟨SeqAt.RcAt.int_int _ _ _ _, SeqAt.RcNeAt.int_int _ _ _ _⟩
    | str c =>
      obtain ⟨t2, rfl⟩ := ry
      exact ⟨SeqAt.RcAt.int_str _ _ _ _, SeqAt.RcNeAt.int_str _ _ _ _⟩
    | _ => cases fy
  | str a =>
    obtain ⟨t1, rfl⟩ := rx
    cases y with
    | non =>
      cases ry
      exact ⟨SeqAt.RcAt.str_none _ _, SeqAt.RcNeAt.str_none _ _⟩
    | bl c =>
      cases ry
      exact ⟨SeqAt.RcAt.str_bool _ _ _, SeqAt.RcNeAt.str_bool _ _ _⟩
    | int c =>
      obtain ⟨t2, rfl⟩ := ry
      exact ⟨SeqAt.RcAt.str_int _ _ _ _, SeqAt.RcNeAt.str_int _ _ _ _⟩
    | str c =>
      obtain ⟨t2, rfl⟩ := ry
      exact ⟨SeqAt.RcAt.str_str _ _ _ _, SeqAt.RcNeAt.str_str _ _ _ _⟩
    | _ => cases fy
  | _ => cases fx
theorem rc_fs {A : Around} {x : V} {u : Value} {a : Addr} (rx : RelV x u) (fx : a0n x = true) (hu : A.units < cLine) (h : (∃ its, s.heap.IsList a its) \/ ∃ its, s.heap.IsTuple a its) :
    (SeqAt.RcAt A s u (.ref a) false /\ SeqAt.RcNeAt A s u (.ref a) true) /\ SeqAt.RcAt A s (.ref a) u false /\ SeqAt.RcNeAt A s (.ref a) u true := by
  cases x with
  | non =>
    cases rx
    rcases h with ⟨its, h⟩ | ⟨its, h⟩
    . exact ⟨⟨SeqAt.RcAt.none_list h hu, SeqAt.RcNeAt.none_list h hu⟩, SeqAt.RcAt.list_none h hu, SeqAt.RcNeAt.list_none h hu⟩
    . exact ⟨⟨SeqAt.RcAt.none_tuple h hu, SeqAt.RcNeAt.none_tuple h hu⟩, SeqAt.RcAt.tuple_none h hu, SeqAt.RcNeAt.tuple_none h hu⟩
  | bl a =>
    cases rx
    rcases h with ⟨its, h⟩ | ⟨its, h⟩
    . exact ⟨⟨SeqAt.RcAt.bool_list _ h hu, SeqAt.RcNeAt.bool_list _ h hu⟩, SeqAt.RcAt.list_bool _ h hu, SeqAt.RcNeAt.list_bool _ h hu⟩
    . exact ⟨⟨SeqAt.RcAt.bool_tuple _ h hu, SeqAt.RcNeAt.bool_tuple _ h hu⟩, SeqAt.RcAt.tuple_bool _ h hu, SeqAt.RcNeAt.tuple_bool _ h hu⟩
  | int a =>
    obtain ⟨t1, rfl⟩ := rx
    rcases h with ⟨its, h⟩ | ⟨its, h⟩
    . exact ⟨⟨SeqAt.RcAt.int_list _ _ h hu, SeqAt.RcNeAt.int_list _ _ h hu⟩, SeqAt.RcAt.list_int _ _ h hu, SeqAt.RcNeAt.list_int _ _ h hu⟩
    . exact ⟨⟨SeqAt.RcAt.int_tuple _ _ h hu, SeqAt.RcNeAt.int_tuple _ _ h hu⟩, SeqAt.RcAt.tuple_int _ _ h hu, SeqAt.RcNeAt.tuple_int _ _ h hu⟩
  | str a =>
    obtain ⟨t1, rfl⟩ := rx
    rcases h with ⟨its, h⟩ | ⟨its, h⟩
    . exact ⟨⟨SeqAt.RcAt.str_list _ _ h hu, SeqAt.RcNeAt.str_list _ _ h hu⟩, SeqAt.RcAt.list_str _ _ h hu, SeqAt.RcNeAt.list_str _ _ h hu⟩
    . exact ⟨⟨SeqAt.RcAt.str_tuple _ _ h hu, SeqAt.RcNeAt.str_tuple _ _ h hu⟩, SeqAt.RcAt.tuple_str _ _ h hu, SeqAt.RcNeAt.tuple_str _ _ h hu⟩
  | _ => cases fx
theorem rcAt_D (I : Inv X pins σ H s) {n : Nat} {A : Around} {x y : V} {u v : Value} {d e : PyData} (hx : rdD n H x = some d) (hy : rdD n H y = some e) (rx : RelV x u) (ry : RelV y v) (hu : A.units + n < cLine) :
    SeqAt.RcAt A s u v (PyData.eqv d e) /\ SeqAt.RcNeAt A s u v (!PyData.eqv d e) := by
  have hu' : A.units < cLine := by omega
  have seq : ∀ {a : Addr} {d : PyData}, rdD n H (.ref a) = some d -> (∃ its, s.heap.IsList a its) \/ ∃ its, s.heap.IsTuple a its := λ {a d} h => by
    obtain ⟨m, em, h'⟩ := K2 h
    rcases h' with ⟨xs, ds, ha, _, _⟩ | ⟨xs, ds, ha, _, _⟩
    . obtain ⟨its, _, l⟩ := z6 I ha; exact .inl ⟨_, l⟩
    . obtain ⟨its, _, l⟩ := F1 I ha; exact .inr ⟨_, l⟩
  have sd : ∀ {a : Addr} {d : PyData}, rdD n H (.ref a) = some d -> (∃ ds, d = .list ds) \/ ∃ ds, d = .tuple ds := λ {a d} h => by
    obtain ⟨m, em, h'⟩ := K2 h
    rcases h' with ⟨xs, ds, _, _, e⟩ | ⟨xs, ds, _, _, e⟩
    . exact .inl ⟨ds, e⟩
    . exact .inr ⟨ds, e⟩
  rcases w4 x with ⟨a, rfl⟩ | nx
  . rcases w4 y with ⟨b, rfl⟩ | ny
    . cases rx
      cases ry
      obtain ⟨m, em, hx'⟩ := K2 hx
      obtain ⟨m', em', hy'⟩ := K2 hy
      subst em
      cases em'
      rcases hx' with ⟨xs, ds, ha, hd, rfl⟩ | ⟨xs, ds, ha, hd, rfl⟩
      . obtain ⟨its, r1, l1⟩ := z6 I ha
        obtain ⟨q1, q2⟩ := m4 hd
        rcases hy' with ⟨ys, es, hb, he, rfl⟩ | ⟨ys, es, hb, he, rfl⟩
        . obtain ⟨jts, r2, l2⟩ := z6 I hb
          obtain ⟨p1, p2⟩ := m4 he
          have e1 := r1.length
          have e2 := r2.length
          show SeqAt.RcAt A s _ _ (PyData.eqvAll ds es) /\ SeqAt.RcNeAt A s _ _ (!PyData.eqvAll ds es)
          by_cases hl : its.length = jts.length
          . have ez : PyData.eqvAll ds es = (List.range its.toArray.size).all λ j => PyData.eqv (ds.getD j .none) (es.getD j .none) := by
              rw [F7 (by omega)]
              congr 2
              simp
              omega
            rw [ez]
            have each : ∀ j (j1 : j < its.toArray.size) (j2 : j < jts.toArray.size), SeqAt.EqAt A.in1 s its.toArray[j] jts.toArray[j] (PyData.eqv (ds.getD j .none) (es.getD j .none)) := λ j j1 j2 => by
              have j1' : j < xs.length := by simpa [e1] using j1
              have j2' : j < ys.length := by simpa [e2] using j2
              obtain ⟨y1, g1, k1⟩ := q2 j xs[j] (by simp [j1'])
              obtain ⟨y2, g2, k2⟩ := p2 j ys[j] (by simp [j2'])
              obtain ⟨u1, w1, z1⟩ := r1.get (i := j) (x := xs[j]) (by simp [j1'])
              obtain ⟨u2, w2, z2⟩ := r2.get (i := j) (x := ys[j]) (by simp [j2'])
              rw [D9 g1, D9 g2]
              have o1 : its.toArray[j] = u1 := by
                obtain ⟨_, o⟩ := List.getElem?_eq_some_iff.mp w1
                simpa using o
              have o2 : jts.toArray[j] = u2 := by
                obtain ⟨_, o⟩ := List.getElem?_eq_some_iff.mp w2
                simpa using o
              rw [o1, o2]
              exact a2E I m A.in1 _ _ _ _ _ _ k1 k2 z1 z2 (by rw [v8]; omega)
            exact ⟨SeqAt.RcAt.lists l1 l2 (by simpa using hl) hu' each, SeqAt.RcNeAt.lists l1 l2 (by simpa using hl) hu' each⟩
          . rw [F8 (by omega)]
            exact ⟨SeqAt.RcAt.lists_lengths l1 l2 (by simpa using hl) hu', SeqAt.RcNeAt.lists_lengths l1 l2 (by simpa using hl) hu'⟩
        . obtain ⟨jts, r2, l2⟩ := F1 I hb
          exact ⟨SeqAt.RcAt.list_tuple l1 l2 hu', SeqAt.RcNeAt.list_tuple l1 l2 hu'⟩
      . obtain ⟨its, r1, l1⟩ := F1 I ha
        obtain ⟨q1, q2⟩ := m4 hd
        rcases hy' with ⟨ys, es, hb, he, rfl⟩ | ⟨ys, es, hb, he, rfl⟩
        . obtain ⟨jts, r2, l2⟩ := z6 I hb
          exact ⟨SeqAt.RcAt.tuple_list l1 l2 hu', SeqAt.RcNeAt.tuple_list l1 l2 hu'⟩
        . obtain ⟨jts, r2, l2⟩ := F1 I hb
          obtain ⟨p1, p2⟩ := m4 he
          have e1 := r1.length
          have e2 := r2.length
          show SeqAt.RcAt A s _ _ (PyData.eqvAll ds es) /\ SeqAt.RcNeAt A s _ _ (!PyData.eqvAll ds es)
          have ez : PyData.eqvAll ds es = ((List.range (min its.toArray.size jts.toArray.size)).all (λ j => PyData.eqv (ds.getD j .none) (es.getD j .none)) && its.toArray.size == jts.toArray.size) := by
            by_cases hl : its.length = jts.length
            . rw [F7 (by omega)]
              have : (its.toArray.size == jts.toArray.size) = true := by simpa using hl
              rw [this, Bool.and_true]
              congr 2
              simp
              omega
            . rw [F8 (by omega)]
              have : (its.toArray.size == jts.toArray.size) = false := by simpa using hl
              rw [this, Bool.and_false]
          rw [ez]
          have each : ∀ j (j1 : j < its.toArray.size) (j2 : j < jts.toArray.size), SeqAt.EqAt A.in1 s its.toArray[j] jts.toArray[j] (PyData.eqv (ds.getD j .none) (es.getD j .none)) := λ j j1 j2 => by
            have j1' : j < xs.length := by simpa [e1] using j1
            have j2' : j < ys.length := by simpa [e2] using j2
            obtain ⟨y1, g1, k1⟩ := q2 j xs[j] (by simp [j1'])
            obtain ⟨y2, g2, k2⟩ := p2 j ys[j] (by simp [j2'])
            obtain ⟨u1, w1, z1⟩ := r1.get (i := j) (x := xs[j]) (by simp [j1'])
            obtain ⟨u2, w2, z2⟩ := r2.get (i := j) (x := ys[j]) (by simp [j2'])
            rw [D9 g1, D9 g2]
            have o1 : its.toArray[j] = u1 := by
              obtain ⟨_, o⟩ := List.getElem?_eq_some_iff.mp w1
              simpa using o
            have o2 : jts.toArray[j] = u2 := by
              obtain ⟨_, o⟩ := List.getElem?_eq_some_iff.mp w2
              simpa using o
            rw [o1, o2]
            exact a2E I m A.in1 _ _ _ _ _ _ k1 k2 z1 z2 (by rw [v8]; omega)
          exact ⟨SeqAt.RcAt.tuples l1 l2 hu' each, SeqAt.RcNeAt.tuples l1 l2 hu' each⟩
    . obtain ⟨fy, rfl⟩ := A2 hy ny
      have z := (rc_fs (A := A) ry fy hu' (seq hx)).2
      cases rx
      rcases sd hx with ⟨ds, rfl⟩ | ⟨ds, rfl⟩ <;> (cases y <;> first | (cases fy; done) | exact z)
  . obtain ⟨fx, rfl⟩ := A2 hx nx
    rcases w4 y with ⟨b, rfl⟩ | ny
    . cases ry
      have z := (rc_fs rx fx hu' (seq hy)).1
      rcases sd hy with ⟨ds, rfl⟩ | ⟨ds, rfl⟩ <;> (cases x <;> first | (cases fx; done) | exact z)
    . obtain ⟨fy, rfl⟩ := A2 hy ny
      have := rc_flat (A := A) (s := s) rx ry fx fy
      cases x <;> cases y <;> first | (cases fx; done) | (cases fy; done) | exact this
def isRf : V -> Bool
  | .ref _ => true
  | _ => false
def eqD (x y : V) (H : Hp) (Q : VK) : Prop := match rdD 8 H x, rdD 8 H y with
  | some d, some e => Q (.bl (PyData.eqv d e)) H
  | _, _ => False
inductive EqT (H : Hp) : Nat -> V -> V -> Prop where
  | same (n : Nat) (a : Addr) : EqT H n (.ref a) (.ref a)
  | data {n : Nat} {x y : V} {d e : PyData} (hx : rdD n H x = some d) (hy : rdD n H y = some e) (h : PyData.eqv d e = true) : EqT H n x y
  | lst {n : Nat} {p q : Addr} {xs ys : List V} (hne : p ≠ q) (hp : H p = some (.lst xs)) (hq : H q = some (.lst ys)) (hl : xs.length = ys.length) (he : ∀ (i : Nat) x y, xs[i]? = some x -> ys[i]? = some y -> EqT H n x y) : EqT H (n + 1) (.ref p) (.ref q)
theorem list_T (I : Inv X pins σ H s) {A : Around} {p q : Addr} {xs ys : List V} (hp : H p = some (.lst xs)) (hq : H q = some (.lst ys)) (hl : xs.length = ys.length) (hu : A.units < cLine)
    (he : ∀ (i : Nat) x y u v, xs[i]? = some x -> ys[i]? = some y -> RelV x u -> RelV y v -> SeqAt.EqAt A.in1 s u v true) : SeqAt.RcAt A s (.ref p) (.ref q) true /\ SeqAt.RcNeAt A s (.ref p) (.ref q) false := by
  obtain ⟨its, r1, l1⟩ := z6 I hp
  obtain ⟨jts, r2, l2⟩ := z6 I hq
  have e1 := r1.length
  have e2 := r2.length
  have each : ∀ j (j1 : j < its.toArray.size) (j2 : j < jts.toArray.size), SeqAt.EqAt A.in1 s its.toArray[j] jts.toArray[j] ((λ _ : Nat => true) j) := λ j j1 j2 => by
    have j1' : j < xs.length := by simpa [e1] using j1
    have j2' : j < ys.length := by simpa [e2] using j2
    obtain ⟨u1, w1, z1⟩ := r1.get (i := j) (x := xs[j]) (by simp [j1'])
    obtain ⟨u2, w2, z2⟩ := r2.get (i := j) (x := ys[j]) (by simp [j2'])
    have o1 : its.toArray[j] = u1 := by
      obtain ⟨_, o⟩ := List.getElem?_eq_some_iff.mp w1
      simpa using o
    have o2 : jts.toArray[j] = u2 := by
      obtain ⟨_, o⟩ := List.getElem?_eq_some_iff.mp w2
      simpa using o
    rw [o1, o2]
    exact he j xs[j] ys[j] u1 u2 (by simp [j1']) (by simp [j2']) z1 z2
  have all : (List.range its.toArray.size).all (λ _ : Nat => true) = true := by simp
  have a := SeqAt.RcAt.lists l1 l2 (by simp; omega) hu each
  have b := SeqAt.RcNeAt.lists l1 l2 (by simp; omega) hu each
  rw [all] at a b
  exact ⟨a, b⟩
theorem eqT_at (I : Inv X pins σ H s) : ∀ {n : Nat} {x y : V}, EqT H n x y -> ∀ {A : Around} {u v : Value}, RelV x u -> RelV y v -> A.units + n < cLine -> SeqAt.EqAt A s u v true := λ {n x y} h => by
  induction h with
  | same n a =>
    intro A u v ru rv hu
    cases ru
    cases rv
    exact SeqAt.EqAt.same _
  | data hx hy h =>
    intro A u v ru rv hu
    have := a2E I _ A _ _ _ _ _ _ hx hy ru rv hu
    rw [h] at this
    exact this
  | lst hne hp hq hl he ih =>
    intro A u v ru rv hu
    cases ru
    cases rv
    exact SeqAt.EqAt.of_refs hne (list_T I hp hq hl (by omega) λ i x y u v h1 h2 r1 r2 => ih i x y h1 h2 r1 r2 (by rw [v8]; omega)).1
def eqL (x y : V) (H : Hp) (Q : VK) : Prop := ∃ (p q : Addr) (xs ys : List V), x = .ref p /\ y = .ref q /\ H p = some (.lst xs) /\ H q = some (.lst ys) /\ xs.length = ys.length /\ (∀ (i : Nat) x y, xs[i]? = some x -> ys[i]? = some y -> EqT H 8 x y) /\ Q (.bl true) H
@[irreducible] def eqH (x y : V) (H : Hp) (Q : VK) : Prop := eqD x y H Q \/ eqL x y H Q
def eqG : R2 := λ x y H Q => match isRf x || isRf y with
  | true => eqH x y H Q
  | false => eqD x y H Q
theorem eqG_D {x y : V} {H : Hp} {Q : VK} (h : eqG x y H Q) : eqD x y H Q \/ eqL x y H Q := by
  unfold eqG at h
  split at h
  . unfold eqH at h
    exact h
  . exact .inl h
def neG : R2 := λ x y H Q => eqG x y H λ v H1 => match v with
  | .bl b => Q (.bl (!b)) H1
  | _ => False
theorem op_eqG {k : Nat} (hr : Room k X.A) : OpR X (compareOp .Eq) eqG := λ pins s σ H x y v u Q I rx ry h => by
  rcases eqG_D h with h | ⟨p, q, xs, ys, rfl, rfl, hp, hq, hl, he, h⟩
  . unfold eqD at h
    split at h
    . rename_i d e h1 h2
      exact (rcAt_D I h1 h2 rx ry (by have := hr.un; omega)).1 X.prog X.w X.xe _ ⟨.bl _, H, I, rfl, h⟩
    . exact h.elim
  . cases rx
    cases ry
    exact (list_T I hp hq hl (by have := hr.un; omega) λ i x y u v h1 h2 r1 r2 => eqT_at I (he i x y h1 h2) r1 r2 (by rw [v8]; have := hr.un; omega)).1 X.prog X.w X.xe _ ⟨.bl _, H, I, rfl, h⟩
theorem op_neG {k : Nat} (hr : Room k X.A) : OpR X (compareOp .NotEq) neG := λ pins s σ H x y v u Q I rx ry h => by
  rcases eqG_D h with h | ⟨p, q, xs, ys, rfl, rfl, hp, hq, hl, he, h⟩
  . unfold eqD at h
    split at h
    . rename_i d e h1 h2
      exact (rcAt_D I h1 h2 rx ry (by have := hr.un; omega)).2 X.prog X.w X.xe _ ⟨.bl _, H, I, rfl, h⟩
    . exact h.elim
  . cases rx
    cases ry
    exact (list_T I hp hq hl (by have := hr.un; omega) λ i x y u v h1 h2 r1 r2 => eqT_at I (he i x y h1 h2) r1 r2 (by rw [v8]; have := hr.un; omega)).2 X.prog X.w X.xe _ ⟨.bl _, H, I, rfl, h⟩
end
def N5 : V -> Option Key
  | .int i => some (.inl i)
  | .str x => some (.inr x)
  | _ => none
theorem T3 {x : V} {k : Key} (h : N5 x = some k) : x = kV k := by
  cases x <;> first | (cases h; rfl) | cases h
def K3 (xs : List V) : Option (List Key) := xs.mapM N5
theorem O9 : ∀ {xs : List V} {ks : List Key}, K3 xs = some ks -> xs = ks.map kV
  | [], ks, h => by
    unfold K3 at h
    simp at h
    subst h
    rfl
  | x :: xs, ks, h => by
    unfold K3 at h
    rw [mapM_cons] at h
    cases e : N5 x with
    | none => rw [e] at h; cases h
    | some y =>
      cases e2 : xs.mapM N5 with
      | none => rw [e, e2] at h; cases h
      | some r =>
        rw [e, e2] at h
        cases h
        rw [List.map_cons, <- T3 e, <- O9 e2]
def X6 (H : Hp) (a : Addr) (y : V) : Option (Option V) := match H a with
  | some (.dK kvs) => (N5 y).map (A6 kvs)
  | some (.frz _ (.dK kvs)) => (N5 y).map (A6 kvs)
  | some (.dT kvs) => match y with
    | .ref b => match H b with
      | some (.tup xs) => (K3 xs).map (A6 kvs)
      | _ => none
    | _ => none
  | some (.frz _ (.dT kvs)) => match y with
    | .ref b => match H b with
      | some (.tup xs) => (K3 xs).map (A6 kvs)
      | _ => none
    | _ => none
  | _ => none
theorem U9 {H : Hp} {a : Addr} {y : V} {r : Option V} (h : X6 H a y = some r) : DGet H a y r := by
  unfold X6 at h
  split at h
  . rename_i kvs e
    cases e2 : N5 y with
    | none => rw [e2] at h; cases h
    | some k => rw [e2] at h; cases h; rw [T3 e2]; exact DGet.k e
  . rename_i ob kvs e
    cases e2 : N5 y with
    | none => rw [e2] at h; cases h
    | some k => rw [e2] at h; cases h; rw [T3 e2]; exact .inl ⟨_, _, .inr ⟨_, e⟩, rfl, rfl⟩
  . rename_i kvs e
    split at h
    . split at h
      . rename_i xs e3
        cases e2 : K3 xs with
        | none => rw [e2] at h; cases h
        | some k => rw [e2] at h; cases h; rw [O9 e2] at e3; exact DGet.t e e3
      . cases h
    . cases h
  . rename_i ob kvs e
    split at h
    . split at h
      . rename_i xs e3
        cases e2 : K3 xs with
        | none => rw [e2] at h; cases h
        | some k => rw [e2] at h; cases h; rw [O9 e2] at e3; exact .inr ⟨_, _, _, .inr ⟨_, e⟩, rfl, e3, rfl⟩
      . cases h
    . cases h
  . cases h
section
variable {X : Cx} {pins : List (Addr × Obj)} {σ : St} {H : Hp} {s : Shared}
@[irreducible] def j9 : R2 := λ x y H Q => match x with
  | .str z => match y with
    | .int i => match atI z.cps.toList i with
      | some c => z.length <= sizeLine /\ Q (.str ⟨#[c]⟩) H
      | none => False
    | _ => False
  | .ref p => match H p with
    | some (.lst xs) => match y with
      | .int i => match atI xs i with
        | some v => Q v H
        | none => False
      | _ => False
    | some (.tup xs) => match y with
      | .int i => match atI xs i with
        | some v => Q v H
        | none => False
      | _ => False
    | _ => match X6 H p y with
      | some (some v) => Q v H
      | _ => False
  | _ => False
theorem ix_dict (hu : X.A.units + 1 < cLine) : IxR X (λ x y H Q => ∃ a v, x = .ref a /\ DGet H a y (some v) /\ Q v H) := by
  intro value slice pins s σ H x y v u Q I rx ry h hs
  obtain ⟨a, z, rfl, g, q⟩ := h
  cases rx
  exact tail_any (a3r I g) PySem.F.slot_dict_getitem.lookup (d_getItem hu I g ry λ w' s3 I3 rw' => ⟨z, H, I3, rw', q⟩) hs
theorem ix_getG (hu : X.A.units + 1 < cLine) : IxR X j9 := IxR.imp (IxR.or ix_list (IxR.or ix_tup (IxR.or ix_str (ix_dict hu)))) λ x y H Q h => by
  unfold j9 at h
  split at h
  . split at h
    . split at h
      . exact .inr (.inr (.inl ⟨_, _, _, rfl, rfl, h.1, by assumption, h.2⟩))
      . exact h.elim
    . exact h.elim
  . split at h
    . split at h
      . split at h
        . exact .inl ⟨_, _, _, _, rfl, rfl, .inl (.inl (by assumption)), by assumption, h⟩
        . exact h.elim
      . exact h.elim
    . split at h
      . split at h
        . exact .inr (.inl ⟨_, _, _, _, rfl, rfl, .inl (.inl (by assumption)), by assumption, h⟩)
        . exact h.elim
      . exact h.elim
    . split at h
      . exact .inr (.inr (.inr ⟨_, _, rfl, U9 (by assumption), h⟩))
      . exact h.elim
  . exact h.elim
def rdAll (H : Hp) (xs : List V) : Option (List PyData) := xs.mapM (rdD 7 H)
@[irreducible] def inG (neg : Bool) : R2 := λ x y H Q => match y with
  | .ref p => match H p with
    | some (.lst ys) => match rdAll H ys, rdD 7 H x with
      | some es, some d => Q (.bl (neg ^^ es.any λ e => PyData.eqv e d)) H
      | _, _ => False
    | some (.tup ys) => match rdAll H ys, rdD 7 H x with
      | some es, some d => Q (.bl (neg ^^ es.any λ e => PyData.eqv e d)) H
      | _, _ => False
    | _ => match X6 H p x with
      | some o => Q (.bl (neg ^^ o.isSome)) H
      | _ => False
  | .str j => match x with
    | .str i => Q (.bl (neg ^^ !(Builtin.Str.occurrences j i 0 j.length 1).isEmpty)) H
    | _ => False
  | _ => False
theorem V0 {n : Nat} {d : PyData} {f : Value -> Bool} : ∀ {ys : List V} {us : List Value} {es : List PyData}, Vals ys us -> ys.mapM (rdD n H) = some es -> (∀ y u e, RelV y u -> rdD n H y = some e -> f u = PyData.eqv e d) -> us.any f = es.any λ e => PyData.eqv e d
  | _, _, _, .nil, h, _ => by
    simp at h
    subst h
    rfl
  | y :: ys, u :: us, es, .cons r t, h, hf => by
    rw [mapM_cons] at h
    cases e : rdD n H y with
    | none => rw [e] at h; cases h
    | some z =>
      cases e2 : ys.mapM (rdD n H) with
      | none => rw [e, e2] at h; cases h
      | some r2 =>
        rw [e, e2] at h
        cases h
        rw [List.any_cons, List.any_cons, hf y u z r e, V0 t e2 hf]
def F9 (n : Nat) (H : Hp) (d : PyData) (u : Value) : Bool := match absV u with
  | some y => match rdD n H y with
    | some e => PyData.eqv e d
    | none => false
  | none => false
theorem a0t {n : Nat} {d e : PyData} {y : V} {u : Value} (r : RelV y u) (h : rdD n H y = some e) : F9 n H d u = PyData.eqv e d := by
  unfold F9
  rw [r.abs]
  simp only [h]
theorem H0 {n : Nat} {d : PyData} {x : V} {v : Value} {A : Around} (I : Inv X pins σ H s) (hu : A.units + n < cLine) (hx : rdD n H x = some d) (rx : RelV x v) : ∀ {ys : List V} {us : List Value} {es : List PyData}, Vals ys us -> ys.mapM (rdD n H) = some es -> ∀ u ∈ us, SeqAt.EqAt A s u v (F9 n H d u)
  | _, _, _, .nil, _, u, h => by cases h
  | y :: ys, u :: us, es, .cons r t, h, w, hw => by
    rw [mapM_cons] at h
    cases e : rdD n H y with
    | none => rw [e] at h; cases h
    | some z =>
      cases e2 : ys.mapM (rdD n H) with
      | none => rw [e, e2] at h; cases h
      | some r2 =>
        rcases List.mem_cons.mp hw with rfl | hw
        . rw [a0t r e]
          exact a2E I n A y x _ _ _ _ e hx r rx hu
        . exact H0 I hu hx rx t e2 w hw
theorem in_D {k : Nat} (hr : Room k X.A) {p : Addr} {ys : List V} {es : List PyData} {d : PyData} {x : V} {v : Value} {Q : VK} (I : Inv X pins σ H s) (hp : H p = some (.lst ys) \/ H p = some (.tup ys)) (he : rdAll H ys = some es) (hx : rdD 7 H x = some d) (rx : RelV x v) :
    (Q (.bl (es.any λ e => PyData.eqv e d)) H -> wpAny (model X.prog X.w) X.A (compareOp .In v (.ref p)) (EP X pins σ Q) X.xe s) ∧
    (Q (.bl (!es.any λ e => PyData.eqv e d)) H -> wpAny (model X.prog X.w) X.A (compareOp .NotIn v (.ref p)) (EP X pins σ Q) X.xe s) := by
  have hu : X.A.in1.units + 7 < cLine := by
    have := hr.un
    rw [v8]
    omega
  rcases hp with hp | hp
  . obtain ⟨its, r, l⟩ := z6 I hp
    have ea : its.toArray.any (F9 7 H d) = es.any λ e => PyData.eqv e d := by
      rw [show its.toArray.any (F9 7 H d) = its.any (F9 7 H d) by simp]
      exact V0 r he λ y u e ru hy => a0t ru hy
    refine ⟨λ q => SeqAt.in_listAt (F9 7 H d) l (λ w hw => H0 I hu hx rx r he w (by simpa using hw)) ⟨.bl _, H, I, rfl, ?_⟩, λ q => SeqAt.notIn_listAt (F9 7 H d) l (λ w hw => H0 I hu hx rx r he w (by simpa using hw)) ⟨.bl _, H, I, rfl, ?_⟩⟩ <;> (rw [ea]; exact q)
  . obtain ⟨its, r, l⟩ := F1 I hp
    have ea : its.toArray.any (F9 7 H d) = es.any λ e => PyData.eqv e d := by
      rw [show its.toArray.any (F9 7 H d) = its.any (F9 7 H d) by simp]
      exact V0 r he λ y u e ru hy => a0t ru hy
    refine ⟨λ q => SeqAt.in_tupleAt (F9 7 H d) l (λ w hw => H0 I hu hx rx r he w (by simpa using hw)) ⟨.bl _, H, I, rfl, ?_⟩, λ q => SeqAt.notIn_tupleAt (F9 7 H d) l (λ w hw => H0 I hu hx rx r he w (by simpa using hw)) ⟨.bl _, H, I, rfl, ?_⟩⟩ <;> (rw [ea]; exact q)
theorem op_inG {k : Nat} (hr : Room k X.A) : OpR X (compareOp .In) (inG false) := λ pins s σ H x y v u Q I rx ry h => by
  unfold inG at h
  simp only [Bool.false_bne] at h
  split at h
  . cases ry
    split at h
    . split at h
      . exact (in_D hr I (.inl (by assumption)) (by assumption) (by assumption) rx).1 (by simpa using h)
      . exact h.elim
    . split at h
      . exact (in_D hr I (.inr (by assumption)) (by assumption) (by assumption) rx).1 (by simpa using h)
      . exact h.elim
    . split at h
      . exact d_in (hu_of hr) I (U9 (by assumption)) rx λ s' I' => ⟨.bl _, H, I', rfl, by simpa using h⟩
      . exact h.elim
  . split at h
    . exact op_in_str pins s σ H _ _ v u Q I rx ry ⟨_, _, rfl, rfl, by simpa using h⟩
    . exact h.elim
  . exact h.elim
theorem op_notInG {k : Nat} (hr : Room k X.A) : OpR X (compareOp .NotIn) (inG true) := λ pins s σ H x y v u Q I rx ry h => by
  unfold inG at h
  split at h
  . cases ry
    split at h
    . split at h
      . exact (in_D hr I (.inl (by assumption)) (by assumption) (by assumption) rx).2 (by simpa using h)
      . exact h.elim
    . split at h
      . exact (in_D hr I (.inr (by assumption)) (by assumption) (by assumption) rx).2 (by simpa using h)
      . exact h.elim
    . split at h
      . exact d_notIn (hu_of hr) I (U9 (by assumption)) rx λ s' I' => ⟨.bl _, H, I', rfl, by simpa using h⟩
      . exact h.elim
  . split at h
    . exact a2p pins s σ H _ _ v u Q I rx ry ⟨_, _, rfl, rfl, by simpa using h⟩
    . exact h.elim
  . exact h.elim
def ltG : R2 := λ x y H Q => match x, y with
  | .int i, .int j => Q (.bl (decide (i < j))) H
  | .str i, .str j => Q (.bl (decide (i.cps.toList < j.cps.toList))) H
  | _, _ => False
def leG : R2 := λ x y H Q => match x, y with
  | .int i, .int j => Q (.bl (decide (i <= j))) H
  | .str i, .str j => Q (.bl (!decide (j.cps.toList < i.cps.toList))) H
  | _, _ => False
def gtG : R2 := λ x y H Q => match x, y with
  | .int i, .int j => Q (.bl (decide (j < i))) H
  | _, _ => False
def geG : R2 := λ x y H Q => match x, y with
  | .int i, .int j => Q (.bl (decide (j <= i))) H
  | _, _ => False
theorem op_ltG : OpR X (compareOp .Lt) ltG := OpR.imp (OpR.or op_lt op_lt_str) λ x y H Q h => by
  unfold ltG at h
  split at h
  . exact .inl ⟨_, _, rfl, rfl, h⟩
  . exact .inr ⟨_, _, rfl, rfl, h⟩
  . exact h.elim
theorem op_leG : OpR X (compareOp .LtE) leG := OpR.imp (OpR.or op_le op_le_str) λ x y H Q h => by
  unfold leG at h
  split at h
  . exact .inl ⟨_, _, rfl, rfl, h⟩
  . exact .inr ⟨_, _, rfl, rfl, h⟩
  . exact h.elim
theorem op_gtG : OpR X (compareOp .Gt) gtG := OpR.imp op_gt λ x y H Q h => by
  unfold gtG at h
  split at h
  . exact ⟨_, _, rfl, rfl, h⟩
  . exact h.elim
theorem op_geG : OpR X (compareOp .GtE) geG := OpR.imp op_ge λ x y H Q h => by
  unfold geG at h
  split at h
  . exact ⟨_, _, rfl, rfl, h⟩
  . exact h.elim
def isG (neg : Bool) : R2 := λ x y H Q => match y with
  | .non => Q (.bl (neg ^^ decide (x = .non))) H
  | .bl b => Q (.bl (neg ^^ decide (x = .bl b))) H
  | _ => False
end
section
variable {X : Cx} {pins : List (Addr × Obj)} {σ : St} {H : Hp} {s : Shared}
theorem op_isG : OpR X (compareOp .Is) (isG false) := λ pins s σ H x y v u Q I rx ry h => by
  unfold isG at h
  split at h
  . exact op_isN pins s σ H x _ v u Q I rx ry ⟨rfl, by simpa using h⟩
  . rename_i b
    cases ry
    have e : (v == Value.bool b) = decide (x = .bl b) := by
      cases x <;> first
        | (cases rx; rfl)
        | (obtain ⟨t, rfl⟩ := rx; rfl)
        | (cases rx; rename_i c; cases b <;> cases c <;> rfl)
    refine wpAny_is_plain (by cases x <;> first | (cases rx; rfl) | (obtain ⟨t, rfl⟩ := rx; rfl)) ⟨.bl _, H, I, rfl, ?_⟩
    rw [e]
    simpa using h
  . exact h.elim
theorem op_isNotG : OpR X (compareOp .IsNot) (isG true) := λ pins s σ H x y v u Q I rx ry h => by
  unfold isG at h
  split at h
  . exact op_notN pins s σ H x _ v u Q I rx ry ⟨rfl, by simpa using h⟩
  . rename_i b
    cases ry
    have e : (v == Value.bool b) = decide (x = .bl b) := by
      cases x <;> first
        | (cases rx; rfl)
        | (obtain ⟨t, rfl⟩ := rx; rfl)
        | (cases rx; rename_i c; cases b <;> cases c <;> rfl)
    refine wpAny_isNot_plain (by cases x <;> first | (cases rx; rfl) | (obtain ⟨t, rfl⟩ := rx; rfl)) ⟨.bl _, H, I, rfl, ?_⟩
    rw [show (!(v == Value.bool b)) = !decide (x = .bl b) by rw [e]]
    simpa using h
  . exact h.elim
def cmpG : CmpOp -> R2
  | .Eq => eqG | .NotEq => neG | .Lt => ltG | .LtE => leG | .Gt => gtG | .GtE => geG | .In => inG false | .NotIn => inG true | .Is => isG false | .IsNot => isG true
theorem P0 {k : Nat} (hr : Room k X.A) : ∀ op, OpR X (compareOp op) (cmpG op)
  | .Eq => op_eqG hr | .NotEq => op_neG hr | .Lt => op_ltG | .LtE => op_leG | .Gt => op_gtG | .GtE => op_geG | .In => op_inG hr | .NotIn => op_notInG hr | .Is => op_isG | .IsNot => op_isNotG
@[irreducible] def truH (p : Addr) (H : Hp) (Q : Bool -> Hp -> Prop) : Prop := match H p with
  | some (.lst xs) => Q (!xs.isEmpty) H
  | some (.tup xs) => Q (!xs.isEmpty) H
  | some (.dK kvs) => Q (!kvs.isEmpty) H
  | _ => False
def truG (x : V) (H : Hp) (Q : Bool -> Hp -> Prop) : Prop := match x with
  | .non => Q false H
  | .bl b => Q b H
  | .int i => Q (i != 0) H
  | .str y => y.length <= sizeLine /\ Q ((y.length : Int) != 0) H
  | .ref p => truH p H Q
  | _ => False
theorem truG_of {x : V} {H : Hp} {Q : Bool -> Hp -> Prop} {K : PySem.W.Frag} (h : truG x H Q) : ∃ k, TruV K x H k /\ Q k H := by
  unfold truG at h
  split at h
  . exact ⟨_, rfl, h⟩
  . exact ⟨_, rfl, h⟩
  . exact ⟨_, rfl, h⟩
  . exact ⟨_, ⟨h.1, rfl⟩, h.2⟩
  . unfold truH at h
    split at h
    . exact ⟨_, .inl ⟨_, .inl (.inl (by assumption)), rfl⟩, h⟩
    . exact ⟨_, .inr (.inl ⟨_, .inl (.inl (by assumption)), rfl⟩), h⟩
    . exact ⟨_, .inr (.inr ⟨_, by assumption, rfl⟩), h⟩
    . exact h.elim
  . exact h.elim
def ptG (t : TE) : TT := λ σ H Q => t σ H λ x H1 => truG x H1 Q
theorem pt_G {e : Expr} {t : TE} (h : PE X e t) (he : ∀ whole, isTrue e X.env whole = (do let v ← whole; standAt e.pos; holding [v] (truthy v))) : PT X e (ptG t) := by
  intro pins s σ H Q I q
  rw [he]
  refine wpAny_bind (thn (h pins s σ H _ I q) λ v s1 ⟨x, H1, I1, r1, q1⟩ => wpAny_bind (wpAny_standAt (wpAny_holding ?_)))
  exact tru_ok pins s1 σ H1 x v Q I1 r1 (truG_of q1)
end
def moE (t : TE) : TE := λ σ H Q => ∃ Q0 : VK, t σ H Q0 /\ ∀ v H', Q0 v H' -> Q v H'
def moT (t : TT) : TT := λ σ H Q => ∃ Q0 : Bool -> Hp -> Prop, t σ H Q0 /\ ∀ v H', Q0 v H' -> Q v H'
def moA (t : TA) : TA := λ σ H Q => ∃ Q0 : List V -> Hp -> Prop, t σ H Q0 /\ ∀ v H', Q0 v H' -> Q v H'
section
variable {X : Cx} {e a b c o : Expr} {te ta tb tc to : TE} {t u : TT} {es : List Expr} {tas : TA}
theorem PE.mo (h : PE X e te) : PE X e (moE te) := λ pins s σ H Q I ⟨Q0, q, i⟩ => thn (h pins s σ H Q0 I q) λ v s1 ⟨x, H1, I1, r1, q1⟩ => ⟨x, H1, I1, r1, i x H1 q1⟩
theorem PT.mo (h : PT X e t) : PT X e (moT t) := λ pins s σ H Q I ⟨Q0, q, i⟩ => thn (h pins s σ H Q0 I q) λ v s1 ⟨H1, I1, q1⟩ => ⟨H1, I1, i v H1 q1⟩
theorem PA.mo (h : PA X es tas) : PA X es (moA tas) := λ pos pins s σ H Q I ⟨Q0, q, i⟩ => thn (h pos pins s σ H Q0 I q) λ v s1 ⟨x, H1, I1, r1, q1⟩ => ⟨x, H1, I1, r1, i x H1 q1⟩
def tAndG (ta tb : TE) : TE := λ σ H Q => ta σ H λ x H1 => match x with
  | .bl c => br c (tb σ H1 Q) (Q (.bl false) H1)
  | _ => False
def tOrG (ta tb : TE) : TE := λ σ H Q => ta σ H λ x H1 => match x with
  | .bl c => br c (Q (.bl true) H1) (tb σ H1 Q)
  | _ => False
def tNotG (ta : TE) : TE := λ σ H Q => ta σ H λ x H1 => match x with
  | .bl c => Q (.bl (!c)) H1
  | _ => False
def tIfG (t : TT) (ta tb : TE) : TE := λ σ H Q => t σ H λ c H1 => br c (ta σ H1 Q) (tb σ H1 Q)
variable {rest : List Expr} {pos : Pos}
theorem pe_andG (ha : PE X a ta) (hb : PE X (.BoolOp .And (b :: rest) pos) tb) : PE X (.BoolOp .And (a :: b :: rest) pos) (tAndG ta tb) :=
  PE.imp (pe_and (PE.mo ha) hb) λ σ H Q h => ⟨_, h, λ x H1 q => by
    cases x <;> first | exact ⟨_, rfl, N3 q⟩ | exact q.elim⟩
theorem pe_orG (ha : PE X a ta) (hb : PE X (.BoolOp .Or (b :: rest) pos) tb) : PE X (.BoolOp .Or (a :: b :: rest) pos) (tOrG ta tb) :=
  PE.imp (pe_or (PE.mo ha) hb) λ σ H Q h => ⟨_, h, λ x H1 q => by
    cases x <;> first | exact ⟨_, rfl, N3 q⟩ | exact q.elim⟩
theorem pe_notG (ha : PE X a ta) : PE X (.UnaryOp .Not a pos) (tNotG ta) :=
  PE.imp (pe_not (PE.mo ha)) λ σ H Q h => ⟨_, h, λ x H1 q => by
    cases x <;> first | exact ⟨_, rfl, q⟩ | exact q.elim⟩
theorem pe_ifG (hc : PT X c t) (ha : PE X a ta) (hb : PE X b tb) : PE X (.IfExp c a b pos) (tIfG t ta tb) :=
  PE.imp (pe_ifExp (PT.mo hc) ha hb) λ σ H Q h => ⟨_, h, λ x H1 q => N3 q⟩
def negG : V -> Hp -> VK -> Prop := λ x H Q => match x with
  | .int i => Q (.int (-i)) H
  | _ => False
theorem un_negG : UnR X (unaryOp .USub) negG := λ pins s σ H x v Q I r h => by
  cases x <;> first | exact un_neg pins s σ H _ v Q I r ⟨_, rfl, h⟩ | exact h.elim
def K4 (r r' : R2) (ta tb tc : TE) : TE := λ σ H Q => ta σ H λ x H1 => tb σ H1 λ y H2 => r x y H2 λ z H3 => match z with
  | .bl k => br k (tc σ H3 λ w' H4 => r' y w' H4 Q) (Q (.bl false) H3)
  | _ => False
def moR (r : R2) : R2 := λ x y H Q => ∃ Q0 : VK, r x y H Q0 /\ ∀ v H', Q0 v H' -> Q v H'
theorem OpR.mo {f : Value -> Value -> Sem Value} {r : R2} (h : OpR X f r) : OpR X f (moR r) := λ pins s σ H x y v u Q I rx ry ⟨Q0, q, i⟩ => thn (h pins s σ H x y v u Q0 I rx ry q) λ w' s1 ⟨z, H1, I1, r1, q1⟩ => ⟨z, H1, I1, r1, i z H1 q1⟩
theorem pe_chainG {op op' : CmpOp} {r r' : R2} (ho : OpR X (compareOp op) r) (ho' : OpR X (compareOp op') r') (ha : PE X a ta) (hb : PE X b tb) (hc : PE X c tc) (hm : lastMarks [op, op'] [b, c] = false) : PE X (.Compare a [op, op'] [b, c] pos) (K4 r r' ta tb tc) :=
  PE.imp (pe_chain (OpR.mo ho) ho' (PE.mo ha) (PE.mo hb) hc hm) λ σ H Q h => ⟨_, h, λ x H1 q => ⟨_, q, λ y H2 q2 => ⟨_, q2, λ z H3 q3 => by
    cases z <;> first | exact ⟨_, rfl, N3 q3⟩ | exact q3.elim⟩⟩⟩
def bT (t : TE) : TT := λ σ H Q => t σ H λ x H1 => match x with
  | .bl k => Q k H1
  | _ => False
theorem pt_cmpG {op : CmpOp} {r : R2} (ho : OpR X (compareOp op) r) (ha : PE X a ta) (hb : PE X b tb) (hm : behindInMarks op b = false) : PT X (.Compare a [op] [b] pos) (bT (tOp r ta tb)) :=
  PT.imp (pt_cmpR (OpR.mo ho) (PE.mo ha) (PE.mo hb) hm) λ σ H Q h => ⟨_, h, λ x H1 q => ⟨_, q, λ y H2 q2 => ⟨_, q2, λ z H3 q3 => by
    cases z <;> first | exact ⟨_, rfl, q3⟩ | exact q3.elim⟩⟩⟩
theorem pt_chainG {op op' : CmpOp} {r r' : R2} (ho : OpR X (compareOp op) r) (ho' : OpR X (compareOp op') r') (ha : PE X a ta) (hb : PE X b tb) (hc : PE X c tc) (hm : lastMarks [op, op'] [b, c] = false) : PT X (.Compare a [op, op'] [b, c] pos) (bT (K4 r r' ta tb tc)) :=
  PT.imp (pt_chain (OpR.mo ho) (OpR.mo ho') (PE.mo ha) (PE.mo hb) (PE.mo hc) hm) λ σ H Q h => ⟨_, h, λ x H1 q => ⟨_, q, λ y H2 q2 => ⟨_, q2, λ z H3 q3 => by
    cases z with
    | bl k =>
      refine ⟨k, rfl, ?_⟩
      have q3 := N3 q3
      cases k with
      | true => exact ⟨_, q3, λ w' H4 q4 => ⟨_, q4, λ z' H5 q5 => by cases z' <;> first | exact ⟨_, rfl, q5⟩ | exact q5.elim⟩⟩
      | false => exact ⟨false, rfl, q3⟩
    | _ => exact q3.elim⟩⟩⟩
def tAndB (t u : TT) : TT := λ σ H Q => t σ H λ c H1 => br c (u σ H1 Q) (Q false H1)
def V1 (t u : TT) : TT := λ σ H Q => t σ H λ c H1 => br c (Q true H1) (u σ H1 Q)
theorem pw_andB (ha : PT X a t) (hb : PW X (.BoolOp .And (b :: rest) pos) u) : PW X (.BoolOp .And (a :: b :: rest) pos) (tAndB t u) := λ wh pins s σ H Q I h =>
  pw_and (PT.mo ha) hb wh pins s σ H Q I ⟨_, h, λ c H1 q => N3 q⟩
theorem pw_orB (ha : PT X a t) (hb : PW X (.BoolOp .Or (b :: rest) pos) u) : PW X (.BoolOp .Or (a :: b :: rest) pos) (V1 t u) := λ wh pins s σ H Q I h =>
  pw_or (PT.mo ha) hb wh pins s σ H Q I ⟨_, h, λ c H1 q => N3 q⟩
@[irreducible] def fldK (cl : Addr) (f : Str) (x : V) (H1 : Hp) (Q : VK) : Prop := match x with
  | .ref p => match H1 p with
    | some (.ins C dx fs) => C = cl /\ match fs.lookup f with
      | some v => Q v H1
      | none => False
    | _ => False
  | _ => False
def tFldG (cl : Addr) (f : Str) (to : TE) : TE := λ σ H Q => to σ H λ x H1 => fldK cl f x H1 Q
theorem pe_fldG {cl : Addr} {f : Str} (cc : Cls X.K cl) (n : NoAttr X.K cl f) (ho : PE X o to) (hb : attributeBase o f X.env (eval o X.env) = eval o X.env) : PE X (.Attribute o f pos) (tFldG cl f to) :=
  PE.imp (pe_fld0 cc n (PE.mo ho) hb) λ σ H Q h => ⟨_, h, λ x H1 q => by
    unfold fldK at q
    split at q
    . split at q
      . obtain ⟨rfl, q⟩ := q
        split at q
        . exact ⟨_, _, _, _, rfl, by assumption, by assumption, q⟩
        . exact q.elim
      . exact q.elim
    . exact q.elim⟩
@[irreducible] def methK (cl : Addr) (m : Str) (x : V) (H1 : Hp) (R : Prop) : Prop := match x with
  | .ref p => match H1 p with
    | some (.ins C dx fs) => C = cl /\ fs.lookup m = none /\ R
    | _ => False
  | _ => False
def V2 (cl : Addr) (m : Str) (sp : Sp) (E : XK) (to : TE) (t : TA) : TE := λ σ H Q => to σ H λ x H1 => methK cl m x H1 (t σ H1 λ vs H2 => sp (x :: (vs ++ [])) H2 Q E)
def j4 : Expr -> Bool
  | .Call (.Name id _) [] [] _ => id != "super"
  | _ => true
theorem B2 {f : Str} {env : Env} {w : Sem Value} (h : j4 o = true) : attributeBase o f env w = w := by
  unfold attributeBase
  split
  . rename_i id _ _
    have h' : (id != "super") = true := h
    simp [h']
  . rfl
end
def dictO : HO -> Bool
  | .dK _ => true
  | .dT _ => true
  | _ => false
abbrev Th := Option (Addr × HO)
def NF (X : Cx) (a : Addr) : Prop := ∀ o u, X.H₀ a ≠ some (.frz o u)
section
variable {X : Cx} {pins : List (Addr × Obj)} {σ : St} {H : Hp} {s : Shared} {a : Addr} {u : HO} {o : Obj}
theorem obj_at (hd : dictO u = true) {P : Program} {w : World} {h : Heap} (x : ObjOk P w H h a u) : ∃ o, h.get? a = some o := by
  cases u <;> first | (cases hd; done) | skip
  . obtain ⟨_, _, vs, _, ob, es, ep, e, _⟩ := x
    exact ⟨ob, e⟩
  . obtain ⟨_, _, xs, _, ob, es, ep, e, _⟩ := x
    exact ⟨ob, e⟩
theorem a3E {v u' : HO} (I : Inv X pins σ H s) (h : H a = some v) (hv : ∀ xs, v ≠ .tup xs) (ho : ∀ b, v ≠ .own b) (hb : ∀ ps, v ≠ .tbl ps) (nf : (∀ o u, v ≠ .frz o u) \/ NF X a) (new : ObjOk X.prog X.w H s.heap a u') : Inv X pins σ (upd H a u') s := by
  have ne : ∀ b w, H b = some w -> w ≠ v -> b ≠ a := λ b w e hw z => by
    rw [z, h] at e
    cases e
    exact hw rfl
  have non : ∀ b, H b = none -> b ≠ a := λ b e z => by rw [z, h] at e; cases e
  have ou : ∀ b c, H b = some (.own c) -> upd H a u' b = some (.own c) := λ b c e => by
    rw [b4 (ne b _ e λ z => ho _ z.symm)]
    exact e
  have tu : ∀ b xs, H b = some (.tup xs) -> upd H a u' b = some (.tup xs) := λ b xs e => by
    rw [b4 (ne b _ e λ z => hv _ z.symm)]
    exact e
  refine ⟨I.ok, I.os, I.bare, ?_, I.loc, I.cell, ?_, λ x c e => ?_, λ p hp => ?_, λ b w e => ?_, I.len⟩
  . refine ⟨I.base.keep, I.base.slot, λ b ob e n x => ?_, I.base.there, λ b xs e => tu b xs (I.base.tups b xs e), λ b ob w e => ?_, λ b ps e => ?_⟩
    . have := I.base.free b ob e n x
      rw [b4 (non b this)]
      exact this
    . have q := I.base.frzs b ob w e
      by_cases z : b = a
      . subst z
        rcases nf with nf | nf
        . rw [h] at q
          cases q
          exact absurd rfl (nf _ _)
        . exact absurd e (nf _ _)
      . rw [b4 z]
        exact q
    . obtain ⟨more, q⟩ := I.base.tbls b ps e
      refine ⟨more, ?_⟩
      rw [b4 (ne b _ q λ z => hb _ z.symm)]
      exact q
  . rw [b4 (non _ I.free)]
    exact I.free
  . rw [b4 (non _ (I.freeC x c e))]
    exact I.freeC x c e
  . obtain ⟨p1, p2, r⟩ := I.pin p hp
    refine ⟨p1, ?_, r⟩
    rw [b4 (non _ p2)]
    exact p2
  . by_cases z : b = a
    . subst z
      rw [b6] at e
      cases e
      exact new.stay (λ _ _ _ q => q) (λ c q => ou c _ q) tu
    . rw [b4 z] at e
      exact (I.hok b w e).stay (λ _ _ _ q => q) (λ c q => ou c _ q) tu
theorem a0u (I : Inv X pins σ H s) (h : H a = some u) (hd : dictO u = true) : NF X a /\ ∃ o, s.heap.get? a = some o /\ Inv X pins σ (upd H a (.frz o u)) s := by
  have ok := I.hok a u h
  obtain ⟨o, e⟩ := obj_at hd ok
  have nf : ∀ o v, u ≠ .frz o v := λ o v z => by rw [z] at hd; cases hd
  refine ⟨λ ob v z => ?_, o, e, ?_⟩
  . have := I.base.frzs a ob v z
    rw [h] at this
    cases this
    exact nf _ _ rfl
  . exact a3E I h (λ xs z => by rw [z] at hd; cases hd) (λ xs z => by rw [z] at hd; cases hd) (λ xs z => by rw [z] at hd; cases hd) (.inl nf) ⟨e, ok⟩
theorem N6 (I : Inv X pins σ H s) (h : H a = some (.frz o u)) (nf : NF X a) : Inv X pins σ (upd H a u) s := by
  obtain ⟨_, ok⟩ := I.hok a _ h
  exact a3E I h (λ xs z => by cases z) (λ xs z => by cases z) (λ xs z => by cases z) (.inr nf) ok
end
abbrev TI2 := St -> Hp -> (It -> Hp -> Th -> Prop) -> Prop
def PIE2 (X : Cx) (pins : List (Addr × Obj)) (σ : St) (tg : Expr) (R : It -> Hp -> Th -> Prop) (itv : Value) (s2 : Shared) : Prop := ∃ th : Th, (∀ a u, th = some (a, u) -> NF X a) /\ PIE X pins σ tg (λ J H => R J H th) itv s2
def PI2 (X : Cx) (tg iter : Expr) (wi : TI2) : Prop :=
  ∀ (pins : List (Addr × Obj)) (s : Shared) (σ : St) (H : Hp) (R : It -> Hp -> Th -> Prop), Inv X pins σ H s -> wi σ H R →
    wpAny (model X.prog X.w) X.A (eval iter X.env) (λ v s1 => wpAny (model X.prog X.w) X.A (pyIter v) (PIE2 X pins σ tg R) X.xe s1) X.xe s
def thD (th : Th) (D : Ends) : Ends := match th with
  | none => D
  | some (a, u) => ⟨λ σ H => (∃ o, H a = some (.frz o u)) /\ D.nx σ (upd H a u), λ v H => (∃ o, H a = some (.frz o u)) /\ D.rt v (upd H a u), λ σ H => (∃ o, H a = some (.frz o u)) /\ D.bk σ (upd H a u), λ σ H => (∃ o, H a = some (.frz o u)) /\ D.ct σ (upd H a u)⟩
def thQ (th : Th) (Q : VK) : VK := match th with
  | none => Q
  | some (a, u) => λ v H => (∃ o, H a = some (.frz o u)) /\ Q v (upd H a u)
@[irreducible] def B8 (J : It) (g : TG) (tb : TS) (D : Ends) (σ : St) (H : Hp) : Prop := ∃ W : Nat -> Nat -> St -> Hp -> Prop, (∃ m, W 0 m σ H) /\ ∀ i m σ H, W i m σ H →
  (J.stop i H /\ D.nx σ H) \/ (J.go i H /\ ∃ N : St -> Hp -> Prop, (∀ σ' H', N σ' H' -> ∃ m', m' < m /\ W (i + 1) m' σ' H') /\ ∀ x H', J.yld i H x H' -> g x σ H' λ σ2 H2 => tb { D with nx := N, ct := N, bk := D.nx } σ2 H2)
@[irreducible] def X7 (J : It) (tn : List Str) (fr : List (Str × Nat)) (g : TG) (tt : TT) (te : TE) (σ : St) (H1 : Hp) (Q : VK) : Prop := ∀ p, H1 p = none →
  ∃ W : Nat -> Nat -> Hp -> Prop, (∃ m, W 0 m (upd H1 p (.lst []))) /\ ∀ i m G, W i m G →
    (J.stop i G /\ Q (.ref p) G) \/ (J.go i G /\ ∃ N : Hp -> Prop, (∀ G', N G' -> ∃ m', m' < m /\ W (i + 1) m' G') /\ ∀ x G', J.yld i G x G' →
      g x (inn tn fr σ) G' λ σ2 G2 => tt σ2 G2 λ b G3 => br b (te σ2 G3 λ y G4 => ∃ ys, G4 p = some (.lst ys) /\ ys.length < sizeLine /\ N (upd G4 p (.lst (ys ++ [y])))) (N G3))
@[irreducible] def N7 (wi : TI2) (g : TG) (tb : TS) : TS := λ D σ H => wi σ H λ J H1 th => B8 J g tb (thD th D) σ H1
@[irreducible] def N8 (wi : TI2) (tn : List Str) (fr : List (Str × Nat)) (g : TG) (tt : TT) (te : TE) : TE := λ σ H Q => wi σ H λ J H1 th => X7 J tn fr g tt te σ H1 (thQ th Q)
theorem B9 {wi : TI2} {g : TG} {tb : TS} {D : Ends} {σ : St} {H : Hp} (h : wi σ H λ J H1 th => B8 J g tb (thD th D) σ H1) : N7 wi g tb D σ H := by
  unfold N7
  exact h
theorem comp_i {wi : TI2} {tn : List Str} {fr : List (Str × Nat)} {g : TG} {tt : TT} {te : TE} {σ : St} {H : Hp} {Q : VK} (h : wi σ H λ J H1 th => X7 J tn fr g tt te σ H1 (thQ th Q)) : N8 wi tn fr g tt te σ H Q := by
  unfold N8
  exact h
def Ends.le (D D' : Ends) : Prop := (∀ σ H, D.nx σ H -> D'.nx σ H) /\ (∀ v H, D.rt v H -> D'.rt v H) /\ (∀ σ H, D.bk σ H -> D'.bk σ H) /\ ∀ σ H, D.ct σ H -> D'.ct σ H
def moS (t : TS) : TS := λ D σ H => ∃ D0 : Ends, t D0 σ H /\ Ends.le D0 D
def moG (g : TG) : TG := λ v σ H Q => ∃ Q0 : St -> Hp -> Prop, g v σ H Q0 /\ ∀ σ' H', Q0 σ' H' -> Q σ' H'
section
variable {X : Cx} {tg it : Expr}
theorem SP.le {pins : List (Addr × Obj)} {D D' : Ends} {f : Flow} {s : Shared} (h : SP X pins D f s) (l : Ends.le D D') : SP X pins D' f s := by
  cases f with
  | next => obtain ⟨σ, H, I, q⟩ := h; exact ⟨σ, H, I, l.1 _ _ q⟩
  | brk => obtain ⟨σ, H, I, q⟩ := h; exact ⟨σ, H, I, l.2.2.1 _ _ q⟩
  | cont => obtain ⟨σ, H, I, q⟩ := h; exact ⟨σ, H, I, l.2.2.2 _ _ q⟩
  | ret u => obtain ⟨v, σ, H, I, r, q⟩ := h; exact ⟨v, σ, H, I, r, l.2.1 _ _ q⟩
theorem PSs.mo {ss : List Stmt} {t : TS} (h : PSs X ss t) : PSs X ss (moS t) := λ pins s σ H D I ⟨D0, q, l⟩ => thn (h pins s σ H D0 I q) λ f s' sp => SP.le sp l
theorem PG.mo {g : TG} (h : PG X tg g) : PG X tg (moG g) := λ pins s σ H v u Q I r ⟨Q0, q, l⟩ => thn (h pins s σ H v u Q0 I r q) λ _ s' ⟨σ', H', I', q'⟩ => ⟨σ', H', I', l _ _ q'⟩
def anyD (X : Cx) (D : Ends) : Ends := ⟨λ σ H => D.nx σ H \/ ∃ a o u, NF X a /\ H a = some (.frz o u) /\ D.nx σ (upd H a u), λ v H => D.rt v H \/ ∃ a o u, NF X a /\ H a = some (.frz o u) /\ D.rt v (upd H a u),
  λ σ H => D.bk σ H \/ ∃ a o u, NF X a /\ H a = some (.frz o u) /\ D.bk σ (upd H a u), λ σ H => D.ct σ H \/ ∃ a o u, NF X a /\ H a = some (.frz o u) /\ D.ct σ (upd H a u)⟩
theorem thD_any {th : Th} {D : Ends} (hn : ∀ a u, th = some (a, u) -> NF X a) : Ends.le (thD th D) (anyD X D) := by
  cases th with
  | none => exact ⟨λ _ _ h => .inl h, λ _ _ h => .inl h, λ _ _ h => .inl h, λ _ _ h => .inl h⟩
  | some p =>
    obtain ⟨a, u⟩ := p
    have nf := hn a u rfl
    exact ⟨λ _ _ ⟨⟨o, e⟩, h⟩ => .inr ⟨a, o, u, nf, e, h⟩, λ _ _ ⟨⟨o, e⟩, h⟩ => .inr ⟨a, o, u, nf, e, h⟩, λ _ _ ⟨⟨o, e⟩, h⟩ => .inr ⟨a, o, u, nf, e, h⟩, λ _ _ ⟨⟨o, e⟩, h⟩ => .inr ⟨a, o, u, nf, e, h⟩⟩
theorem SP.thaw {pins : List (Addr × Obj)} {D : Ends} {f : Flow} {s : Shared} (h : SP X pins (anyD X D) f s) : SP X pins D f s := by
  cases f with
  | next =>
    obtain ⟨σ, H, I, q | ⟨a, o, u, nf, e, q⟩⟩ := h
    . exact ⟨σ, H, I, q⟩
    . exact ⟨σ, _, N6 I e nf, q⟩
  | brk =>
    obtain ⟨σ, H, I, q | ⟨a, o, u, nf, e, q⟩⟩ := h
    . exact ⟨σ, H, I, q⟩
    . exact ⟨σ, _, N6 I e nf, q⟩
  | cont =>
    obtain ⟨σ, H, I, q | ⟨a, o, u, nf, e, q⟩⟩ := h
    . exact ⟨σ, H, I, q⟩
    . exact ⟨σ, _, N6 I e nf, q⟩
  | ret v =>
    obtain ⟨w, σ, H, I, r, q | ⟨a, o, u, nf, e, q⟩⟩ := h
    . exact ⟨w, σ, H, I, r, q⟩
    . exact ⟨w, σ, _, N6 I e nf, r, q⟩
def oldI (X : Cx) (wi : TI2) : TI := λ σ H R => ∃ R0 : It -> Hp -> Th -> Prop, wi σ H R0 /\ ∀ J H1 th, (∀ a u, th = some (a, u) -> NF X a) -> R0 J H1 th -> R J H1
theorem pi_old {wi : TI2} (h : PI2 X tg it wi) : PI X tg it (oldI X wi) := λ pins s σ H R I ⟨R0, q, l⟩ => thn (h pins s σ H R0 I q) λ v s1 h1 => thn h1 λ itv s2 ⟨th, nf, a, b, c, d, e, f, g, i, j, k, m⟩ => ⟨a, b, c, d, e, f, g, i, j, k, l _ _ _ nf m⟩
theorem ps_for2 {wi : TI2} {g : TG} {tb : TS} {body : List Stmt} {pos : Pos} (hp : PassesOwn (model X.prog X.w) X.A X.env X.xe) (hc : X.calm = true) (hi : PI2 X tg it wi) (hg : PG X tg g) (hb : PSs X body tb)
    (hs : ∀ x, foldedSetIterable it X.env x = pure x) : PS X (.For tg it body [] pos) (N7 wi g tb) := by
  intro pins s σ H D I h
  unfold N7 at h
  refine thn (ps_for hp hc (pi_old hi) (PG.mo hg) (PSs.mo hb) hs pins s σ H (anyD X D) I ⟨_, h, λ J H1 th nf q => ?_⟩) λ f s' sp => SP.thaw sp
  have le := thD_any (X := X) (D := D) nf
  unfold B8 at q
  obtain ⟨W, h0, hs⟩ := q
  refine ⟨W, h0, λ i m σ H w => ?_⟩
  rcases hs i m σ H w with ⟨st, nx⟩ | ⟨go, N, hN, step⟩
  . exact .inl ⟨st, le.1 _ _ nx⟩
  . exact .inr ⟨go, N, hN, λ x H' y => ⟨_, step x H' y, λ σ2 H2 q => ⟨_, q, λ _ _ z => z, le.2.1, le.1, λ _ _ z => z⟩⟩⟩
def anyQ (X : Cx) (Q : VK) : VK := λ v H => Q v H \/ ∃ a o u, NF X a /\ H a = some (.frz o u) /\ Q v (upd H a u)
theorem thQ_any {th : Th} {Q : VK} (hn : ∀ a u, th = some (a, u) -> NF X a) : ∀ v H, thQ th Q v H -> anyQ X Q v H := by
  cases th with
  | none => exact λ _ _ h => .inl h
  | some p =>
    obtain ⟨a, u⟩ := p
    exact λ _ _ ⟨⟨o, e⟩, h⟩ => .inr ⟨a, o, u, hn a u rfl, e, h⟩
theorem a1H {wi : TI2} {tn : List Str} {fr : List (Str × Nat)} {g : TG} {tt : TT} {te : TE} {σ : St} {H : Hp} {Q : VK} (h : N8 wi tn fr g tt te σ H Q) : tComp (oldI X wi) tn fr g tt te σ H (anyQ X Q) := by
  unfold N8 at h
  refine ⟨_, h, λ J H1 th nf q => ?_⟩
  unfold X7 at q
  intro p hp
  obtain ⟨W, h0, hs⟩ := q p hp
  refine ⟨W, h0, λ i m G w => ?_⟩
  rcases hs i m G w with ⟨st, q⟩ | r
  . exact .inl ⟨st, thQ_any nf _ _ q⟩
  . exact .inr r
end
def Itd (a : Addr) (o : Obj) (kvs : List (Key × V)) : It := ⟨λ i H => H a = some (.frz o (.dK kvs)) /\ i < kvs.length, λ i H x H' => H' = H /\ ∃ k v, kvs[i]? = some (k, v) /\ x = kV k, λ i H => H a = some (.frz o (.dK kvs)) /\ kvs.length <= i⟩
def Itp (a : Addr) (o : Obj) (kvs : List (Key × V)) : It := ⟨λ i H => H a = some (.frz o (.dK kvs)) /\ i < kvs.length, λ i H x H' => ∃ k v t, kvs[i]? = some (k, v) /\ x = .ref t /\ H t = none /\ H' = upd H t (.tup [kV k, v]), λ i H => H a = some (.frz o (.dK kvs)) /\ kvs.length <= i⟩
theorem a2F {P : Program} {w : World} {k : Key} {v : Value} (h : (e7 P w).is k v = true) : RelV (kV k) v := by
  rcases g9 (show a0d k v = true from h) with ⟨i, t, rfl, rfl⟩ | ⟨x, t, rfl, rfl⟩
  . exact ⟨t, rfl⟩
  . exact ⟨t, rfl⟩
theorem KV.get {kvs : List (Key × V)} {vs : List (Key × Value)} : KV kvs vs -> ∀ {i : Nat} {k : Key} {v : V}, kvs[i]? = some (k, v) -> ∃ u, vs[i]? = some (k, u) /\ RelV v u := by
  intro r
  induction r with
  | nil => intro i k v h; simp at h
  | cons h t ih =>
    intro i k v e
    cases i with
    | zero =>
      rename_i p b ps bs
      obtain ⟨kb, ub⟩ := b
      obtain ⟨kp, vp⟩ := p
      simp at e
      obtain ⟨rfl, rfl⟩ := e
      obtain ⟨e1, e2⟩ := h
      simp only at e1 e2
      subst e1
      exact ⟨ub, rfl, e2⟩
    | succ i => exact ih (by simpa using e)
section
variable {P : Program} {w : World} {K : PySem.W.Frag} {tg : Expr}
theorem a0v {h : Heap} {a : Addr} {o : Obj} {vs : List (Key × Value)} {ep : Nat} (e : h.get? a = some o) (d : h.DictAt (e7 P w) a vs ep) : ∀ h' : Heap, h'.get? a = some o -> h'.DictAt (e7 P w) a vs ep := λ h' e' => d.at' λ o' q => by
  rw [e] at q
  cases q
  exact e'
theorem turn_dict (it a : Addr) (o : Obj) {kvs : List (Key × V)} {vs : List (Key × Value)} {ep : Nat} (r : KV kvs vs) (hD : ∀ h : Heap, h.get? a = some o -> h.DictAt (e7 P w) a vs ep) :
    Turn P w K tg (Itd a o kvs) [it] it (λ i h => h.IsKeyIter it a i vs.length ep) where
  mem := by simp
  obj := λ i h st b hb => by
    have e : b = it := by simpa using hb
    subst e
    obtain ⟨o, e, c, d⟩ := st
    exact ⟨o, e, λ v z => by rw [d] at z; cases z⟩
  keep := λ i h h' st k => st.at λ o e => k it (by simp) o e
  item := by
    intro X hP hw hK hc i pins s σ H E I hf st hg
    subst hP hw hK
    obtain ⟨f0, f1, f2, f3, f4, f5⟩ := hf it (by simp)
    obtain ⟨ha, hi⟩ := hg
    obtain ⟨eo, _⟩ := I.hok a _ ha
    obtain ⟨⟨k, v⟩, hx⟩ : ∃ p, kvs[i]? = some p := ⟨kvs[i], by simp [hi]⟩
    obtain ⟨u, hu, ru⟩ := KV.get r hx
    refine wpAny_pyNext_dict_item st (hD _ eo) hu λ key h' hkey hit' hs' => ?_
    have I1 : Inv X pins σ H { s with heap := h' } := I.turned (t' := s.toks) (λ b o hb e => hs'.extBut b o hb e) f0 f1 f3 f4 f5
    obtain ⟨ob, e, c, d⟩ := id hit'
    exact ⟨key, rfl, go_of (s := { s with heap := h' }) e c d (by decide) ⟨kV k, H, I1, a2F hkey, ⟨rfl, k, v, hx, rfl⟩, hit', λ b hb => (hf b hb).1⟩⟩
  done := by
    intro X hP hw hK hc i pins s σ H E I hf st hg
    subst hP hw hK
    obtain ⟨f0, f1, f2, f3, f4, f5⟩ := hf it (by simp)
    obtain ⟨ha, hi⟩ := hg
    obtain ⟨eo, _⟩ := I.hok a _ ha
    have hl := KV.length r
    exact wpAny_pyNext_dict_end (I.ok.hd hc) st (hD _ eo) (by simp; omega) λ h' eb => ⟨rfl, I.turned (t' := s.toks) (λ b o hb e => eb b o hb e) f0 f1 f3 f4 f5⟩
  self := λ _ _ _ _ _ st h => wpAny_pyIter_keyiter st h
theorem a4J {es : List Expr} {k1 : Nat} {pos : Pos} (it a : Addr) (o : Obj) {kvs : List (Key × V)} {vs : List (Key × Value)} {ep : Nat} (r : KV kvs vs) (hD : ∀ h : Heap, h.get? a = some o -> h.DictAt (e7 P w) a vs ep) :
    Turn P w K (.Tuple es k1 pos) (Itp a o kvs) [it] it (λ i h => ∃ ok ov, IsItemIter h it a i vs.length ep ok ov) where
  mem := by simp
  obj := λ i h st b hb => by
    have e : b = it := by simpa using hb
    subst e
    obtain ⟨ok, ov, e⟩ := st
    exact ⟨_, e, λ v z => by cases z⟩
  keep := λ i h h' ⟨ok, ov, e⟩ k => ⟨ok, ov, k it (by simp) _ e⟩
  item := by
    intro X hP hw hK hc i pins s σ H E I hf st hg
    subst hP hw hK
    obtain ⟨f0, f1, f2, f3, f4, f5⟩ := hf it (by simp)
    obtain ⟨ha, hi⟩ := hg
    obtain ⟨eo, _⟩ := I.hok a _ ha
    obtain ⟨⟨k, v⟩, hx⟩ : ∃ p, kvs[i]? = some p := ⟨kvs[i], by simp [hi]⟩
    obtain ⟨u, hu, ru⟩ := KV.get r hx
    obtain ⟨ok, ov, st⟩ := st
    refine wpAny_pyNext_items_item st (hD _ eo) hu λ key h' hkey hit' ht hsz kp => ⟨_, rfl, ?_⟩
    refine wpAny_letOwnedTupleGo_items hit' λ h2 hit2 sb => ?_
    have hT : s.heap.objs.size ≠ it := Nat.ne_of_gt (Heap.lt_size st)
    have e2 : h2.get? s.heap.objs.size = some { cls := .type "tuple", data := .seq #[key, u] } := sb.extBut _ _ hT ht
    have I1 : Inv X pins σ H { s with heap := h2 } := I.turned (t' := s.toks) (λ b o hb e => sb.extBut b o hb (kp b o hb e)) f0 f1 f3 f4 f5
    have hn : H s.heap.objs.size = none := I.hok.fresh (Nat.le_refl _)
    refine ⟨.ref s.heap.objs.size, upd H s.heap.objs.size (.tup [kV k, v]), ?_, rfl, ⟨k, v, _, hx, rfl, hn, rfl⟩, ⟨key, u, hit2⟩, λ b hb => ?_⟩
    . have new : ObjOk X.prog X.w (upd H s.heap.objs.size (.tup [kV k, v])) h2 s.heap.objs.size (.tup [kV k, v]) := ⟨by show 2 <= sizeLine; decide, [key, u], .cons (a2F hkey) (.cons ru .nil), _, e2, rfl, _, rfl⟩
      refine ⟨I1.ok, I1.os, I1.bare, ?_, I1.loc, I1.cell, ?_, λ x c e => ?_, λ p hp => ?_, λ b w e => ?_, I1.len⟩
      . refine ⟨I1.base.keep, I1.base.slot, λ b ob e n x => ?_, I1.base.there, λ b xs e => ?_, λ b ob w e => ?_, λ b ps e => ?_⟩
        . have q := I1.base.free b ob e n x
          by_cases z : b = s.heap.objs.size
          . subst z
            exact absurd (Nat.lt_of_lt_of_le (Heap.lt_size e) I.sz) (Nat.lt_irrefl _)
          . rw [b4 z]
            exact q
        . have q := I1.base.tups b xs e
          rw [b4 (b8 q hn)]
          exact q
        . have q := I1.base.frzs b ob w e
          rw [b4 (b8 q hn)]
          exact q
        . obtain ⟨more, q⟩ := I1.base.tbls b ps e
          exact ⟨more, by rw [b4 (b8 q hn)]; exact q⟩
      . rw [b4 (Nat.ne_of_lt I.lt)]
        exact I1.free
      . have : c ≠ s.heap.objs.size := by
          obtain ⟨v, ob, ho, _⟩ := I.cell x c e
          exact Nat.ne_of_lt (Heap.lt_size ho)
        rw [b4 this]
        exact I1.freeC x c e
      . obtain ⟨p1, p2, q⟩ := I1.pin p hp
        refine ⟨p1, ?_, q⟩
        have : p.1 ≠ s.heap.objs.size := Nat.ne_of_lt (Heap.lt_size (I.pin p hp).1)
        rw [b4 this]
        exact p2
      . by_cases z : b = s.heap.objs.size
        . subst z
          rw [b6] at e
          cases e
          exact new
        . rw [b4 z] at e
          refine (I1.hok b w e).stay (λ _ _ _ q => q) (λ c q => ?_) λ c xs q => ?_
          . rw [b4 (b8 q hn)]
            exact q
          . rw [b4 (b8 q hn)]
            exact q
    . have e : b = it := by simpa using hb
      subst e
      rw [b4 (Ne.symm hT)]
      exact f0
  done := by
    intro X hP hw hK hc i pins s σ H E I hf st hg
    subst hP hw hK
    obtain ⟨f0, f1, f2, f3, f4, f5⟩ := hf it (by simp)
    obtain ⟨ha, hi⟩ := hg
    obtain ⟨eo, _⟩ := I.hok a _ ha
    have hl := KV.length r
    obtain ⟨ok, ov, st⟩ := st
    exact wpAny_pyNext_items_end (I.ok.hd hc) st (hD _ eo) (by simp; omega) λ h' eb => ⟨rfl, I.turned (t' := s.toks) (λ b o hb e => eb b o hb e) f0 f1 f3 f4 f5⟩
  self := λ A i s Q E st h => by
    obtain ⟨ok, ov, st⟩ := st
    exact PySem.W.kcp_self st h
end
section
variable {X : Cx} {pins : List (Addr × Obj)} {σ : St} {H : Hp} {s : Shared}
theorem frz_at (I : Inv X pins σ H s) {a : Addr} {o : Obj} {kvs : List (Key × V)} (h : H a = some (.frz o (.dK kvs))) : (a == sysModules) = false /\ kvs.length <= sizeLine /\ s.heap.get? a = some o /\ ∃ vs ep, KV kvs vs /\ s.heap.DictAt (e7 X.prog X.w) a vs ep := by
  obtain ⟨e, z, lo, vs, r, d⟩ := I.hok a _ h
  obtain ⟨ep, d⟩ := d.dictAt
  exact ⟨lo, z, e, vs, ep, r, d⟩
theorem keys_vals {kvs : List (Key × V)} {vs : List (Key × Value)} {us : List Value} (r : KV kvs vs) (hl : us.length = vs.length) (h : ∀ (j : Nat) (u : Value), us[j]? = some u -> ∃ k x, vs[j]? = some (k, x) /\ (e7 X.prog X.w).is k u = true) : Vals (kvs.map λ kv => kV kv.1) us := by
  induction r generalizing us with
  | nil =>
    cases us with
    | nil => exact .nil
    | cons a b => simp at hl
  | cons hp t ih =>
    rename_i p b ps bs
    cases us with
    | nil => simp at hl
    | cons u us =>
      obtain ⟨k, x, e, hk⟩ := h 0 u rfl
      simp at e
      subst e
      rw [List.map_cons]
      refine .cons ?_ (ih (by simpa using hl) λ j w hj => h (j + 1) w (by simpa using hj))
      rw [hp.1]
      exact a2F hk
theorem a1I (hc : X.calm = true) (I : Inv X pins σ H s) {a : Addr} {kvs : List (Key × V)} (h : Rd H a (.dK kvs)) {Q : VK} (q : newO H (.lst (kvs.map λ kv => kV kv.1)) Q) : wpAny (model X.prog X.w) X.A (call (.type "list") [.ref a]) (EP X pins σ Q) X.xe s := by
  obtain ⟨z, lo, vs, r, d⟩ := S7 I.hok h
  obtain ⟨ep, d⟩ := d.dictAt
  have hl := KV.length r
  refine PySem.W.kdl_call (PySem.W.kdl_dict (knd := e7 X.prog X.w) (kvs := vs) (ep := ep) lo) (I.ok.hd hc) d (by rw [<- hl]; exact z) λ h' tk acc' c' hk hD hacc => ?_
  have rv : Vals (kvs.map λ kv => kV kv.1) acc'.toList := keys_vals (X := X) r (by rw [Array.length_toList]; exact hacc.1) λ j u hu => hacc.2 j u (by rw [<- Array.getElem?_toList]; exact hu)
  refine ⟨.ref s.heap.objs.size, _, I.laid (t' := tk) hk (Nat.le_refl _) (o := .lst (kvs.map λ kv => kV kv.1)) ?_, rfl, q.at _ (I.hok.fresh (Nat.le_refl _))⟩
  exact ⟨by rw [List.length_map]; exact z, acc'.toList, c', rv, by rw [Array.toArray_toList]; exact hD⟩
theorem a4K {z : Str} : ∀ {us : List Value}, us.length = z.cps.toList.length -> (∀ (j : Nat) (u : Value), us[j]? = some u -> ∃ c t, z.cps.toList[j]? = some c /\ u = .str ⟨#[c]⟩ t) -> Vals (z.cps.toList.map λ c => V.str ⟨#[c]⟩) us := by
  generalize z.cps.toList = l
  induction l with
  | nil =>
    intro us hl h
    cases us with
    | nil => exact .nil
    | cons a b => simp at hl
  | cons c r ih =>
    intro us hl h
    cases us with
    | nil => simp at hl
    | cons u us =>
      obtain ⟨d, t, e, rfl⟩ := h 0 u rfl
      simp at e
      subst e
      exact .cons ⟨t, rfl⟩ (ih (by simpa using hl) λ j w hj => h (j + 1) w (by simpa using hj))
theorem list_text (hc : X.calm = true) (I : Inv X pins σ H s) {z : Str} {t : Tok} (hz : z.length <= sizeLine) {Q : VK} (q : newO H (.lst (z.cps.toList.map λ c => V.str ⟨#[c]⟩)) Q) : wpAny (model X.prog X.w) X.A (call (.type "list") [.str z t]) (EP X pins σ Q) X.xe s := by
  refine call_list_str (I.ok.hd hc) z t (λ h' tk acc' c' hk hD hacc => ?_) hz
  have rv : Vals (z.cps.toList.map λ c => V.str ⟨#[c]⟩) acc'.toList := a4K (by rw [Array.length_toList, hacc.1]; simp) λ j u hu => by
    obtain ⟨c, tk, hc, rfl⟩ := hacc.2 j u (by rw [<- Array.getElem?_toList]; exact hu)
    exact ⟨c, tk, by simpa using hc, rfl⟩
  refine ⟨.ref s.heap.objs.size, _, I.laid (t' := tk) hk (Nat.le_refl _) (o := .lst (z.cps.toList.map λ c => V.str ⟨#[c]⟩)) ?_, rfl, q.at _ (I.hok.fresh (Nat.le_refl _))⟩
  exact ⟨by rw [List.length_map, Array.length_toList]; exact hz, acc'.toList, c', rv, by rw [Array.toArray_toList]; exact hD⟩
def R1 : List V -> Option (List Str)
  | [] => some []
  | .str x :: r => match R1 r with
    | some l => some (x :: l)
    | none => none
  | _ => none
theorem a0w : ∀ {xs : List V} {us : List Value} {ys : List Str}, Vals xs us -> R1 xs = some ys -> StrsAre us ys
  | _, _, _, .nil, h => by cases h; exact .nil
  | x :: r, u :: us, ys, .cons h t, e => by
    cases x <;> first | (cases e; done) | skip
    obtain ⟨tk, rfl⟩ := h
    unfold R1 at e
    split at e
    . cases e
      exact .cons _ _ (a0w t (by assumption))
    . cases e
abbrev RM := V -> List V -> Hp -> VK -> Prop
@[irreducible] def a0x : RM := λ x vs H Q => match x, vs with
  | .str sep, [.ref l] => match H l with
    | some (.lst xs) => match R1 xs with
      | some ys => (ys.map (·.length)).sum + ys.length * sep.length <= 16777216 /\ Q (.str (Txt.join sep ys)) H
      | none => False
    | _ => False
  | _, _ => False
theorem mt_joinG : MtR X "str.join" a0x := λ pins s σ H x xs v us Q I rx rs h => by
  unfold a0x at h
  split at h
  . split at h
    . split at h
      . rename_i sep l _ ys hl _ zs hz
        obtain ⟨t, rfl⟩ := rx
        obtain ⟨u, rfl, ru⟩ := x0 rs
        cases ru
        obtain ⟨its, r, li⟩ := z6 I hl
        exact join_list li (by simpa using a0w r hz) h.1 λ t' k => ⟨.str _, H, I.tok k, ⟨t', rfl⟩, h.2⟩
      . exact h.elim
    . exact h.elim
  . exact h.elim
end
def RawD (h : Heap) (d : Addr) (es : Array DictEntry) (ep : Nat) : Prop := ∃ o, h.get? d = some o /\ o.ExactDict /\ o.data = .dict es ep
section
variable {prog : Program} {w : World} {A : Around} {E : Value -> Shared -> Prop} {s : Shared} {d it : Addr} {es : Array DictEntry} {ep i : Nat}
theorem RawD.typeIs (r : RawD s.heap d es ep) : s.TypeIs (.ref d) "dict" := by
  obtain ⟨o, h1, h2, h3⟩ := r
  exact ⟨o, h1, h2.1⟩
theorem raw_iter {Q : Value -> Shared -> Prop} (lo : (d == sysModules) = false) (r : RawD s.heap d es ep)
    (q : Q (.ref s.heap.objs.size) { s with heap := s.heap.push { cls := .type "dict_keyiterator", data := .fields #[.ref d, .int 0 0, .int es.size 0, .int ep 0] } }) : wpAny (model prog w) A (pyIter (.ref d)) Q E s := by
  have ty := r.typeIs
  obtain ⟨o, h1, h2, h3⟩ := r
  refine wpAny_pyIter_slot ty F.slot_dict_iter (wpAny_call_entry F.slot_dict_iter ty F.entry_dict_iter ?_ (F.args_dict_iter_1 _))
  show wpAny _ _ (Builtin.Dict.dictSlotNone _ _ >>= _) _ _ s
  refine wpAny_bind (wpAny_bind (wpAny_notOrdered_dict ty (show wpAny _ _ (pure (Value.ref d)) _ _ s from wpAny_pure ?_)))
  show wpAny _ _ ((if (d == sysModules) = true then _ else _) >>= _) _ _ s
  rw [if_neg (by rw [lo]; decide)]
  refine wpAny_bind (wpAny_pure (wpAny_bind (wpAny_dictEntries h1 h3 (wpAny_bind (wpAny_dictEpoch h1 h3 (wpAny_bind (wpAny_newObj_type (wpAny_pure ⟨_, rfl, "dict_keyiterator", _, ⟨_, Heap.get?_push_size _ rfl, rfl⟩, F.slot_dict_keyiterator_next.lookup, ?_⟩))))))))
  simpa [rawInt] using q
theorem raw_next {e : DictEntry} {Q : Option Value -> Shared -> Prop} (k : s.heap.IsKeyIter it d i es.size ep) (r : RawD s.heap d es ep) (he : es[i]? = some e)
    (q : ∀ h' : Heap, h'.IsKeyIter it d (i + 1) es.size ep -> Heap.SameBut it s.heap h' -> Q (some e.key) { s with heap := h' }) : wpAny (model prog w) A (pyNext (.ref it)) Q E s := by
  have ty := k.typeIs
  obtain ⟨o, k1, k2, k3⟩ := id k
  obtain ⟨b, h1, h2, h3⟩ := r
  unfold pyNext
  refine wpAny_bind (wpAny_attempt (wpAny_callSpecial?_slot (name := Str.ofString "__next__") ty F.slot_dict_keyiterator_next (wpAny_call_entry F.slot_dict_keyiterator_next ty F.entry_dict_keyiterator_next ?_ (F.args_dict_keyiterator_next_1 _))))
  refine wpAny_bind (wpAny_pure (wpAny_bind (wpAny_bind (wpAny_bind (wpAny_typeNameOfWhole_keyiter ty (wpAny_pure (wpAny_bind (wpAny_fieldsOf k1 k3 ?_))))))))
  rw [show Builtin.Dict_items.ownsTuple "dict_keyiterator" = false by decide]
  simp only [Bool.false_eq_true, if_false]
  show wpAny _ _ (if (Value.ref d == Value.none) = true then _ else _) _ _ s
  rw [if_neg (show ¬ ((Value.ref d == Value.none) = true) from Bool.false_ne_true)]
  refine wpAny_bind (wpAny_pure (wpAny_bind (wpAny_dictEntries h1 h3 ?_)))
  rw [if_neg (by simp)]
  refine wpAny_bind (wpAny_pure (wpAny_bind (wpAny_dictEpoch h1 h3 ?_)))
  rw [if_neg (by simp)]
  refine wpAny_pure ?_
  have hi : i < es.size := (Array.getElem?_eq_some_iff.mp he).1
  simp only [show ¬ ((i : Int) < 0) from by omega, if_false, Int.toNat_natCast, he]
  refine wpAny_bind (wpAny_bind (wpAny_typeNameOfWhole_keyiter ty (wpAny_pure (wpAny_bind (wpAny_isOneOf_keyiter ty ?_)))))
  show wpAny _ _ (setField (.ref it) 1 (rawInt ((i : Int) + 1)) >>= _) _ _ s
  have k' : (s.heap.update it (Obj.mapFields (·.setIfInBounds 1 (rawInt ((i : Int) + 1))))).IsKeyIter it d (i + 1) es.size ep := ⟨_, Heap.get?_update_self _ k1 (Obj.isFreed_of_fields (Obj.data_mapFields k3 _)), (Obj.cls_mapFields ..).trans k2, by rw [Obj.data_mapFields k3]; simp [rawInt]⟩
  refine wpAny_bind (wpAny_setField k1 k3 (by simp) (wpAny_bind (wpAny_holding (wpAny_bind (wpAny_isOneOf_keyiter (s := { s with heap := s.heap.update it (Obj.mapFields (·.setIfInBounds 1 (rawInt ((i : Int) + 1)))) }) k'.typeIs ?_)))))
  show wpAny _ _ (pure e.key) _ _ _
  exact wpAny_pure (wpAny_pure ⟨_, rfl, wpAny_pure (q _ k' (Heap.SameBut.update ..))⟩)
theorem raw_end {Q : Option Value -> Shared -> Prop} (hh : A.handled = none) (k : s.heap.IsKeyIter it d i es.size ep) (r : RawD s.heap d es ep) (he : es.size <= i)
    (q : ∀ h' : Heap, Heap.ExtBut it s.heap h' -> Q none { s with heap := h' }) : wpAny (model prog w) A (pyNext (.ref it)) Q E s := by
  have ty := k.typeIs
  obtain ⟨o, k1, k2, k3⟩ := id k
  obtain ⟨b, h1, h2, h3⟩ := r
  unfold pyNext
  refine wpAny_bind (wpAny_attempt (wpAny_callSpecial?_slot (name := Str.ofString "__next__") ty F.slot_dict_keyiterator_next (wpAny_call_entry F.slot_dict_keyiterator_next ty F.entry_dict_keyiterator_next ?_ (F.args_dict_keyiterator_next_1 _))))
  refine wpAny_bind (wpAny_pure (wpAny_bind (wpAny_bind (wpAny_bind (wpAny_typeNameOfWhole_keyiter ty (wpAny_pure (wpAny_bind (wpAny_fieldsOf k1 k3 ?_))))))))
  rw [show Builtin.Dict_items.ownsTuple "dict_keyiterator" = false by decide]
  simp only [Bool.false_eq_true, if_false]
  show wpAny _ _ (if (Value.ref d == Value.none) = true then _ else _) _ _ s
  rw [if_neg (show ¬ ((Value.ref d == Value.none) = true) from Bool.false_ne_true)]
  refine wpAny_bind (wpAny_pure (wpAny_bind (wpAny_dictEntries h1 h3 ?_)))
  rw [if_neg (by simp)]
  refine wpAny_bind (wpAny_pure (wpAny_bind (wpAny_dictEpoch h1 h3 ?_)))
  rw [if_neg (by simp)]
  refine wpAny_pure ?_
  simp only [show ¬ ((i : Int) < 0) from by omega, if_false, Int.toNat_natCast, Array.getElem?_eq_none he]
  refine wpAny_bind (wpAny_bind (wpAny_typeNameOfWhole_keyiter ty (wpAny_pure ?_)))
  show wpAny _ _ (setField (.ref it) 0 .none >>= _) _ _ s
  refine wpAny_bind (wpAny_setField k1 k3 (by simp) ?_)
  show wpAny _ _ (newExc (.type "StopIteration") [] >>= _) _ _ _
  refine wpAny_bind ?_
  simp only [newExc, newTuple]
  refine wpAny_bind (wpAny_newObj_type (wpAny_bind (m := firstArgMember _ _) (wpAny_of_eq (a := Value.none) (by first | rfl | (simp only [firstArgMember]; rfl)) (wpAny_newObj_type ?_ (by size_fits)))) (by size_fits))
  simp only [raiseNew]
  refine wpAny_bind (wpAny_handled ?_)
  rw [show A.in1.handled = none from hh]
  refine wpAny_bind (wpAny_pure (wpAny_throw ?_))
  refine wpAny_bind (wpAny_isInstance (T := "StopIteration") (b := true) ⟨_, Heap.get?_push_size _ rfl, rfl⟩ isSubtype_stop ?_)
  exact wpAny_pure (q _ (((Heap.SameBut.update ..).extBut.push _).push _))
end
section
variable {X : Cx} {pins : List (Addr × Obj)} {σ : St} {H : Hp} {s : Shared}
theorem dT_raw (I : Inv X pins σ H s) {a : Addr} {kvs : List (List Key × V)} (h : Rd H a (.dT kvs)) : (a == sysModules) = false /\ kvs.length <= sizeLine /\ ∃ (xs : List (List Key × Addr × Value)) (es : Array DictEntry) (ep : Nat),
    KT H kvs xs /\ es.toList = xs.map (entryOfKey (tupleKind (e7 X.prog X.w))) /\ RawD s.heap a es ep := by
  have ok : ObjOk X.prog X.w H s.heap a (.dT kvs) := by
    rcases h with h | ⟨o, h⟩
    . exact I.hok a _ h
    . exact (I.hok a _ h).2
  obtain ⟨z, lo, xs, pr, o, es, ep, e1, e2, e3, e4, _⟩ := ok
  exact ⟨lo, z, xs, es, ep, pr, e4, o, e1, e2, e3⟩
end
section
variable {prog : Program} {w : World} {A : Around} {E : Value -> Shared -> Prop} {s : Shared} {d : Addr} {es : Array DictEntry} {ep : Nat}
theorem raw_len {Q : Value -> Shared -> Prop} (lo : (d == sysModules) = false) (r : RawD s.heap d es ep) (fit : (es.size : Int) < 2 ^ 63) (q : Q (.int es.size (s.toks + 1)) { s with toks := s.toks + 1 + 1 }) : wpAny (model prog w) A (call (.builtin "len") [.ref d]) Q E s := by
  have ty := r.typeIs
  have ml : MeetsIn prog w (Builtin.«dict.__len__» ⟨[.ref d], []⟩) (λ _ R s => ∃ es ep, RawD s.heap d es ep /\ R (.ok (.ret (.int es.size s.toks))) { s with toks := s.toks + 1 }) := .of_wp λ A R s ⟨es, ep, ⟨o, h1, h2, h3⟩, h⟩ => by
    show wpAny _ _ (dictSize d >>= _) _ _ s
    unfold dictSize
    refine wpAny_bind (wpAny_bind (wpAny_dictEntries h1 h3 (wpAny_pure ?_)))
    show wpAny _ _ (Builtin.Dict.pendingCount d >>= _) _ _ s
    refine wpAny_bind (wpAny_pendingCount_other lo (wpAny_ret_mkInt ?_))
    rw [Nat.add_zero]
    exact h
  refine Calls.call_function_entry kind_len plain_len entry_len (args_len1 _) ?_
  unfold Builtin.«len»
  refine wpAny_bind (m := oneArg "len" _) (wpAny_pure (wpAny_bind (m := callSpecial? (.ref d) (Str.ofString "__len__")) (wpAny_callSpecial?_slot (name := Str.ofString "__len__") ty F.slot_dict_len (call_meetsIn F.slot_dict_len ty F.entry_dict_len (F.args_dict_len_1 _) ml ⟨es, ep, r, ?_⟩))))
  show wpAny _ _ _ _ _ { s with toks := s.toks + 1 }
  refine wpAny_bind (wpAny_holding (wpAny_pure (wpAny_bind (wpAny_letGo ?_))))
  show wpAny _ _ (if ((es.size : Nat) : Int) < 0 then _ else _) _ _ _
  rw [if_neg (by omega)]
  show wpAny _ _ (if ((es.size : Nat) : Int) ≥ 2 ^ 63 then _ else _) _ _ _
  rw [if_neg (by omega)]
  exact wpAny_bind (wpAny_mkInt (wpAny_pure ⟨_, rfl, q⟩))
end
section
variable {X : Cx}
theorem call_lenT : CallR X (.builtin "len") (λ xs H Q => ∃ a kvs, xs = [V.ref a] /\ Rd H a (.dT kvs) /\ Q (.int kvs.length) H) := by
  intro pins s σ H xs us Q I r h
  obtain ⟨a, kvs, rfl, ha, q⟩ := h
  obtain ⟨u, rfl, ru⟩ := x0 r
  cases ru
  obtain ⟨lo, z, xs, es, ep, pr, e4, rd⟩ := dT_raw I ha
  have hl : es.size = kvs.length := by
    rw [<- Array.length_toList, e4, List.length_map]
    exact (Paired.length pr).symm
  refine raw_len lo rd (by rw [hl]; rw [sizeLine_eq] at z; omega) ⟨.int kvs.length, H, I.tok _, ⟨_, by rw [hl]⟩, q⟩
end
section
variable {prog : Program} {w : World} {A : Around} {E : Value -> Shared -> Prop} {s : Shared} {es : Array DictEntry} {ep i : Nat} {d it : Addr}
theorem RawD.at {h h' : Heap} (r : RawD h d es ep) (k : ∀ o, h.get? d = some o -> h'.get? d = some o) : RawD h' d es ep := by
  obtain ⟨o, z1, z2⟩ := r
  exact ⟨o, k o z1, z2⟩
theorem raw_walks (hh : A.handled = none) (I : Addr) (hne : d ≠ I) : Walks prog w A I [I, d] [I] es.size (λ i v => ∃ e, es[i]? = some e /\ v = e.key) (λ i h => h.IsKeyIter I d i es.size ep /\ RawD h d es ep) where
  sub := λ b hb => by rw [List.mem_singleton.mp hb]; simp
  frame := λ _ _ _ st k => ⟨st.1.at λ o e => k I (by simp) o e, st.2.at λ o e => k d (by simp) o e⟩
  item := λ i s Q E hi st q => raw_next st.1 st.2 (Array.getElem?_eq_getElem hi) λ h' st' sb => q _ h' s.toks ⟨_, Array.getElem?_eq_getElem hi, rfl⟩ ⟨st', st.2.at λ o e => sb.extBut d o hne e⟩ λ b o hb e => sb.extBut b o (λ z => hb (by simp [z])) e
  done := λ s Q E st q => raw_end hh st.1 st.2 (Nat.le_refl _) λ h' x => q h' s.toks λ b o hb e => x b o (λ z => hb (by simp [z])) e
  self := λ _ _ _ _ st q => wpAny_pyIter_keyiter st.1 q
theorem raw_src (lo : (d == sysModules) = false) : PySem.W.KdlSrc prog w "dict" d d es.size (λ i v => ∃ e, es[i]? = some e /\ v = e.key) (λ h => RawD h d es ep) where
  type := λ _ r => r.typeIs
  there := λ _ r => by obtain ⟨o, z, _⟩ := r; exact ⟨Heap.lt_size z, Heap.lt_size z⟩
  keep := λ _ _ r k => r.at λ o e => k d (.inl rfl) o e
  notList := by decide
  notTuple := by decide
  hint := λ _ _ _ _ r q => PySem.W.kdl_hint_dict r.typeIs q
  iter := λ _ s hh r => ⟨_, _, (λ _ _ q => raw_iter lo r q), raw_walks hh _ (by obtain ⟨o, z, _⟩ := r; exact Nat.ne_of_lt (Heap.lt_size z)), ⟨⟨_, Heap.get?_push_size _ rfl, rfl, rfl⟩, r.at λ o e => Heap.get?_push_of_some _ e⟩⟩
end
section
variable {X : Cx} {pins : List (Addr × Obj)} {σ : St} {H : Hp} {s : Shared}
abbrev KeysAt (H : Hp) : List (List Key × V) -> List Addr -> Prop := Paired λ kv t => H t = some (.tup (kv.1.map kV))
@[irreducible] def Z6 (kvs : List (List Key × V)) (H : Hp) (Q : VK) : Prop := ∀ ts, KeysAt H kvs ts -> newO H (.lst (ts.map V.ref)) Q
theorem kt_keys : ∀ {kvs : List (List Key × V)} {xs : List (List Key × Addr × Value)}, KT H kvs xs -> KeysAt H kvs (xs.map λ x => x.2.1) := λ h => by
  induction h with
  | nil => exact .nil
  | cons h t ih => exact .cons h.2.1 ih
theorem a1J : ∀ (ts : List Addr) (us : List Value), us.length = ts.length -> (∀ (j : Nat) (u : Value), us[j]? = some u -> ∃ t, ts[j]? = some t /\ u = .ref t) -> Vals (ts.map V.ref) us
  | [], [], _, _ => .nil
  | [], _ :: _, h, _ => by simp at h
  | _ :: _, [], h, _ => by simp at h
  | t :: ts, u :: us, hl, h => by
    obtain ⟨t', e, rfl⟩ := h 0 u rfl
    simp at e
    subst e
    exact .cons rfl (a1J ts us (by simpa using hl) λ j w hj => h (j + 1) w (by simpa using hj))
theorem list_dT (hc : X.calm = true) (I : Inv X pins σ H s) {a : Addr} {kvs : List (List Key × V)} (h : Rd H a (.dT kvs)) {Q : VK} (q : Z6 kvs H Q) : wpAny (model X.prog X.w) X.A (call (.type "list") [.ref a]) (EP X pins σ Q) X.xe s := by
  obtain ⟨lo, z, xs, es, ep, kt, e4, r⟩ := dT_raw I h
  have hl : es.size = xs.length := by rw [<- Array.length_toList, e4, List.length_map]
  have hk : xs.length = kvs.length := (Paired.length kt).symm
  unfold Z6 at q
  refine PySem.W.kdl_call (raw_src (es := es) (ep := ep) lo) (I.ok.hd hc) r (by omega) λ h' tk acc c k hD ha => ?_
  have rv : Vals ((xs.map λ x => x.2.1).map V.ref) acc.toList := a1J _ _ (by rw [Array.length_toList, List.length_map, ha.1, hl]) λ j u hu => by
    obtain ⟨e, e1, rfl⟩ := ha.2 j u (by rw [<- Array.getElem?_toList]; exact hu)
    rw [<- Array.getElem?_toList, e4, List.getElem?_map] at e1
    cases hx : xs[j]? with
    | none => rw [hx] at e1; cases e1
    | some x =>
      rw [hx] at e1
      cases e1
      exact ⟨x.2.1, by rw [List.getElem?_map, hx]; rfl, rfl⟩
  refine ⟨.ref s.heap.objs.size, _, I.laid (t' := tk) k (Nat.le_refl _) (o := .lst ((xs.map λ x => x.2.1).map V.ref)) ?_, rfl, (q _ (kt_keys kt)).at _ (I.hok.fresh (Nat.le_refl _))⟩
  exact ⟨by rw [List.length_map, List.length_map, hk]; exact z, acc.toList, c, rv, by rw [Array.toArray_toList]; exact hD⟩
theorem int_text {z : Str} {t : Tok} {n : Int} (I : Inv X pins σ H s) (hz : z.length <= 640) (hn : PySem.intText? z = some n) {Q : VK} (q : Q (.int n) H) : wpAny (model X.prog X.w) X.A (call (.type "int") [.str z t]) (EP X pins σ Q) X.xe s :=
  PySem.W.KIN.call_text hn hz ⟨.int n, H, I.tok _, ⟨_, rfl⟩, q⟩
end
section
variable {X : Cx}
def rInsAt : V -> List V -> Hp -> VK -> Prop := λ x vs H Q => ∃ l xs y, ∃ i : Nat, x = .ref l /\ vs = [.int i, y] /\ H l = some (.lst xs) /\ i <= xs.length /\ xs.length < sizeLine /\ Q .non (upd H l (.lst (xs.take i ++ y :: xs.drop i)))
theorem vals_two {a b : V} {us : List Value} (h : Vals [a, b] us) : ∃ u w, us = [u, w] /\ RelV a u /\ RelV b w := by
  cases h with
  | cons h1 t =>
    cases t with
    | cons h2 t =>
      cases t
      exact ⟨_, _, rfl, h1, h2⟩
theorem a1K {xs : List V} {us : List Value} (h : Vals xs us) : ∀ i : Nat, Vals (xs.take i) (us.take i) /\ Vals (xs.drop i) (us.drop i) := by
  induction h with
  | nil => intro i; cases i <;> exact ⟨.nil, .nil⟩
  | cons h t ih =>
    intro i
    cases i with
    | zero => exact ⟨.nil, .cons h t⟩
    | succ i => exact ⟨.cons h (ih i).1, (ih i).2⟩
theorem mt_insAt : MtM X "list.insert" rInsAt := by
  intro pins s σ H x vs v us Q I rx rv h
  obtain ⟨l, xs, y, i, rfl, rfl, hH, hi, hz, q⟩ := h
  cases rx
  obtain ⟨u, w, rfl, ⟨t, rfl⟩, rw'⟩ := vals_two rv
  obtain ⟨z, its, n, r, hl, e⟩ := I.lstM hH
  have fit : Builtin.List.listFitsIndex (i : Int) = true := by
    unfold Builtin.List.listFitsIndex
    have hs : sizeLine = 16777216 := sizeLine_eq
    simp only [Bool.and_eq_true, decide_eq_true_eq]
    omega
  have no : ¬ (!Builtin.List.listFitsIndex (i : Int)) = true := by
    rw [fit]
    exact Bool.false_ne_true
  have hz2 : its.toArray.size <= sizeLine := by
    rw [List.size_toArray, <- hl]
    exact Nat.le_of_lt hz
  generalize hx : ((i : Nat) : Int) = x at no ⊢
  refine call_meets F.slot_list_insert ⟨_, e, rfl⟩ F.entry_list_insert (F.args_list_insert_3 _ _ _) (AutoSeq1.list_insert_list_int_val_1 l its.toArray n x t w no hz2) ⟨e, ?_⟩
  subst hx
  refine ⟨.non, _, I.lset (its' := its.take i ++ w :: its.drop i) hH e ?_ ((a1K r i).1.append (.cons rw' (a1K r i).2)) ?_, rfl, q⟩
  . have : ¬ ((i : Int) < 0) := by omega
    simp only [this, if_false, Int.toNat_natCast, List.size_toArray]
    rw [Nat.min_eq_left (by omega)]
    simp [List.take_of_length_le]
  . rw [List.length_append, List.length_cons, List.length_take, List.length_drop]
    omega
end
section
variable {X : Cx} {o e : Expr} {es : List Expr} {to : TE} {t : TA} {pos apos cpos : Pos}
def i0 : Expr -> Bool
  | .Starred _ _ => true
  | _ => false
theorem e8 {env : Env} (h : i0 e = false) : starEach (e :: es) env = (false, eval e env) :: starEach es env := by
  cases e <;> first | rfl | cases h
theorem d9 {env : Env} : ∀ {es : List Expr}, es.any i0 = false -> (backTo pos (starEach es env)).any (·.1) = false /\ (backTo pos (starEach es env)).all (λ x => !x.1) = true
  | [], _ => ⟨rfl, rfl⟩
  | e :: es, h => by
    rw [List.any_cons, Bool.or_eq_false_iff] at h
    obtain ⟨i1, i2⟩ := d9 (env := env) h.2
    rw [e8 h.1]
    exact ⟨by simpa [backTo] using i1, by simpa [backTo] using i2⟩
@[irreducible] def lenH (p : Addr) (H : Hp) (Q : VK) : Prop := match H p with
  | some (.lst ys) => Q (.int ys.length) H
  | some (.tup ys) => Q (.int ys.length) H
  | some (.dK kvs) => Q (.int kvs.length) H
  | some (.dT kvs) => Q (.int kvs.length) H
  | some (.frz _ (.dT kvs)) => Q (.int kvs.length) H
  | _ => False
def x4 : List V -> Hp -> VK -> Prop := λ xs H Q => match xs with
  | [.str z] => z.length <= sizeLine /\ Q (.int z.length) H
  | [.ref p] => lenH p H Q
  | _ => False
theorem call_lenG : CallR X (.builtin "len") x4 := CallR.imp (CallR.or a2y (CallR.or T0 (CallR.or call_lenD call_lenT))) λ xs H Q h => by
  unfold x4 at h
  split at h
  . exact .inl ⟨_, rfl, h⟩
  . unfold lenH at h
    split at h
    . exact .inr (.inl ⟨_, _, rfl, .inl (.inl (.inl (by assumption))), h⟩)
    . exact .inr (.inl ⟨_, _, rfl, .inr (.inl (.inl (by assumption))), h⟩)
    . exact .inr (.inr (.inl ⟨_, _, rfl, by assumption, h⟩))
    . exact .inr (.inr (.inr ⟨_, _, rfl, .inl (by assumption), h⟩))
    . exact .inr (.inr (.inr ⟨_, _, rfl, .inr ⟨_, by assumption⟩, h⟩))
    . exact h.elim
  . exact h.elim
def okTy (T : String) : Bool := ["str", "int", "bool", "list", "tuple", "dict"].contains T
@[irreducible] def V3 : List V -> Hp -> VK -> Prop := λ xs H Q => match xs with
  | [x, .ty T] => okTy T = true /\ match v7 H x with
    | some S => Q (.bl (K1 S T)) H
    | none => False
  | _ => False
theorem call_isiG : CallR X (.builtin "isinstance") V3 := CallR.imp call_isi λ xs H Q h => by
  unfold V3 at h
  split at h
  . obtain ⟨h1, h⟩ := h
    split at h
    . exact ⟨_, _, _, rfl, by assumption, by simpa [okTy] using h1, h⟩
    . exact h.elim
  . exact h.elim
def X8 : List V -> Option (List Bool)
  | [] => some []
  | .bl b :: r => (X8 r).map (b :: ·)
  | _ => none
theorem a1L : ∀ {xs : List V} {bs : List Bool}, X8 xs = some bs -> xs = bs.map V.bl
  | [], bs, h => by cases h; rfl
  | x :: r, bs, h => by
    cases x <;> first | (cases h; done) | skip
    rename_i b
    unfold X8 at h
    cases e : X8 r with
    | none => rw [e] at h; cases h
    | some cs => rw [e] at h; cases h; rw [a1L e]; rfl
@[irreducible] def allG : List V -> Hp -> VK -> Prop := λ xs H Q => match xs with
  | [.ref p] => match H p with
    | some (.lst ys) => match X8 ys with
      | some bs => Q (.bl (bs.all id)) H
      | none => False
    | _ => False
  | _ => False
theorem call_allG (hc : X.calm = true) : CallR X (.builtin "all") allG := CallR.imp (call_all0 hc) λ xs H Q h => by
  unfold allG at h
  split at h
  . split at h
    . split at h
      . rename_i ys hy _ bs hb
        refine ⟨_, bs, rfl, .inl ?_, h⟩
        rw [<- a1L hb]
        exact hy
      . exact h.elim
    . exact h.elim
  . exact h.elim
@[irreducible] def C0 : List V -> Hp -> VK -> Prop := λ xs H Q => match xs with
  | [.str z] => z.length <= sizeLine /\ newO H (.lst (z.cps.toList.map λ c => V.str ⟨#[c]⟩)) Q
  | [.ref p] => match H p with
    | some (.lst ys) => newO H (.lst ys) Q
    | some (.tup ys) => newO H (.lst ys) Q
    | some (.dK kvs) => newO H (.lst (kvs.map λ kv => kV kv.1)) Q
    | some (.frz _ (.dK kvs)) => newO H (.lst (kvs.map λ kv => kV kv.1)) Q
    | some (.dT kvs) => Z6 kvs H Q
    | some (.frz _ (.dT kvs)) => Z6 kvs H Q
    | _ => False
  | _ => False
theorem a4N (hc : X.calm = true) : CallR X (.type "list") C0 := λ pins s σ H xs us Q I r h => by
  unfold C0 at h
  split at h
  . obtain ⟨u, rfl, ru⟩ := x0 r
    obtain ⟨t, rfl⟩ := ru
    exact list_text hc I h.1 h.2
  . split at h
    . exact T1 pins s σ H _ us Q I r ⟨_, _, rfl, .inl (.inl (.inl (by assumption))), h.at⟩
    . exact T1 pins s σ H _ us Q I r ⟨_, _, rfl, .inr (.inl (.inl (by assumption))), h.at⟩
    . obtain ⟨u, rfl, ru⟩ := x0 r
      cases ru
      exact a1I hc I (.inl (by assumption)) h
    . obtain ⟨u, rfl, ru⟩ := x0 r
      cases ru
      exact a1I hc I (.inr ⟨_, by assumption⟩) h
    . obtain ⟨u, rfl, ru⟩ := x0 r
      cases ru
      exact list_dT hc I (.inl (by assumption)) h
    . obtain ⟨u, rfl, ru⟩ := x0 r
      cases ru
      exact list_dT hc I (.inr ⟨_, by assumption⟩) h
    . exact h.elim
  . exact h.elim
@[irreducible] def V4 : List V -> Hp -> VK -> Prop := λ xs H Q => match xs with
  | [.ref p] => match H p with
    | some (.lst ys) => newO H (.tup ys) Q
    | some (.tup ys) => Q (.ref p) H
    | _ => False
  | _ => False
theorem a3G : CallR X (.type "tuple") V4 := CallR.imp a1f λ xs H Q h => by
  unfold V4 at h
  split at h
  . split at h
    . exact ⟨_, _, rfl, .inl ⟨.inl (.inl (by assumption)), h.at⟩⟩
    . exact ⟨_, _, rfl, .inr ⟨.inl (.inl (by assumption)), h⟩⟩
    . exact h.elim
  . exact h.elim
def strG : List V -> Hp -> VK -> Prop := λ xs H Q => match xs with
  | [.int i] => i.natAbs.log2 < 1920 /\ Q (.str (toString i)) H
  | _ => False
theorem call_strG : CallR X (.type "str") strG := CallR.imp a2q λ xs H Q h => by
  unfold strG at h
  split at h
  . exact ⟨_, rfl, h⟩
  . exact h.elim
def intG : List V -> Hp -> VK -> Prop := λ xs H Q => match xs with
  | [.int i] => Q (.int i) H
  | [.bl k] => Q (.int (if k then 1 else 0)) H
  | [.str z] => z.length <= 640 /\ ∃ n, PySem.intText? z = some n /\ Q (.int n) H
  | _ => False
theorem call_intG : CallR X (.type "int") intG := λ pins s σ H xs us Q I r h => by
  unfold intG at h
  split at h
  . exact a1p pins s σ H _ us Q I r (.inl ⟨_, rfl, h⟩)
  . exact a1p pins s σ H _ us Q I r (.inr ⟨_, rfl, h⟩)
  . obtain ⟨u, rfl, ru⟩ := x0 r
    obtain ⟨t, rfl⟩ := ru
    obtain ⟨hz, n, hn, q⟩ := h
    exact int_text I hz hn q
  . exact h.elim
def bltF (x : Str) : Option (String × (List V -> Hp -> VK -> Prop)) :=
  if x = "len" then some ("len", x4) else if x = "isinstance" then some ("isinstance", V3) else if x = "all" then some ("all", allG)
  else none
def bltC (x : Str) : Option (String × (List V -> Hp -> VK -> Prop)) :=
  if x = "list" then some ("list", C0) else if x = "tuple" then some ("tuple", V4) else if x = "str" then some ("str", strG) else if x = "int" then some ("int", intG) else none
theorem bltF_ok (hc : X.calm = true) {x : Str} {i : String} {r : List V -> Hp -> VK -> Prop} (h : bltF x = some (i, r)) : CallR X (.builtin i) r /\ bootBuiltins x = some (.builtin i) /\ x ≠ "__name__" /\ (x == ("__debug__" : Str)) = false := by
  unfold bltF at h
  split at h
  . rename_i e; cases h; subst e; exact ⟨call_lenG, by decide +kernel, by decide +kernel, by decide +kernel⟩
  split at h
  . rename_i e; cases h; subst e; exact ⟨call_isiG, by decide +kernel, by decide +kernel, by decide +kernel⟩
  split at h
  . rename_i e; cases h; subst e; exact ⟨call_allG hc, by decide +kernel, by decide +kernel, by decide +kernel⟩
  cases h
theorem bltC_ok (hc : X.calm = true) {x : Str} {i : String} {r : List V -> Hp -> VK -> Prop} (h : bltC x = some (i, r)) : CallR X (.type i) r /\ bootBuiltins x = some (.type i) /\ x ≠ "__name__" /\ (x == ("__debug__" : Str)) = false := by
  unfold bltC at h
  split at h
  . rename_i e; cases h; subst e; exact ⟨a4N hc, by decide +kernel, by decide +kernel, by decide +kernel⟩
  split at h
  . rename_i e; cases h; subst e; exact ⟨a3G, by decide +kernel, by decide +kernel, by decide +kernel⟩
  split at h
  . rename_i e; cases h; subst e; exact ⟨call_strG, by decide +kernel, by decide +kernel, by decide +kernel⟩
  split at h
  . rename_i e; cases h; subst e; exact ⟨call_intG, by decide +kernel, by decide +kernel, by decide +kernel⟩
  cases h
def tyName (x : Str) : Option String :=
  if x = "int" then some "int" else if x = "str" then some "str" else if x = "bool" then some "bool" else if x = "list" then some "list" else if x = "tuple" then some "tuple" else if x = "dict" then some "dict" else if x = "ValueError" then some "ValueError" else none
theorem tyName_ok {x : Str} {i : String} (h : tyName x = some i) : bootBuiltins x = some (.type i) /\ x ≠ "__name__" /\ (x == ("__debug__" : Str)) = false := by
  unfold tyName at h
  repeat
    split at h
    . rename_i e; cases h; subst e; exact ⟨by decide +kernel, by decide +kernel, by decide +kernel⟩
  cases h
def tyB (H : Hp) : V -> Option String
  | .str _ => some "str"
  | .ref p => match H p with
    | some (.lst _) => some "list"
    | some (.dK _) => some "dict"
    | some (.dT _) => some "dict"
    | _ => none
  | _ => none
theorem tyB_ok {K : PySem.W.Frag} {H : Hp} {x : V} {T : String} (h : tyB H x = some T) : tyV K T x H := by
  unfold tyB at h
  split at h
  . cases h; rfl
  . split at h
    . cases h; exact .inl ⟨rfl, _, .inl (.inl (by assumption))⟩
    . cases h; exact .inr (.inr (.inl ⟨rfl, .inl ⟨_, by assumption⟩⟩))
    . cases h; exact .inr (.inr (.inl ⟨rfl, .inr ⟨_, by assumption⟩⟩))
    . cases h
  . cases h
@[irreducible] def K5 : RM := λ x vs H Q => match x, vs with
  | .ref l, [y] => match H l with
    | some (.lst xs) => xs.length < sizeLine /\ Q .non (upd H l (.lst (xs ++ [y])))
    | _ => False
  | _, _ => False
theorem a4P : MtR X "list.append" K5 := λ pins s σ H x xs v us Q I rx rs h => a1D pins s σ H x xs v us Q I rx rs (by
  unfold K5 at h
  split at h
  . split at h
    . exact ⟨_, _, _, rfl, rfl, by assumption, h⟩
    . exact h.elim
  . exact h.elim)
@[irreducible] def popG : RM := λ x vs H Q => match x, vs with
  | .ref l, [.int i] => match H l with
    | some (.lst xs) => match ixN xs.length i with
      | some k => match xs[k]? with
        | some y => (-(2 ^ 63) <= i /\ i < 2 ^ 63) /\ Q y (upd H l (.lst (xs.eraseIdx k)))
        | none => False
      | none => False
    | _ => False
  | _, _ => False
theorem mt_popG : MtR X "list.pop" popG := λ pins s σ H x xs v us Q I rx rs h => mt_popAt pins s σ H x xs v us Q I rx rs (by
  unfold popG at h
  split at h
  . split at h
    . split at h
      . split at h
        . rename_i k hk _ y hy
          exact ⟨_, _, _, k, y, rfl, rfl, by assumption, h.1.1, h.1.2, (a2v hk).1, hy, h.2⟩
        . exact h.elim
      . exact h.elim
    . exact h.elim
  . exact h.elim)
@[irreducible] def insG : RM := λ x vs H Q => match x, vs with
  | .ref l, [.int i, y] => match H l with
    | some (.lst xs) => (0 <= i /\ i <= xs.length /\ xs.length < sizeLine) /\ Q .non (upd H l (.lst (xs.take i.toNat ++ y :: xs.drop i.toNat)))
    | _ => False
  | _, _ => False
theorem mt_insG : MtR X "list.insert" insG := λ pins s σ H x xs v us Q I rx rs h => mt_insAt pins s σ H x xs v us Q I rx rs (by
  unfold insG at h
  split at h
  . rename_i l i y
    split at h
    . rename_i xs e
      obtain ⟨⟨h0, h1, h2⟩, q⟩ := h
      obtain ⟨k, rfl⟩ : ∃ k : Nat, i = k := ⟨i.toNat, by omega⟩
      exact ⟨l, xs, y, k, rfl, rfl, e, by omega, h2, q⟩
    . exact h.elim
  . exact h.elim)
@[irreducible] def V5 : RM := λ x vs H Q => match x, vs with
  | .str z, [.str y] => z.length + 2 <= sizeLine /\ (y.length == 0) = false /\ newO H (.lst ((PySem.Txt.split z y).map V.str)) Q
  | _, _ => False
theorem a3H : ∀ l : List (Str × Tok), Vals ((l.map (·.1)).map V.str) (strValues l)
  | [] => .nil
  | p :: r => .cons ⟨p.2, rfl⟩ (a3H r)
theorem mt_splitG : MtR X "str.split" V5 := λ pins s σ H x xs v us Q I rx rs h => by
  unfold V5 at h
  split at h
  . rename_i z y
    obtain ⟨hz, hy, q⟩ := h
    obtain ⟨t, rfl⟩ := rx
    obtain ⟨_, rfl, u, rfl⟩ := x0 rs
    have hle := split_le z y
    have fin : ∀ (l : List (Str × Tok)) (k : Nat), l.map (·.1) = PySem.Txt.split z y -> EP X pins σ Q (.ref s.heap.objs.size) { s with heap := s.heap.push { cls := .type "list", data := .seq (strValues l).toArray }, toks := k } := λ l k e => by
      refine ⟨.ref s.heap.objs.size, _, I.laid (t' := k) (λ b o h => Heap.get?_push_of_some _ h) (Nat.le_refl _) (o := .lst ((PySem.Txt.split z y).map V.str)) ?_, rfl, q.at _ (I.hok.fresh (Nat.le_refl _))⟩
      refine ⟨by rw [List.length_map]; omega, strValues l, _, ?_, Heap.get?_push_size _ rfl⟩
      rw [<- e]
      exact a3H l
    cases h1 : (decide (z.length < y.length) || decide (Builtin.Str.strKind z < Builtin.Str.strKind y))
    . cases hf : (Builtin.Str.occurrences z y 0 z.length (z.length + 1)).isEmpty
      . have e : PySem.Txt.split z y = Builtin.Str.partsBetween z (Builtin.Str.occurrences z y 0 z.length (z.length + 1)) y.length := (if_neg (ne_true_of_eq_false h1)).trans (if_neg (ne_true_of_eq_false hf))
        refine call_meets F.slot_str_split (typeIs_str _ _ _) F.entry_str_split (F.args_str_split_2 _ _) (meets_str_split_sep z y t u h1 hy hf (by omega) (by rw [<- e]; omega)) ?_
        rw [strsFrom_eq]
        exact fin (numbered s.toks _) _ ((numbered_texts _ _).trans e.symm)
      . refine call_meets F.slot_str_split (typeIs_str _ _ _) F.entry_str_split (F.args_str_split_2 _ _) (meets_str_split_not_found z y t u h1 hy hf) ?_
        exact fin [(z, t)] s.toks ((if_neg (ne_true_of_eq_false h1)).trans (if_pos hf)).symm
    . refine call_meets F.slot_str_split (typeIs_str _ _ _) F.entry_str_split (F.args_str_split_2 _ _) (meets_str_split_cannot_occur z y t u h1) ?_
      exact fin [(z, t)] s.toks (if_pos h1).symm
  . exact h.elim
def bmR (T : String) (m : Str) : Option (String × RM) :=
  if T = "list" then
    if m = "append" then some ("list.append", K5) else if m = "pop" then some ("list.pop", popG) else if m = "insert" then some ("list.insert", insG) else none
  else if T = "dict" then
    none
  else if T = "str" then
    if m = "join" then some ("str.join", a0x) else if m = "split" then some ("str.split", V5) else none
  else none
theorem bmR_ok {k : Nat} (hr : Room k X.A) {T : String} {m : Str} {i : String} {r : RM} (h : bmR T m = some (i, r)) : PlainAttrs T /\ Slot T m i /\ typeOf (.builtin i) = pure (.type "method_descriptor") /\ MtR X i r := by
  unfold bmR at h
  split at h
  . rename_i eT
    subst eT
    split at h
    . rename_i e; cases h; subst e; exact ⟨PySem.F.plainAttrs_list, PySem.F.slot_list_append, PySem.F.type_list_append, a4P⟩
    split at h
    . rename_i e; cases h; subst e; exact ⟨PySem.F.plainAttrs_list, PySem.F.slot_list_pop, PySem.F.type_list_pop, mt_popG⟩
    split at h
    . rename_i e; cases h; subst e; exact ⟨PySem.F.plainAttrs_list, PySem.F.slot_list_insert, PySem.F.type_list_insert, mt_insG⟩
    cases h
  split at h
  . rename_i eT
    subst eT
    cases h
  split at h
  . rename_i eT
    subst eT
    split at h
    . rename_i e; cases h; subst e; exact ⟨PySem.F.plainAttrs_str, PySem.F.slot_str_join, PySem.F.type_str_join, mt_joinG⟩
    split at h
    . rename_i e; cases h; subst e; exact ⟨PySem.F.plainAttrs_str, PySem.F.slot_str_split, PySem.F.type_str_split, mt_splitG⟩
    cases h
  cases h
@[irreducible] def bmK (m : Str) (t : TA) (σ : St) (Q : VK) (x : V) (H1 : Hp) : Prop := match tyB H1 x with
  | some T => match bmR T m with
    | some (_, r) => t σ H1 λ xs H2 => r x xs H2 Q
    | none => False
  | none => False
def y4 (m : Str) (to : TE) (t : TA) : TE := λ σ H Q => to σ H (bmK m t σ Q)
theorem few_of {env : Env} (h : es.any i0 = false) (hl : es.length < 29) : ((backTo cpos (starEach es env)).all (λ x => !x.1) && (backToKw cpos (keywordEach [] env)).all (λ x => x.1.isSome)
      && decide (es.length + ([] : List Keyword).length + (if ([] : List Keyword).isEmpty then 0 else 1) < 30)) = true := by
  rw [(d9 (env := env) h).2]
  have : decide (es.length + ([] : List Keyword).length + (if ([] : List Keyword).isEmpty then 0 else 1) < 30) = true := by
    apply decide_eq_true
    simp
    omega
  rw [this]
  rfl
theorem pe_bmG {k : Nat} {m : Str} (hr : Room k X.A) (ho : PE X o to) (ha : PA X (e :: es) t) (hb : j4 o = true) (hs : (e :: es).any i0 = false) (hl : (e :: es).length < 29) (hline : (apos.endLine == cpos.line) = true) : PE X (.Call (.Attribute o m apos) (e :: es) [] cpos) (y4 m to t) := by
  intro pins s σ H Q I h
  refine wpAny_Call_method_late (B2 hb) (few_of hs hl) hline rfl (thn (ho pins s σ H _ I h) λ v s1 ⟨x, H1, I1, r1, q1⟩ => ?_)
  unfold bmK at q1
  split at q1
  . rename_i T eT
    split at q1
    . rename_i i r eb
      obtain ⟨pa, sl, hty, hm⟩ := bmR_ok hr eb
      obtain ⟨h1, h2⟩ := tyV_is I1 r1 (tyB_ok (K := X.K) eT)
      refine ⟨T, i, pa, sl, hty, h1, h2, ?_⟩
      have hA := thn (ha cpos pins s1 σ H1 _ I1 q1) λ us s2 ⟨vs, H2, I2, r2, q2⟩ => hm pins s2 σ H2 x vs v us Q I2 r1 r2 q2
      have hs' := hs
      rw [List.any_cons, Bool.or_eq_false_iff] at hs'
      rw [e8 hs'.1] at hA ⊢
      exact Calls.callWith_builtin (by show (false || (backTo cpos (starEach es X.env)).any (·.1)) = false; rw [(d9 hs'.2).1]; rfl) (Calls.evalArgs_plain hA)
    . exact q1.elim
  . exact q1.elim
theorem pe_bmG0 {k : Nat} {m : Str} (hr : Room k X.A) (ho : PE X o to) (hb : j4 o = true) (hline : (apos.endLine == cpos.line) = true) : PE X (.Call (.Attribute o m apos) [] [] cpos) (y4 m to b7) := by
  intro pins s σ H Q I h
  refine wpAny_Call_method0_late (B2 hb) hline (thn (ho pins s σ H _ I h) λ v s1 ⟨x, H1, I1, r1, q1⟩ => ?_)
  unfold bmK at q1
  split at q1
  . rename_i T eT
    split at q1
    . rename_i i r eb
      obtain ⟨pa, sl, hty, hm⟩ := bmR_ok hr eb
      obtain ⟨h1, h2⟩ := tyV_is I1 r1 (tyB_ok (K := X.K) eT)
      exact ⟨T, i, pa, sl, hty, h1, h2, Calls.callWith_builtin rfl (PySem.evalArgs_none (hm pins s1 σ H1 x [] v [] Q I1 r1 .nil q1))⟩
    . exact q1.elim
  . exact q1.elim
theorem a1M {env : Env} {m : Str} (hb : j4 o = true) (hs : es.any i0 = false) (hl : es.length < 29) (hline : (apos.endLine == cpos.line) = true) :
    eval (.Call (.Attribute o m apos) es [] cpos) env = (do
      let ov ← eval o env
      standAt apos.atName
      let (f, first) ← holding [ov] (getMethod ov m (do return (← importBound o env).getD true))
      callWith cpos f first (backTo cpos (starEach es env)) (backToKw cpos (keywordEach [] env))) := by
  rw [arm_eval_Call, B2 hb]
  have hf : methodCallForm (es.length + ([] : List Keyword).length) (backTo cpos (starEach es env)) (backToKw cpos (keywordEach [] env)) = true := few_of hs hl
  simp only [methodCall, calleeOf, methodCallPos, hf, hline, if_true, Bool.not_true, Bool.false_or, pure_bind]
theorem a0y {cl : Addr} {m : Str} {sp : Sp} {E : XK} {σ : St} {H : Hp} {Q : VK} (h : V2 cl m sp E to t σ H Q) : tMeth cl m sp [] E (moE to) t σ H Q := ⟨_, h, λ x H1 q => by
  unfold methK at q
  split at q
  . split at q
    . obtain ⟨rfl, q1, q2⟩ := q
      exact ⟨_, _, _, rfl, by assumption, q1, q2⟩
    . exact q.elim
  . exact q.elim⟩
theorem pe_methG {k : Nat} {CX : CXT} {f cl : Addr} {fd : FuncData} {ps : List Str} {sp : Sp} {E : XK} {m : Str} (ho : PE X o to) (c : Cls X.K cl) (hm : Meth X.K cl m f) (F : FnOk X.prog X.w X.K X.mg X.base CX k f fd ps sp) (hr : Room k X.A) (b : Binds X.K fd ps []) (hx : y8 CX X E) (ha : PA X (e :: es) t)
    (hb : j4 o = true) (hs : (e :: es).any i0 = false) (hl : (e :: es).length < 29) (hline : (apos.endLine == cpos.line) = true) : PE X (.Call (.Attribute o m apos) (e :: es) [] cpos) (V2 cl m sp E to t) := by
  have hs' := hs
  rw [List.any_cons, Bool.or_eq_false_iff] at hs'
  exact PE.imp (pe_meth (PE.mo ho) c hm F hr b .nil hx ha (e8 hs'.1) (d9 hs'.2).1 (a1M hb hs hl hline)) λ σ H Q h => a0y h
theorem pe_methG0 {k : Nat} {CX : CXT} {f cl : Addr} {fd : FuncData} {ps : List Str} {sp : Sp} {E : XK} {m : Str} (ho : PE X o to) (c : Cls X.K cl) (hm : Meth X.K cl m f) (F : FnOk X.prog X.w X.K X.mg X.base CX k f fd ps sp) (hr : Room k X.A) (b : Binds X.K fd ps []) (hx : y8 CX X E)
    (hb : j4 o = true) (hline : (apos.endLine == cpos.line) = true) : PE X (.Call (.Attribute o m apos) [] [] cpos) (V2 cl m sp E to b7) :=
  PE.imp (pe_meth0 (PE.mo ho) c hm F hr b .nil hx (a1M hb rfl (by decide) hline)) λ σ H Q h => a0y h
@[irreducible] def T4 : TSet := λ o i v H Q => match o with
  | .ref p => match H p with
    | some (.lst xs) => match i with
      | .int k => match ixN xs.length k with
        | some j => Q (upd H p (.lst (xs.set j v)))
        | none => False
      | _ => False
    | some (.dK kvs) => match N5 i with
      | some k => kvs.length < sizeLine /\ Q (upd H p (.dK (y0 kvs k v)))
      | none => False
    | some (.dT kvs) => match i with
      | .ref b => match H b with
        | some (.tup xs) => match K3 xs with
          | some k => kvs.length < sizeLine /\ Q (upd H p (.dT (y0 kvs k v)))
          | none => False
        | _ => False
      | _ => False
    | _ => False
  | _ => False
theorem set_G {k : Nat} (hr : Room k X.A) : PSet X T4 := λ pins s σ H o i v ov iv u Q I ro ri rv h => by
  unfold T4 at h
  split at h
  . rename_i p
    split at h
    . split at h
      . split at h
        . exact set_list pins s σ H _ _ v ov iv u Q I ro ri rv ⟨_, _, _, _, rfl, rfl, by assumption, by assumption, h⟩
        . exact h.elim
      . exact h.elim
    . split at h
      . rename_i kvs hp _ k' ek
        cases ro
        rw [T3 ek] at ri
        exact a1z (hu_of hr) I (DPut.k hp h.1) ri rv λ s' I' => ⟨_, I', h.2⟩
      . exact h.elim
    . split at h
      . split at h
        . split at h
          . rename_i kvs hp _ b _ xs hb _ k' ek
            cases ro
            rw [O9 ek] at hb
            exact a1z (hu_of hr) I (DPut.t hp hb h.1) ri rv λ s' I' => ⟨_, I', h.2⟩
          . exact h.elim
        . exact h.elim
      . exact h.elim
    . exact h.elim
  . exact h.elim
end
section
variable {X : Cx} {tg : Expr}
end
end Tv
namespace Tv
open PySem PySem.Spec PySem.Calls PyProof.Rows L2
def A7 (e : Addr) (h : Heap) : Prop := ∃ o vs, h.get? e = some o /\ o.data = .fields vs /\ vs[2]? = some .none
theorem put_one {g : Heap} {e : Addr} {oe tb : Obj} {vs : Array Value} (he : g.get? e = some oe) (hd : oe.data = .fields vs) (nf : tb.isFreed = false) :
    (∀ b o, b ≠ e -> g.get? b = some o -> ((g.push tb).update e (Obj.mapFields (·.setIfInBounds 1 (.ref g.objs.size)))).get? b = some o) ∧
    (∃ o, ((g.push tb).update e (Obj.mapFields (·.setIfInBounds 1 (.ref g.objs.size)))).get? e = some o /\ o.cls = oe.cls /\ o.data = .fields (vs.setIfInBounds 1 (.ref g.objs.size))) ∧
    ((g.push tb).update e (Obj.mapFields (·.setIfInBounds 1 (.ref g.objs.size)))).get? g.objs.size = some tb := by
  have d2 := Obj.data_mapFields hd (·.setIfInBounds 1 (Value.ref g.objs.size))
  refine ⟨λ b o n q => ?_, ⟨_, Heap.get?_update_self _ (Heap.get?_push_of_some tb he) (Obj.isFreed_of_fields d2), Obj.cls_mapFields _ _, d2⟩, ?_⟩
  . rw [Heap.get?_update_other _ _ (Ne.symm n)]
    exact Heap.get?_push_of_some _ q
  . rw [Heap.get?_update_other _ _ (Nat.ne_of_lt (Heap.lt_size he))]
    exact Heap.get?_push_size g nf
section
variable {M : Model} {A : Around} {E : Value -> Shared -> Prop} {s : Shared} {B : Heap} {env : Env} {outer : List Env} {L e : Addr} {cls a0 : Value} {Q : Unit -> Shared -> Prop}
theorem note_c {oe : Obj} {vs : Array Value} {hd0 : Value} {had : Bool} (fr : A.frames = some (env :: outer)) (fl : s.heap.FunFrames B (env :: outer)) (ef : env.frame = some L)
    (eo : s.heap.get? e = some oe) (kb : B.StaysIn s.heap) (be : B.get? e = none) (ed : oe.data = .fields vs) (sz : 2 < vs.size) (e0 : vs[0]? = some a0) (e2 : vs[2]? = some .none)
    (hq : ∀ h', Heap.HeldW B (env :: outer) e oe.cls a0 L h' -> A7 e h' -> s.heap.UpToSlots h' -> Q () { s with heap := h' }) :
    wpAny M A (do let x ← frameOf env; let pl ← entryPlaceOf L had; let y ← EntryCells.newEntry hd0 x .none (rawInt L) .none pl; setField (.ref e) 1 y) Q E s := by
  have nfr : e ∉ frs (env :: outer) := λ m => by
    obtain ⟨_, o, ho, nf⟩ := fl.mem m
    rw [eo] at ho
    cases ho
    exact nf vs ed
  refine wpAny_bind (wpAny_frameOf_fun fr fl ef λ g kg => wpAny_bind (wpAny_entryPlaceOf λ pl hpl => ?_))
  unfold EntryCells.newEntry
  unfold newFields
  refine wpAny_bind (wpAny_newObj_type ?made (hpl.sizeOk5 _ _ _ _ _))
  have ge : g.get? e = some oe := (kg.2.1 e nfr).trans eo
  have gb : B.StaysIn g := λ b o q => (kg.2.1 b λ m => by rw [(fl.mem m).1] at q; cases q).trans (kb b o q)
  refine wpAny_setField (Heap.get?_push_of_some _ ge) ed (by omega) ?_
  obtain ⟨p1, ⟨o2, p2, p3, p4⟩, p5⟩ := put_one (tb := { cls := .type "traceback", dict := none, data := .fields ([hd0, .ref L, .none, rawInt L, .none] ++ (if pl.isEmpty then List.replicate 6 Value.none else pl)).toArray }) ge ed rfl
  have un : ∀ b o, s.heap.get? b = some o -> (∀ vs, o.data ≠ .fields vs) -> b ≠ e := λ b o hb nf z => by
    rw [z, eo] at hb
    cases hb
    exact nf vs ed
  refine hq _ ⟨λ b o q => p1 b o (λ z => by rw [z, be] at q; cases q) (gb b o q), be, fl.of_keeps λ b o hb nf => ?_, ?_⟩ ?_ λ b o hb nf => ?_
  . obtain ⟨sl, q⟩ := kg.2.2 b o hb
    exact ⟨_, p1 b _ (un b o hb nf) q, rfl⟩
  . refine ⟨o2, _, g.objs.size, _, _, p2, ⟨p3, ?_⟩, p4, ?_, gb.fresh, Nat.ne_of_gt (Heap.lt_size ge), p5, rfl, ?_⟩
    . rw [Array.getElem?_setIfInBounds_ne (by decide)]
      exact e0
    . rw [Array.getElem?_setIfInBounds_self_of_lt (by omega)]
    . first | (simp; done) | (rcases hpl with rfl | ⟨_, _, _, _, _, _, _, rfl⟩ <;> simp)
  . refine ⟨o2, _, p2, p4, ?_⟩
    rw [Array.getElem?_setIfInBounds_ne (by decide)]
    exact e2
  . obtain ⟨sl, q⟩ := kg.2.2 b o hb
    exact ⟨sl, p1 b _ (un b o hb nf) q⟩
theorem note_new {oe : Obj} {vs : Array Value} (fr : A.frames = some (env :: outer)) (fl : s.heap.FunFrames B (env :: outer)) (ef : env.frame = some L)
    (eo : s.heap.get? e = some oe) (kb : B.StaysIn s.heap) (be : B.get? e = none) (ed : oe.data = .fields vs) (e0 : vs[0]? = some a0) (e1 : vs[1]? = some .none) (e2 : vs[2]? = some .none)
    (hq : ∀ h', Heap.HeldW B (env :: outer) e oe.cls a0 L h' -> A7 e h' -> s.heap.UpToSlots h' -> Q () { s with heap := h' }) : wpAny M A (noteFrame (.ref e) env) Q E s := by
  unfold noteFrame
  simp only [ef]
  refine wpAny_bind (wpAny_field eo ed e1 ?_)
  rw [if_neg (by decide)]
  exact note_c fr fl ef eo kb be ed (Array.getElem?_eq_some_iff.mp e2).1 e0 e2 hq
theorem note_on (fr : A.frames = some (env :: outer)) (ef : env.frame = some L) (fl : Heap.FlyingW B (env :: outer) e cls a0 s.heap) (nc : A7 e s.heap)
    (hq : ∀ h', Heap.HeldW B (env :: outer) e cls a0 L h' -> A7 e h' -> s.heap.UpToSlots h' -> Q () { s with heap := h' }) : wpAny M A (noteFrame (.ref e) env) Q E s := by
  obtain ⟨kb, be, ff, oe, vs, T, oT, ts, eo, ⟨rfl, e0⟩, ed, e1, bT, nT, eT, dT, t3⟩ := fl
  obtain ⟨o', vs', eo', ed', e2⟩ := nc
  rw [eo] at eo'
  cases eo'
  rw [ed] at ed'
  cases ed'
  unfold noteFrame
  simp only [ef]
  refine wpAny_bind (wpAny_field eo ed e1 ?_)
  rw [if_pos (by rfl)]
  refine wpAny_bind (wpAny_field eT dT t3 ?_)
  rw [if_neg (by simp [rawInt])]
  refine wpAny_bind (wpAny_setField eT dT (Array.getElem?_eq_some_iff.mp t3).1 ?_)
  have oth : ∀ b, b ≠ T -> (s.heap.update T (Obj.mapFields (·.setIfInBounds 3 Value.none))).get? b = s.heap.get? b := λ b n => Heap.get?_update_other _ _ (Ne.symm n)
  have un : ∀ b o, s.heap.get? b = some o -> (∀ vs, o.data ≠ .fields vs) -> b ≠ T := λ b o hb nf z => by
    rw [z, eT] at hb
    cases hb
    exact nf ts dT
  exact note_c (s := { s with heap := s.heap.update T (Obj.mapFields (·.setIfInBounds 3 Value.none)) }) fr (ff.of_keeps λ b o hb nf => ⟨o, (oth b (un b o hb nf)).trans hb, rfl⟩) ef ((oth e (Ne.symm nT)).trans eo)
    (λ b o q => (oth b λ z => by rw [z, bT] at q; cases q).trans (kb b o q)) be ed (Array.getElem?_eq_some_iff.mp e2).1 e0 e2
    λ h' k1 k2 k3 => hq h' k1 k2 λ b o hb nf => k3 b o ((oth b (un b o hb nf)).trans hb) nf
theorem a0z {l : List Env} {f0 : Value} (kb : B.StaysIn s.heap) (be : B.get? e = none) (ff : s.heap.FunFrames B l) (tr : s.heap.TracedAtW B e cls a0 f0) (nc : A7 e s.heap)
    (hq : ∀ h', Heap.FlyingW B l e cls a0 h' -> A7 e h' -> s.heap.UpToSlots h' -> Q () { s with heap := h' }) : wpAny M A (setFlight (.ref e) none) Q E s := by
  obtain ⟨oe, vs, T, oT, ts, eo, ec, ed, e1, bT, nT, eT, dT, t3⟩ := tr
  have z3 : 3 < ts.size := (Array.getElem?_eq_some_iff.mp t3).1
  have oth : ∀ b, b ≠ T -> (s.heap.update T (Obj.mapFields (·.setIfInBounds 3 Value.none))).get? b = s.heap.get? b := λ b n => Heap.get?_update_other _ _ (Ne.symm n)
  have un : ∀ b o, s.heap.get? b = some o -> (∀ vs, o.data ≠ .fields vs) -> b ≠ T := λ b o hb nf z => by
    rw [z, eT] at hb
    cases hb
    exact nf ts dT
  unfold setFlight
  refine wpAny_bind (wpAny_field eo ed e1 ?_)
  rw [if_pos (by rfl)]
  refine wpAny_setField eT dT z3 (hq _ ⟨λ b o q => (oth b λ z => by rw [z, bT] at q; cases q).trans (kb b o q), be, ff.of_keeps λ b o hb nf => ⟨o, (oth b (un b o hb nf)).trans hb, rfl⟩, ?_⟩ ?_ λ b o hb nf => ⟨o.slots, (oth b (un b o hb nf)).trans hb⟩)
  . exact ⟨oe, vs, T, _, _, (oth e (Ne.symm nT)).trans eo, ec, ed, e1, bT, nT, Heap.get?_update_self _ eT (Obj.isFreed_of_fields (Obj.data_mapFields dT _)), Obj.data_mapFields dT _, by simp [z3]⟩
  . obtain ⟨o', vs', q1, q2, q3⟩ := nc
    exact ⟨o', vs', (oth e (Ne.symm nT)).trans q1, q2, q3⟩
theorem frs_tail {h : Heap} (ff : h.FunFrames B (env :: outer)) : h.FunFrames B outer := ff.2.2
theorem a0A (fr : A.frames = some (env :: outer)) (nc : A7 e s.heap) (hd : Heap.HeldW B (env :: outer) e cls a0 L s.heap)
    (hq : ∀ h', Heap.FlyingW B outer e cls a0 h' -> A7 e h' -> s.heap.UpToSlots h' -> Q () { s with heap := h' }) : wpAny M A (setFlight (.ref e) none) Q E s := by
  obtain ⟨k1, k2, k3, k4⟩ := hd
  exact a0z k1 k2 (frs_tail k3) k4 nc hq
theorem leave_c (fr : A.frames = some (env :: outer)) (ef : env.frame = some L) (fl : Heap.FlyingW B (env :: outer) e cls a0 s.heap) (nc : A7 e s.heap)
    (hq : ∀ h', Heap.FlyingW B outer e cls a0 h' -> A7 e h' -> s.heap.UpToSlots h' -> Q () { s with heap := h' }) : wpAny M A (leaving env (.ref e)) Q E s := by
  unfold leaving
  refine wpAny_bind (note_on fr ef fl nc λ h1 k1 k2 k3 => ?_)
  exact a0A (s := { s with heap := h1 }) fr k2 k1 λ h2 j1 j2 j3 => hq h2 j1 j2 (k3.trans j3)
theorem leave_new {h : Heap} {args : List Value} (fr : A.frames = some (env :: outer)) (ef : env.frame = some L) (kb : B.StaysIn h) (fl : h.FunFrames B (env :: outer)) (hx : Heap.MadeExcOf h s.heap e cls args)
    (hq : ∀ h' a0, Heap.FlyingW B outer e cls a0 h' -> A7 e h' -> s.heap.UpToSlots h' -> Q () { s with heap := h' }) : wpAny M A (leaving env (.ref e)) Q E s := by
  obtain ⟨t, he, _, _⟩ := hx.there
  have be : B.get? e = none := by
    cases q : B.get? e with
    | none => rfl
    | some o =>
      have := kb e o q
      rw [hx.new] at this
      cases this
  unfold leaving
  refine wpAny_bind (note_new (a0 := .ref t) fr (fl.of_keeps λ b o q _ => ⟨o, hx.keeps b o q, rfl⟩) ef he (λ b o q => hx.keeps b o (kb b o q)) be rfl rfl rfl rfl λ h1 k1 k2 k3 => ?_)
  exact a0A (s := { s with heap := h1 }) fr k2 k1 λ h2 j1 j2 j3 => hq h2 _ j1 j2 (k3.trans j3)
theorem leave_any {P : Prop} (fr : A.frames = some (env :: outer)) (ef : env.frame = some L) (fl : Heap.FlyingW B (env :: outer) e cls a0 s.heap) (nc : P -> A7 e s.heap)
    (hq : ∀ h', Heap.FlyingW B outer e cls a0 h' -> (P -> A7 e h') -> s.heap.UpToSlots h' -> Q () { s with heap := h' }) : wpAny M A (leaving env (.ref e)) Q E s := by
  by_cases p : P
  . exact leave_c fr ef fl (nc p) λ h' k1 k2 k3 => hq h' k1 (λ _ => k2) k3
  . exact wpAny_leaves_onW fr ef fl λ h' k1 k3 => hq h' k1 (λ z => absurd z p) k3
theorem looks_any {P : Prop} (fr : A.frames = some (env :: outer)) (ef : env.frame = some L) (fl : Heap.FlyingW B (env :: outer) e cls a0 s.heap) (nc : P -> A7 e s.heap)
    (hq : ∀ h', Heap.HeldW B (env :: outer) e cls a0 L h' -> (P -> A7 e h') -> s.heap.UpToSlots h' -> Q () { s with heap := h' }) : wpAny M A (noteFrame (.ref e) env) Q E s := by
  by_cases p : P
  . exact note_on fr ef fl (nc p) λ h' k1 k2 k3 => hq h' k1 (λ _ => k2) k3
  . exact wpAny_looks_onW fr ef fl λ h' k1 k3 => hq h' k1 (λ z => absurd z p) k3
theorem lands_any {P : Prop} {l : List Env} (hd : Heap.HeldW B l e cls a0 L s.heap) (nc : P -> A7 e s.heap)
    (hq : ∀ h', Heap.FlyingW B l e cls a0 h' -> (P -> A7 e h') -> s.heap.UpToSlots h' -> Q () { s with heap := h' }) : wpAny M A (setFlight (.ref e) none) Q E s := by
  by_cases p : P
  . obtain ⟨k1, k2, k3, k4⟩ := hd
    exact a0z k1 k2 k3 k4 (nc p) λ h' k1 k2 k3 => hq h' k1 (λ _ => k2) k3
  . exact wpAny_landsW hd λ h' k1 k3 => hq h' k1 (λ z => absurd z p) k3
theorem again_any {P : Prop} {l : List Env} (fl : Heap.FlyingW B l e cls a0 s.heap) (nc : P -> A7 e s.heap)
    (hq : ∀ h', Heap.FlyingW B l e cls a0 h' -> (P -> A7 e h') -> s.heap.UpToSlots h' -> Q () { s with heap := h' }) : wpAny M A (setFlight (.ref e) none) Q E s := by
  by_cases p : P
  . obtain ⟨k1, k2, k3, k4⟩ := fl
    exact a0z k1 k2 k3 k4.at (nc p) λ h' k1 k2 k3 => hq h' k1 (λ _ => k2) k3
  . exact lands_againW fl λ h' k1 k3 => hq h' k1 (λ z => absurd z p) k3
end
end Tv
namespace Tv
open PySem PySem.Spec PySem.Calls PyProof.Rows L2
section
open PySem.W PySem.Builtin PySem.Builtin.Getset_descriptor
variable {prog : Program} {w : World} {A : Around} {E : Value -> Shared -> Prop} {K : PySem.W.Frag} {x D : Addr}
def TyAt (x D : Addr) (h : Heap) : Prop := ∃ o, h.get? x = some o /\ o.cls = .ref D
theorem TyAt.look {M : Model} {h : Heap} (p : TyAt x D h) : Looks M h (typeOf (.ref x)) (.ref D) := by
  obtain ⟨o, h1, h2⟩ := p
  rw [<- h2]
  exact (Looks.ld h1).andThen .now
def mroV : List Value := [.type "ValueError", .type "Exception", .type "BaseException", .type "object"]
structure ExcC (K : PySem.W.Frag) (D : Addr) : Prop where
  ga : findIn K (.ref D) "__getattribute__" = some (some (.builtin "BaseException.__getattribute__"))
  na : findIn K (.ref D) "__getattr__" = some none
  hb : mroIn K D (.type "BaseException") = some true
  hm : mroIn K D (.type "object") = some true
  ha : findIn K (.ref D) "__class__" = some (some (.builtin "object.__class__"))
  hn : specialIn K (.builtin "object.__class__") "__get__" = some (some (.builtin "getset_descriptor.__get__"))
  tk : takesIn K (.builtin "object.__class__") = some true
  hc : (clsIn K D).isSome = true
  ex : excIn K D mroV "ValueError.__new__" = true
theorem look_cls {M : Model} {h : Heap} (X : K.In h) (c : ExcC K D) : Looks M h (Builtin.ObjectAttr.find (.ref x) (.ref D) "__class__") (.bind (.builtin "getset_descriptor.__get__") (.builtin "object.__class__")) := by
  have l1 := looks_findIn (M := M) X c.ha
  have l2 : Looks M h (Builtin.ObjectAttr.getOf (some (.builtin "object.__class__"))) (some (.builtin "getset_descriptor.__get__")) := looks_specialIn X c.hn
  have l3 := looks_takesIn (M := M) X c.tk
  have l4 : Looks M h (Builtin.ObjectAttr.dataDescriptor? (some (.builtin "object.__class__")) (some (.builtin "getset_descriptor.__get__"))) (some (.builtin "getset_descriptor.__get__", .builtin "object.__class__")) := l3.andThen .now
  exact l1.andThen (l2.andThen (l4.andThen (Looks.tag .now)))
theorem cls_get {tp : Value} {R : Result -> Shared -> Prop} {s : Shared} (X : K.In s.heap) (I : TyAt x D s.heap) (c : ExcC K D) (h : R (.ok (.ret (.ref D))) s) :
    codeAny (model prog w) A (.call (.builtin "getset_descriptor.__get__") ⟨[.builtin "object.__class__", .ref x, tp], []⟩) R s := by
  have l0 := I.look (M := model prog w)
  have l1 := looks_mroIn (M := model prog w) X c.hm
  obtain ⟨hp, gs, dr, tk, os⟩ := s
  refine codeAny_call_builtin KF.slot_gs.plain KF.entry_gs ?_
  refine KF.slot_gs.check _ _ _ _ _ _ _ _ KF.type_class (KF.args_gs _ _ _) ?_
  unfold Builtin.«getset_descriptor.__get__»
  unfold descrGet
  rw [dga_obj]
  refine wpAny_bind (wpAny_pure ?_)
  unfold descrGetter descrCheckInstance
  unfold descrNameAndClass isInstance
  simp only [KF.owner_class]
  repeat lk
  refine ⟨Code.quiet_builtin _ (by decide +kernel), ?_⟩
  refine codeAny_builtin KF.entry_class ?_
  unfold Builtin.«object.__class__»
  unfold shownTypeOf
  repeat lk
  exact h
theorem exc_entry {tk : Tok} {Q : Fin -> Shared -> Prop} {s : Shared} (X : K.In s.heap) (I : TyAt x D s.heap) (c : ExcC K D) (h : Q (.done (.ret (.ref D))) s) :
    wpAny (model prog w) A (Builtin.«object.__getattribute__» ⟨[.ref x, .str "__class__" tk], []⟩) Q E s := by
  have l0 := I.look (M := model prog w)
  have l1 := look_cls (M := model prog w) (x := x) X c
  obtain ⟨hh, g, d, t, os⟩ := s
  unfold Builtin.«object.__getattribute__»
  refine wpAny_bind (wpAny_pure (wpAny_bind (wpAny_pure (wpAny_bind (l0.at (wpAny_bind (l1.at ?_)))))))
  refine wpAny_bind (wpAny_holding (wpAny_call (cls_get (s := ⟨hh, g, d, t, os⟩) X I c ?_)))
  exact wpAny_pure h
theorem exc_check {M : Model} {Y1 : Value} {Q : Unit -> Shared -> Prop} {s : Shared} (X : K.In s.heap) (I : TyAt x D s.heap) (c : ExcC K D) (hq : Q () s) : wpAny M A (checkBuiltinCall "BaseException.__getattribute__" ⟨[.ref x, Y1], []⟩) Q E s := by
  have k1 : builtinKind "BaseException.__getattribute__" = some .slot := by decide +kernel
  have k2 : splitId "BaseException.__getattribute__" = some ("BaseException", "__getattribute__") := by decide +kernel
  have ha := F.args_bexc_ga (.ref x) Y1
  have l0 := I.look (M := M)
  have l1 := looks_mroIn (M := M) X c.hb
  obtain ⟨hh, g, d, t, os⟩ := s
  simp only [checkBuiltinCall, k1, k2]
  refine wpAny_bind ?_
  unfold isInstance
  refine wpAny_bind (l0.at (l1.at ?_))
  repeat (first | exact hq | wp_step)
theorem exc_class {Q : Option Value -> Shared -> Prop} {s : Shared} (X : K.In s.heap) (I : TyAt x D s.heap) (c : ExcC K D) (h : Q (some (.ref D)) { s with toks := s.toks + 1 }) : wpAny (model prog w) A (getAttr? (.ref x) "__class__") Q E s := by
  have l0 := I.look (M := model prog w)
  have l1 := looks_findIn (M := model prog w) X c.ga
  have l2 := looks_findIn (M := model prog w) X c.na
  have f3 := PySem.F.attrBase_ValueError.ga.bind (.ref x)
  obtain ⟨hh, g, d, t, os⟩ := s
  have hX : K.In (⟨hh, g, d, t + 1, os⟩ : Shared).heap := X
  have hI : TyAt x D (⟨hh, g, d, t + 1, os⟩ : Shared).heap := I
  unfold getAttr?
  unfold getAttrBy? getAttrBy
  refine wpAny_bind (wpAny_mkText (wpAny_bind (wpAny_attempt (wpAny_holding (wpAny_bind (l0.at (wpAny_bind (l1.at ?_))))))))
  have hx2 : (onTheHeap (Value.ref D) && Value.builtin "BaseException.__getattribute__" == Value.builtin "object.__getattribute__") = false := by
    rw [show (Value.builtin "BaseException.__getattribute__" == Value.builtin "object.__getattribute__") = false by decide +kernel, Bool.and_false]
  simp only [hx2, Bool.false_eq_true, if_false]
  unfold getAttrByItsOwn
  refine wpAny_bind (l2.at (wpAny_bind (wpAny_attempt (wpAny_holding ?_))))
  show wpAny _ _ (boundAndCalled (Value.builtin "BaseException.__getattribute__") (.ref x) (.str "__class__" t)) _ _ _
  unfold boundAndCalled
  rw [f3]
  refine wpAny_bind (wpAny_pure (wpAny_call (codeAny_call_builtin PySem.F.attrBase_ValueError.ga.plain PySem.F.entry_bexc_ga (exc_check hX hI c (exc_entry hX hI c ?_)))))
  exact handed_on rfl (wpAny_pure h)
theorem a4R {M : Model} {h : Heap} (X : K.In h) (c : ExcC K D) : Looks M h (isType (.ref D)) true := by
  obtain ⟨cd, e⟩ := Option.isSome_iff_exists.mp c.hc
  unfold clsIn at e
  split at e
  . rename_i ho
    intro A' Q' E' s' k q
    unfold isType
    unfold loadHead
    exact wpAny_bind (wpAny_loadPart (k _ _ (X _ _ ho)) (wpAny_pure q))
  . cases e
theorem a3I (c : ExcC K D) : KitX K (.ref x) (.ref D) (TyAt x D) where
  ty := λ _ _ _ p => p.look
  it := λ _ _ X _ => a4R X c
  ne := λ h tp dd its n sl X htp => Bool.eq_false_iff.mpr λ q => by
    have e : D = tp := Value.ref.inj (beq_iff_eq.mp q)
    subst e
    obtain ⟨cd, e⟩ := Option.isSome_iff_exists.mp c.hc
    unfold clsIn at e
    split at e
    . rename_i ho
      have z := (X _ _ ho).symm.trans htp
      cases z
    . cases e
  ca := λ X I k => exc_class X I c k
theorem isi_exc {c : Value} {b : Bool} {Q : Value -> Shared -> Prop} {s : Shared} (X : K.In s.heap) (I : TyAt x D s.heap) (d : ExcC K D) (e : kitOne K (.ref D) c = some b) (h : ∀ tk, Q (.bool b) { s with toks := tk }) : wpAny (model prog w) A (call (.builtin "isinstance") [.ref x, c]) Q E s :=
  kia_one (a3I d) X I e (λ z => nomatch z) h
end
theorem ObjOk.there {P : Program} {w : World} {H : Hp} {h : Heap} {a : Addr} {o : HO} (x : ObjOk P w H h a o) : ∃ u, h.get? a = some u := by
  cases o with
  | lst xs => obtain ⟨_, _, _, _, e⟩ := x; exact ⟨_, e⟩
  | tup xs => obtain ⟨_, _, _, p⟩ := x; obtain ⟨u, e, _⟩ := p; exact ⟨u, e⟩
  | dK kvs => obtain ⟨_, _, _, _, u, _, _, e, _⟩ := x; exact ⟨u, e⟩
  | dT kvs => obtain ⟨_, _, _, _, u, _, _, e, _⟩ := x; exact ⟨u, e⟩
  | set S n => obtain ⟨u, _, _, _, e, _⟩ := x; exact ⟨u, e⟩
  | ins C dx fs => obtain ⟨_, _, _, e, _⟩ := x; exact ⟨_, e⟩
  | own y => obtain ⟨u, e⟩ := x; exact ⟨u, e⟩
  | xd fs => obtain ⟨_, ⟨u, _, _, e, _⟩, _⟩ := x; exact ⟨u, e⟩
  | rng lo hi => obtain ⟨_, _, _, e⟩ := x; exact ⟨_, e⟩
  | frz ob u => obtain ⟨e, _⟩ := x; exact ⟨_, e⟩
  | tbl ps => exact ⟨_, (show h.get? a = some _ from x)⟩
  | met f y => exact ⟨_, (show h.get? a = some _ from x)⟩
  | ext φ => obtain ⟨_, ⟨u, e⟩, _⟩ := x; exact ⟨u, e⟩
def Fly (outer : List Env) (h₀ : Heap) (H : Hp) (a : Addr) (cls : Value) (k : Option Addr) (h : Heap) : Prop :=
  H a = none /\ ∃ B a0, Heap.FlyingW B outer a cls a0 h /\ (k = none -> A7 a h) /\ ∀ b o, h.get? b = some o -> (H b ≠ none \/ ∃ o₀, h₀.get? b = some o₀) -> b ∉ frs outer -> B.get? b = some o
def CXE (P : Program) (w : World) : CXT := λ outer H s E e s' => ∃ (a : Addr) (cls : Value) (k : Option Addr) (H' : Hp), e = .ref a /\ s'.os = s.os /\ AllBare s'.gens /\ Un (frs outer) [] H H' s.heap s'.heap /\ HOk P w H' s'.heap /\ Fly outer s.heap H' a cls k s'.heap /\ E cls k H'
section
variable {X : Cx} {pins : List (Addr × Obj)} {σ : St} {H H' : Hp} {s : Shared}
theorem Inv.frame_there (I : Inv X pins σ H s) {b : Addr} (hb : b ∈ frs X.stack) : ∃ o, s.heap.get? b = some o /\ ∀ vs, o.data ≠ .fields vs := by
  obtain ⟨_, o, ho, hd⟩ := I.stack.mem hb
  exact ⟨o, ho, hd⟩
theorem a0B (I : Inv X pins σ H s) (hex : X.ex = []) (hst : X.stack = X.env :: X.outer) (hfr : X.env.frame = some X.env.locals) {B hm h' : Heap} {a : Addr} {cls a0 : Value} {k : Option Addr} (u2 : Un (frs X.stack) [] H H' s.heap hm) (hok : HOk X.prog X.w H' hm)
    (cov : ∀ b o, hm.get? b = some o -> (H' b ≠ none \/ ∃ o₀, X.s₀.heap.get? b = some o₀) -> b ∉ frs X.stack -> B.get? b = some o) (fly : Heap.FlyingW B X.outer a cls a0 h') (nc : k = none -> A7 a h') (up : hm.UpToSlots h') (ha : H' a = none) :
    Un (frs X.outer) [] X.H₀ H' X.s₀.heap h' /\ HOk X.prog X.w H' h' /\ Fly X.outer X.s₀.heap H' a cls k h' := by
  have u1 := I.base
  rw [hex] at u1
  have fs : frs X.stack = X.env.locals :: frs X.outer := by
    rw [hst]
    unfold frs
    rw [List.filterMap_cons, hfr]
  have neL : ∀ b o, X.s₀.heap.get? b = some o -> b ≠ X.env.locals := λ b o e => Nat.ne_of_lt (Nat.lt_of_lt_of_le (Heap.lt_size e) I.ok.above)
  have nfs : ∀ b o, X.s₀.heap.get? b = some o -> b ∉ frs X.outer -> b ∉ frs X.stack := λ b o e n m => by
    rw [fs] at m
    rcases List.mem_cons.mp m with z | z
    . exact neL b o e z
    . exact n z
  have frN : ∀ b ∈ frs X.stack, H' b = none := λ b hb => by
    obtain ⟨o, e, _⟩ := Inv.frame_there I hb
    exact u2.free b o e (I.stkFree b hb) (by simp)
  have frD : ∀ b ∈ frs X.stack, ∃ o, hm.get? b = some o /\ ∀ vs, o.data ≠ .fields vs := λ b hb => by
    obtain ⟨o, e, hd⟩ := Inv.frame_there I hb
    obtain ⟨sl, e2⟩ := u2.slot b o e (I.stkFree b hb) hb (by simp)
    exact ⟨_, e2, hd⟩
  have old : ∀ b o, X.s₀.heap.get? b = some o -> b ∉ frs X.outer -> ∃ o2, hm.get? b = some o2 /\ h'.get? b = some o2 /\ B.get? b = some o2 := λ b o e n => by
    obtain ⟨o1, e1⟩ := u1.there b o e (by simp)
    obtain ⟨o2, e2⟩ := u2.there b o1 e1 (by simp)
    have c := cov b o2 e2 (.inr ⟨o, e⟩) (nfs b o e n)
    exact ⟨o2, e2, fly.1 b o2 c, c⟩
  have trk : ∀ b o, H' b ≠ none -> hm.get? b = some o -> B.get? b = some o := λ b o hn e => cov b o e (.inl hn) λ m => hn (frN b m)
  refine ⟨⟨λ b o e n nf _ => ?_, λ b o e n hf _ => ?_, λ b o e n _ => ?_, λ b o e _ => ?_, λ b xs e => u2.tups b xs (u1.tups b xs e), λ b o u e => u2.frzs b o u (u1.frzs b o u e), λ b ps e => ?_⟩, λ b u e => ?_, ha, B, a0, fly, nc, λ b o e hh nf => ?_⟩
  . have e1 := u1.keep b o e n nf (by simp)
    have e2 := u2.keep b o e1 (u1.free b o e n (by simp)) (nfs b o e nf) (by simp)
    exact fly.1 b o (cov b o e2 (.inr ⟨o, e⟩) (nfs b o e nf))
  . obtain ⟨sl, e1⟩ := u1.slot b o e n hf (by simp)
    have hb : b ∈ frs X.stack := by rw [fs]; exact List.mem_cons_of_mem _ hf
    obtain ⟨sl2, e2⟩ := u2.slot b _ e1 (u1.free b o e n (by simp)) hb (by simp)
    obtain ⟨o3, e3, hd⟩ := frD b hb
    rw [e2] at e3
    cases e3
    obtain ⟨sl3, e4⟩ := up b _ e2 hd
    exact ⟨sl3, e4⟩
  . obtain ⟨o1, e1⟩ := u1.there b o e (by simp)
    exact u2.free b o1 e1 (u1.free b o e n (by simp)) (by simp)
  . by_cases nf : b ∈ frs X.outer
    . have hb : b ∈ frs X.stack := by rw [fs]; exact List.mem_cons_of_mem _ nf
      obtain ⟨o3, e3, hd⟩ := frD b hb
      obtain ⟨sl3, e4⟩ := up b _ e3 hd
      exact ⟨_, e4⟩
    . obtain ⟨o2, _, e2, _⟩ := old b o e nf
      exact ⟨o2, e2⟩
  . obtain ⟨m1, e1⟩ := u1.tbls b ps e
    obtain ⟨m2, e2⟩ := u2.tbls b _ e1
    exact ⟨m1 ++ m2, by rw [e2, Array.append_assoc]⟩
  . refine (hok b u e).stay (λ c v hc q => fly.1 c v (trk c v ?_ q)) (λ _ q => q) λ _ _ q => q
    rcases hc with rfl | hc
    . rw [e]
      exact λ z => nomatch z
    . rw [hc]
      exact λ z => nomatch z
  . by_cases hn : H' b = none
    . rcases hh with hh | ⟨o₀, hh⟩
      . exact absurd hn hh
      . obtain ⟨o2, _, e2, c⟩ := old b o₀ hh nf
        rw [e] at e2
        cases e2
        exact c
    . cases q : H' b with
      | none => exact absurd q hn
      | some u =>
        obtain ⟨o2, e2⟩ := ObjOk.there (hok b u q)
        have c := trk b o2 hn e2
        have := fly.1 b o2 c
        rw [e] at this
        cases this
        exact c
theorem fly_on (I : Inv X pins σ H s) (hex : X.ex = []) (hst : X.stack = X.env :: X.outer) (hfr : X.env.frame = some X.env.locals) {E : XK} {e : Value} {s1 : Shared} {E' : Value -> Shared -> Prop} (h : CXE X.prog X.w X.stack H s E e s1) :
    wpAny (model X.prog X.w) X.A (leaving X.env e) (λ _ s2 => CXE X.prog X.w X.outer X.H₀ X.s₀ E e s2) E' s1 := by
  obtain ⟨a, cls, k, H', rfl, os, bare, un, hok, ⟨ha, B, a0, fly, nc, cov⟩, q⟩ := h
  rw [hst] at fly
  refine leave_any (by rw [I.ok.frames, hst]) hfr fly nc λ h' fly' nc' up => ?_
  have cov' : ∀ b o, s1.heap.get? b = some o -> (H' b ≠ none \/ ∃ o₀, X.s₀.heap.get? b = some o₀) -> b ∉ frs X.stack -> B.get? b = some o := λ b o e hh n => cov b o e (hh.imp id λ ⟨o₀, z⟩ => I.base.there b o₀ z (by rw [hex]; simp)) n
  obtain ⟨c1, c2, c3⟩ := a0B I hex hst hfr un hok cov' fly' nc' up ha
  exact ⟨a, cls, k, H', rfl, os.trans I.os, bare, c1, c2, c3, q⟩
theorem fly_new (I : Inv X pins σ H s) (hex : X.ex = []) (hst : X.stack = X.env :: X.outer) (hfr : X.env.frame = some X.env.locals) {E : XK} {e : Addr} {cls : Value} {vs : List Value} {h1 : Heap} {E' : Value -> Shared -> Prop} (hx : Heap.MadeExcOf s.heap h1 e cls vs) (q : E cls none H) :
    wpAny (model X.prog X.w) X.A (leaving X.env (.ref e)) (λ _ s2 => CXE X.prog X.w X.outer X.H₀ X.s₀ E (.ref e) s2) E' { s with heap := h1 } := by
  have hl := PySem.W.funFrames_hide (as := frs X.stack) I.stack λ env he b hb => List.mem_filterMap.mpr ⟨env, he, hb⟩
  rw [hst] at hl
  refine leave_new (B := PySem.W.hideAll s.heap (frs X.stack)) (h := s.heap) (by rw [I.ok.frames, hst]) hfr (λ b o q => PySem.W.of_hideAll _ q) (by rw [hst]; exact hl) hx λ h' a0 fly nc up => ?_
  have ha : H e = none := by
    cases z : H e with
    | none => rfl
    | some u =>
      obtain ⟨o, eo⟩ := ObjOk.there (I.hok e u z)
      rw [hx.new] at eo
      cases eo
  obtain ⟨c1, c2, c3⟩ := a0B (k := none) I hex hst hfr (B := PySem.W.hideAll s.heap (frs X.stack)) (hm := s.heap) Un.refl I.hok (λ b o eb _ nb => PySem.W.hideAll_get _ eb nb) fly (λ _ => nc) ((Heap.UpToSlots.of_keeps hx.keeps).trans up) ha
  exact ⟨e, cls, none, H, rfl, I.os, I.bare, c1, c2, c3, q⟩
theorem fly_held (I : Inv X pins σ H s) (hex : X.ex = []) (hst : X.stack = X.env :: X.outer) (hfr : X.env.frame = some X.env.locals) {E : XK} {e c T : Addr} {cls a0 : Value} {oe oT : Obj} {vs ts : Array Value} {E' : Value -> Shared -> Prop}
    (eo : s.heap.get? e = some oe) (ec : oe.cls = cls) (ed : oe.data = .fields vs) (e0 : vs[0]? = some a0) (e1 : vs[1]? = some (.ref T)) (nT : T ≠ e) (eT : s.heap.get? T = some oT) (dT : oT.data = .fields ts) (t3 : ts[3]? = some (rawInt X.env.locals))
    (he : H e = none) (hT : H T = none) (se : X.s₀.heap.get? e = none) (sT : X.s₀.heap.get? T = none) (q : E cls (some c) H) :
    wpAny (model X.prog X.w) X.A (leaving X.env (.ref e)) (λ _ s2 => CXE X.prog X.w X.outer X.H₀ X.s₀ E (.ref e) s2) E' s := by
  have hid : ∀ b, b ∈ e :: T :: frs X.stack -> (PySem.W.hideAll s.heap (e :: T :: frs X.stack)).get? b = none := λ b hb => PySem.W.hideAll_none _ hb
  have hl := PySem.W.funFrames_hide (as := e :: T :: frs X.stack) I.stack λ env he b hb => List.mem_cons_of_mem _ (List.mem_cons_of_mem _ (List.mem_filterMap.mpr ⟨env, he, hb⟩))
  have cov : ∀ b o, s.heap.get? b = some o -> (H b ≠ none \/ ∃ o₀, X.s₀.heap.get? b = some o₀) -> b ∉ frs X.stack -> (PySem.W.hideAll s.heap (e :: T :: frs X.stack)).get? b = some o := λ b o eb hh nb => by
    refine PySem.W.hideAll_get _ eb λ m => ?_
    rcases List.mem_cons.mp m with rfl | m
    . rcases hh with z | ⟨_, z⟩
      . exact z he
      . rw [se] at z
        cases z
    . rcases List.mem_cons.mp m with rfl | m
      . rcases hh with z | ⟨_, z⟩
        . exact z hT
        . rw [sT] at z
          cases z
      . exact nb m
  have st : (PySem.W.hideAll s.heap (e :: T :: frs X.stack)).StaysIn s.heap := λ b o q => PySem.W.of_hideAll _ q
  have ne := hid e (by simp)
  have nT' := hid T (by simp)
  generalize PySem.W.hideAll s.heap (e :: T :: frs X.stack) = B at hl cov st ne nT'
  have held : Heap.HeldW B X.stack e cls a0 X.env.locals s.heap := ⟨st, ne, hl, oe, vs, T, oT, ts, eo, ⟨ec, e0⟩, ed, e1, nT', nT, eT, dT, t3⟩
  rw [hst] at held
  unfold leaving
  refine wpAny_bind (wpAny_noteFrame_againW hfr held.2.2.2 ?_)
  refine wpAny_landsW held λ h' fly up => ?_
  obtain ⟨k1, k2, k3, k4⟩ := fly
  obtain ⟨c1, c2, c3⟩ := a0B (k := some c) I hex hst hfr (hm := s.heap) Un.refl I.hok cov ⟨k1, k2, k3.2.2, k4⟩ (λ z => nomatch z) up he
  exact ⟨e, cls, some c, H, rfl, I.os, I.bare, c1, c2, c3, q⟩
end
end Tv
namespace Tv
open PySem PySem.Spec PySem.Calls PyProof.Rows L2
theorem a2G {K : PySem.W.Frag} {h : Heap} {C : Addr} {tl : List Value} {id : String} (X : K.In h) (q : PySem.W.excIn K C tl id = true) :
    ∃ m ns nm qn bs hd sn sb ab co dd a0 a1 a2 a3 a5 mN, h.get? C = some (excClassObj nm qn C ns bs m hd sn sb ab co dd a0 a1 a2 a3 a5 id) /\ h.Ns ns mN /\ mN "__init__" = none /\ OwnTail h tl m := by
  unfold PySem.W.excIn at q
  split at q <;> first | (cases q; done) | skip
  rename_i d0 c0 l0 eo
  split at q <;> first | (cases q; done) | skip
  rename_i C1 m a0 a1 a2 a3 nn a5 em es
  simp only [beq_iff_eq, Bool.and_eq_true, Bool.not_eq_true'] at q
  obtain ⟨⟨⟨⟨⟨r1, r2⟩, e1⟩, e2⟩, e3⟩, e4⟩ := q
  subst r1 r2
  obtain ⟨nm, bs, mr, ns, qn, hd, sn, sb, ab, co, dl⟩ := c0
  dsimp only at em e1 e3 e4
  subst em e1
  have el : l0 = #[a0, a1, a2, a3, some (.builtin nn), a5] := by
    obtain ⟨l⟩ := l0
    simp only at es
    rw [es]
  subst el
  refine ⟨m, ns, nm, qn, bs, hd, sn, sb, ab, co, d0, a0, a1, a2, a3, a5, h.nsMap ns, X _ _ eo, ?_, ?_, PySem.W.tail_of_in X e2⟩
  . exact .of_isNs (PySem.W.isNs_of_in X e3)
  . exact PySem.W.nsMap_none_of_in X e3 e4
def V6 (E : XK) (cl : Addr) (ta : TA) : TS := λ _ σ H => ta σ H λ vs H1 => vs.length <= sizeLine /\ E (.ref cl) none H1
theorem ps_raise {X : Cx} {E : XK} {x : Str} {cl : Addr} {e : Expr} {es : List Expr} {ta : TA} {np cpos pos : Pos} (hg : Gl X x) (hm : X.mg x = some (.ref cl)) (c : ExcC X.K cl) (hc : X.calm = true) (ha : PA X (e :: es) ta) (hs : (e :: es).any i0 = false) (hd : (x == ("__debug__" : Str)) = false)
    (rse : ∀ (pins : List (Addr × Obj)) (σ : St) (H : Hp) (s : Shared) (a : Addr) (vs : List Value) (h1 : Heap), Inv X pins σ H s -> Heap.MadeExcOf s.heap h1 a (.ref cl) vs -> E (.ref cl) none H -> X.xe (.ref a) { s with heap := h1 }) :
    PS X (.Raise (some (.Call (.Name x np) (e :: es) [] cpos)) none pos) (V6 E cl ta) := λ pins s σ H D I h => by
  obtain ⟨m, ns, nm, qn, bs, hdct, sn, sb, ab, co, dd, a0, a1, a2, a3, a5, mN, hC, hN, hni, T⟩ := a2G I.ok.mod.kin c.ex
  have hs' := hs
  rw [List.any_cons, Bool.or_eq_false_iff] at hs'
  refine wpAny_Raise_call_subU (C := cl) (nm := nm) (q := qn) (N := ns) (bs := bs) (bm := m) (hdct := hdct) (sn := sn) (sub := sb) (ab := ab) (col := co) (dd := dd) (k0 := a0) (k1 := a1) (k2 := a2) (k3 := a3) (k5 := a5)
    PySem.F.excBase_ValueError (bmB := mroV) (by decide +kernel) PySem.F.excBase_ValueError (mN := mN) (T.hasType (by decide +kernel)) (I.ok.hd hc) (d9 (pos := cpos) hs).1 hni (w8 I hg hm ⟨rfl, ?_⟩ hd)
  have h1 := ha cpos pins s σ H _ I h
  rw [e8 hs'.1] at h1 ⊢
  exact Calls.evalArgs_plain (wpAny_mono h1 (λ us s2 ⟨vs, H2, I2, r2, hz, q2⟩ => ⟨rfl, by rw [<- r2.length]; exact hz, I2.bk _ _ hC, hN.keeps I2.bk, T.keeps I2.bk, λ h' a hx => rse pins σ H2 s2 a us h' I2 hx q2⟩) λ _ _ y => y)
end Tv
namespace Tv
open PySem PySem.Spec PySem.Calls PyProof.Rows L2
section
variable {X : Cx} {pins : List (Addr × Obj)} {σ : St} {H H' : Hp} {s : Shared}
theorem del_ok {M : Model} {A : Around} {E : Value -> Shared -> Prop} {i : Nat} {n : Str} {v : V} {Q : Unit -> Shared -> Prop} (I : Inv X pins σ H s) (hN : X.N.Nodup) (hi : X.N[i]? = some n) (hl : X.env.scope.names.lookup n = some .local) (hv : σ[i]? = some (some v))
    (h : ∀ s', Inv X pins (σ.set i none) H s' -> Q () s') : wpAny M A (unbindName X.env n) Q E s := by
  obtain ⟨m, hn, hk⟩ := id I.loc
  obtain ⟨u, r, lk⟩ := hk i n v hi hv (.inl hl)
  have hm : m n = some u := by
    rcases lk with ⟨_, e⟩ | ⟨k, _⟩
    . exact e
    . have hl' : X.env.kindOf n = some .local := hl
      rw [hl'] at k
      rcases k with k | k <;> cases k
  have hc : (X.env.scope.kind == .class || (X.env.scope.kind == .module && X.env.locals != X.env.globals)) = false := by rw [I.ok.kind]; rfl
  refine wpAny_unbindName_local hl hn hm hc λ h' u' hn' hs => h _ ?_
  have ne : ∀ b o, X.s₀.heap.get? b = some o -> b ≠ X.env.locals := λ b o e => Nat.ne_of_lt (Nat.lt_of_lt_of_le (Heap.lt_size e) I.ok.above)
  refine ⟨I.ok, I.os, I.bare, ⟨λ b o e n hb hx => (hs.2 b (ne b o e)).trans (I.base.keep b o e n hb hx), λ b o e n hb hx => ?_, I.base.free, λ b o e hx => ?_, I.base.tups, I.base.frzs, I.base.tbls⟩, ⟨_, hn', λ j y v' e1 e2 e3 => ?_⟩, λ y c e => ?_, I.free, I.freeC, λ p hp => ?_, λ b ob e => ?_, by simpa using I.len⟩
  . obtain ⟨sl, e1⟩ := I.base.slot b o e n hb hx
    exact ⟨sl, (hs.2 b (ne b o e)).trans e1⟩
  . obtain ⟨o', e1⟩ := I.base.there b o e hx
    exact ⟨o', (hs.2 b (ne b o e)).trans e1⟩
  . have hj : j ≠ i := λ z => by
      subst z
      by_cases hlt : j < σ.length
      . rw [List.getElem?_set_self hlt] at e2
        cases e2
      . rw [List.getElem?_eq_none (by simpa using hlt)] at e2
        cases e2
    rw [List.getElem?_set_ne (Ne.symm hj)] at e2
    obtain ⟨u2, r2, q⟩ := hk j y v' e1 e2 e3
    refine ⟨u2, r2, ?_⟩
    rcases q with ⟨k, e⟩ | ⟨k, c, e, z⟩
    . have : y ≠ n := λ e => hj (a0e hN e1 (e ▸ hi))
      exact .inl ⟨k, by simp [this, e]⟩
    . exact .inr ⟨k, c, e, z.sameBut hs (I.cne y c e)⟩
  . obtain ⟨w', z⟩ := I.cell y c e
    exact ⟨w', z.sameBut hs (I.cne y c e)⟩
  . obtain ⟨e, n, ne, nf, d⟩ := I.pin p hp
    exact ⟨(hs.2 p.1 ne).trans e, n, ne, nf, d⟩
  . refine (I.hok b ob e).stay (λ c w' hc q => (hs.2 c ?_).trans q) (λ _ q => q) λ _ _ q => q
    rintro rfl
    rcases hc with z | z
    . rw [<- z, I.free] at e
      cases e
    . rw [I.free] at z
      cases z
theorem a3J (I : Inv X pins σ H s) {B hm h' : Heap} {a : Addr} {cls a0 : Value} (u2 : Un (frs X.stack) [] H H' s.heap hm) (hok : HOk X.prog X.w H' hm)
    (cov : ∀ b o, hm.get? b = some o -> (H' b ≠ none \/ ∃ o₀, s.heap.get? b = some o₀) -> b ∉ frs X.stack -> B.get? b = some o) (stay : B.StaysIn h') (up : hm.UpToSlots h') :
    Un (frs X.stack) [] H H' s.heap h' /\ HOk X.prog X.w H' h' := by
  have frN : ∀ b ∈ frs X.stack, H' b = none := λ b hb => by
    obtain ⟨o, e, _⟩ := Inv.frame_there I hb
    exact u2.free b o e (I.stkFree b hb) (by simp)
  have frD : ∀ b ∈ frs X.stack, ∃ o, hm.get? b = some o /\ ∀ vs, o.data ≠ .fields vs := λ b hb => by
    obtain ⟨o, e, hd⟩ := Inv.frame_there I hb
    obtain ⟨sl, e2⟩ := u2.slot b o e (I.stkFree b hb) hb (by simp)
    exact ⟨_, e2, hd⟩
  refine ⟨⟨λ b o e n nf _ => ?_, λ b o e n hf _ => ?_, u2.free, λ b o e _ => ?_, u2.tups, u2.frzs, u2.tbls⟩, λ b u e => ?_⟩
  . exact stay b o (cov b o (u2.keep b o e n nf (by simp)) (.inr ⟨o, e⟩) nf)
  . obtain ⟨sl2, e2⟩ := u2.slot b o e n hf (by simp)
    obtain ⟨o3, e3, hd⟩ := frD b hf
    rw [e2] at e3
    cases e3
    obtain ⟨sl3, e4⟩ := up b _ e2 hd
    exact ⟨sl3, e4⟩
  . by_cases nf : b ∈ frs X.stack
    . obtain ⟨o3, e3, hd⟩ := frD b nf
      obtain ⟨sl3, e4⟩ := up b _ e3 hd
      exact ⟨_, e4⟩
    . obtain ⟨o2, e2⟩ := u2.there b o e (by simp)
      exact ⟨o2, stay b o2 (cov b o2 e2 (.inr ⟨o, e⟩) nf)⟩
  . refine (hok b u e).stay (λ c v hc q => ?_) (λ _ q => q) λ _ _ q => q
    have hn : H' c ≠ none := by
      rcases hc with rfl | hc
      . rw [e]
        exact λ z => nomatch z
      . rw [hc]
        exact λ z => nomatch z
    exact stay c v (cov c v q (.inl hn) λ m => hn (frN c m))
theorem P1 (I : Inv X pins σ H s) {B hm h' : Heap} {a d : Addr} {a0 : Value} {s1 : Shared} (os : s1.os = s.os) (bare : AllBare s1.gens) (u2 : Un (frs X.stack) [] H H' s.heap hm) (hok : HOk X.prog X.w H' hm)
    (cov : ∀ b o, hm.get? b = some o -> (H' b ≠ none \/ ∃ o₀, s.heap.get? b = some o₀) -> b ∉ frs X.stack -> B.get? b = some o) (fly : Heap.FlyingW B X.stack a (.ref d) a0 h') (up : hm.UpToSlots h') (ha : H' a = none) {φ : Heap -> Prop} (hty : φ h') (st : ∀ g1 g2, φ g1 -> (∀ o, g1.get? a = some o -> g2.get? a = some o) -> φ g2) :
    Inv X pins σ (upd H' a (.ext φ)) { s1 with heap := h' } := by
  obtain ⟨u3, hok3⟩ := a3J (a := a) (cls := .ref d) (a0 := a0) I u2 hok cov fly.1 up
  have na : s.heap.get? a = none := by
    cases z : s.heap.get? a with
    | none => rfl
    | some o =>
      by_cases nf : a ∈ frs X.stack
      . obtain ⟨_, o2, e2, hd⟩ := fly.2.2.1.mem nf
        obtain ⟨_, _, _, oe, vs, T, oT, ts, h1, _, h3, _⟩ := fly
        rw [e2] at h1
        cases h1
        exact absurd h3 (hd vs)
      . obtain ⟨o2, e2⟩ := u2.there a o z (by simp)
        have := cov a o2 e2 (.inr ⟨o, z⟩) nf
        rw [fly.2.1] at this
        cases this
  refine I.call' (H' := upd H' a (.ext φ)) (s' := { s1 with heap := h' }) (ch := []) os ⟨u3.keep, u3.slot, λ b o e n hx => ?_, u3.there, λ b xs e => ?_, λ b o u e => ?_, λ b ps e => ?_⟩ (λ b u e => ?_) bare (λ b z => absurd z (by simp))
  . rw [b4 (λ z => by rw [z, na] at e; cases e)]
    exact u3.free b o e n hx
  . have := u3.tups b xs e
    rw [b4 (b8 this ha)]
    exact this
  . have := u3.frzs b o u e
    rw [b4 (b8 this ha)]
    exact this
  . obtain ⟨more, this⟩ := u3.tbls b ps e
    exact ⟨more, by rw [b4 (b8 this ha)]; exact this⟩
  . by_cases z : b = a
    . subst z
      rw [b6] at e
      cases e
      obtain ⟨o, e1, _⟩ := fly.there
      exact ⟨hty, ⟨o, e1⟩, st⟩
    . rw [b4 z] at e
      exact (hok3 b u e).stay (λ c v _ q => q) (λ c q => by rw [b4 (b8 q ha)]; exact q) λ c xs q => by rw [b4 (b8 q ha)]; exact q
theorem TyAt.stay {a d : Addr} : ∀ g1 g2, TyAt a d g1 -> (∀ o, g1.get? a = some o -> g2.get? a = some o) -> TyAt a d g2 := λ g1 g2 ⟨o', f1, f2⟩ k => ⟨o', k o' f1, f2⟩
def TyN (a d : Addr) (h : Heap) : Prop := TyAt a d h /\ A7 a h
theorem TyN.stay {a d : Addr} : ∀ g1 g2, TyN a d g1 -> (∀ o, g1.get? a = some o -> g2.get? a = some o) -> TyN a d g2 := λ g1 g2 ⟨⟨o', f1, f2⟩, o2, vs, f3, f4, f5⟩ k => ⟨⟨o', k o' f1, f2⟩, o2, vs, k o2 f3, f4, f5⟩
abbrev suX (X : Cx) (a : Addr) : Cx := { X with A := X.A.mark (some (.ref a)), calm := false, xe := λ _ _ => False }
theorem Inv.toS (I : Inv X pins σ H s) (a : Addr) : Inv (suX X a) pins σ H s :=
  have ok := I.ok
  ⟨⟨ok.mod, ok.kind, ok.glob, ok.blt, ok.above, ok.inj, ok.has, ok.cab, λ z => (by cases z), ok.frames, ok.stk, ok.exf, ok.bs, ok.bsz, ok.noex, ok.exfs, ok.funs, ok.frf⟩, I.os, I.bare, I.base, I.loc, I.cell, I.free, I.freeC, I.pin, I.hok, I.len⟩
theorem Inv.ofS {a : Addr} {σ' : St} {s' : Shared} {p' : List (Addr × Obj)} {H'' : Hp} (ok : X.Ok) (I : Inv (suX X a) p' σ' H'' s') : Inv X p' σ' H'' s' := ⟨ok, I.os, I.bare, I.base, I.loc, I.cell, I.free, I.freeC, I.pin, I.hok, I.len⟩
def XP (X : Cx) (pins : List (Addr × Obj)) (σ : St) (E : XK) (e : Value) (s' : Shared) : Prop := ∃ H2 s2, Inv X pins σ H2 s2 /\ CXE X.prog X.w X.stack H2 s2 E e s'
def PX (X : Cx) (e : Expr) (t : XK -> TE) : Prop := ∀ (pins : List (Addr × Obj)) (s : Shared) (σ : St) (H : Hp) (Q : VK) (E : XK), Inv X pins σ H s -> t E σ H Q -> wpAny (model X.prog X.w) X.A (eval e X.env) (EP X pins σ Q) (XP X pins σ E) s
theorem run_fnX {k : Nat} {f : Addr} {fd : FuncData} {ps : List Str} {sp : Sp} {E : XK} {Q : VK} {us : List Value} {vs : List V} (F : FnOk X.prog X.w X.K X.mg X.base (CXE X.prog X.w) k f fd ps sp) (hr : Room k X.A) (hb : Binds X.K fd ps []) (I : Inv X pins σ H s) (r : Vals vs us)
    (h : sp (vs ++ []) H Q E) : wpAny (model X.prog X.w) X.A (call (.ref f) us) (EP X pins σ Q) (XP X pins σ E) s := by
  rw [List.append_nil] at h
  have hl : (us ++ []).length = ps.length := by rw [List.append_nil, <- r.length]; exact F.len _ _ _ _ h
  have hb1 := hb s us I.kIn hl
  rw [List.append_nil] at hb1
  refine wpAny_call (codeAny_mono (F.run X.A X.stack s H ⟨us, []⟩ us vs Q E hr I.env0 hb1 r h) λ rs s' hq => ?_)
  cases rs with
  | error e => exact ⟨H, s, I, hq⟩
  | ok fl =>
    cases fl with
    | ret u => exact I.after hq
    | next => exact False.elim hq
    | brk => exact False.elim hq
    | cont => exact False.elim hq
theorem run_makeX {k : Nat} {f C : Addr} {fd : FuncData} {ps : List Str} {sp : Sp} {E : XK} {Q : VK} {us : List Value} {vs : List V} (M : Mk X.K C f) (F : FnOk X.prog X.w X.K X.mg X.base (CXE X.prog X.w) k f fd ps sp) (hr : Room (k + 1) X.A) (hb : Binds X.K fd ps []) (I : Inv X pins σ H s) (r : Vals vs us)
    (h : ∀ x dx, H x = none -> H dx = none -> dx ≠ x -> sp (.ref x :: (vs ++ [])) (upd (upd H dx (.own x)) x (.ins C dx [])) (λ v H2 => v = .non /\ Q (.ref x) H2) E) :
    wpAny (model X.prog X.w) X.A (call (.ref C) us) (EP X pins σ Q) (XP X pins σ E) s := by
  have hq := h (s.heap.objs.size + 1) s.heap.objs.size (I.hok.fresh (Nat.le_succ _)) (I.hok.fresh (Nat.le_refl _)) (Nat.ne_of_lt (Nat.lt_succ_self _))
  have I2 := Inv.made (C := C) I
  have r2 : Vals (V.ref (s.heap.objs.size + 1) :: (vs ++ [])) (Value.ref (s.heap.objs.size + 1) :: (us ++ [])) := .cons rfl (r.append .nil)
  have hl : (Value.ref (s.heap.objs.size + 1) :: us ++ []).length = ps.length := by
    have e := r2.length
    rw [F.len _ _ _ _ hq] at e
    exact e.symm
  have hb1 := hb _ (Value.ref (s.heap.objs.size + 1) :: us) I2.kIn hl
  rw [List.cons_append] at hb1
  refine wpAny_call (a3o (f := f) I.kIn M.makes M.init (beq_iff_eq.mp M.fn) (codeAny_mono (F.run _ X.stack _ _ ⟨Value.ref (s.heap.objs.size + 1) :: us, []⟩ (Value.ref (s.heap.objs.size + 1) :: (us ++ [])) _ _ E (hr.make C us [])
    (I2.env0.make C us []) hb1 r2 hq) λ rs s' hq' => ?_))
  cases rs with
  | error e => exact ⟨_, _, I2, hq'⟩
  | ok fl =>
    cases fl with
    | ret u =>
      obtain ⟨v, H', I3, rv, ev, q3⟩ := I2.after hq'
      subst ev
      exact ⟨rv, ⟨V.ref (s.heap.objs.size + 1), H', I3, rfl, q3⟩⟩
    | next => exact False.elim hq'
    | brk => exact False.elim hq'
    | cont => exact False.elim hq'
end
section
variable {X : Cx} {k : Nat} {f C : Addr} {fd : FuncData} {ps : List Str} {sp : Sp} {x : Str} {p pos : Pos} {e : Expr} {es : List Expr} {t : TA}
theorem PA.wish {A0 : List Expr} (ha : PA X.nox A0 t) (pins : List (Addr × Obj)) (pos : Pos) (s : Shared) (σ : St) (H : Hp) (Q : List V -> Hp -> Prop) (Z : Value -> Shared -> Prop) (I : Inv X pins σ H s) (h : t σ H Q) : wpAny (model X.prog X.w) X.A (spliced (backTo pos (starEach A0 X.env))) (AP X pins σ Q) Z s :=
  wpAny_mono (ha pos pins s σ H Q (I.wish _) h) (λ _ _ ⟨vs, H1, I1, r, q⟩ => ⟨vs, H1, I1.unwish, r, q⟩) λ _ _ z => False.elim z
theorem px_call (F : FnOk X.prog X.w X.K X.mg X.base (CXE X.prog X.w) k f fd ps sp) (hr : Room k X.A) (hg : Gl X x) (hm : X.mg x = some (.ref f)) (hk : PySem.W.keepIn X.K (.ref f) = true) (hb : Binds X.K fd ps []) (ha : PA X.nox (e :: es) t) (hdb : (x == ("__debug__" : Str)) = false) (hs : (e :: es).any i0 = false) :
    PX X (.Call (.Name x p) (e :: es) [] pos) (λ E => g5 sp [] E t) := by
  intro pins s σ H Q E I h
  rw [List.any_cons, Bool.or_eq_false_iff] at hs
  refine wpAny_Call_Name_kw (w8 I hg hm ?_ hdb)
  refine PySem.W.callWith_K (h₀ := X.base) I.ok.mod.kin hk (thn (PA.wish ha pins pos s σ H _ _ I h) λ us s1 ⟨vs, H1, I1, r, q⟩ => ⟨I1.kIn, ?_⟩) (e8 hs.1) (d9 hs.2).1
  exact run_fnX F hr hb I1 r q
theorem px_make (M : Mk X.K C f) (F : FnOk X.prog X.w X.K X.mg X.base (CXE X.prog X.w) k f fd ps sp) (hr : Room (k + 1) X.A) (hg : Gl X x) (hm : X.mg x = some (.ref C)) (hb : Binds X.K fd ps []) (ha : PA X.nox (e :: es) t) (hdb : (x == ("__debug__" : Str)) = false) (hs : (e :: es).any i0 = false) :
    PX X (.Call (.Name x p) (e :: es) [] pos) (λ E => a1r C sp [] E t) := by
  intro pins s σ H Q E I h
  rw [List.any_cons, Bool.or_eq_false_iff] at hs
  refine wpAny_Call_Name_kw (w8 I hg hm ?_ hdb)
  refine PySem.W.callWith_K (h₀ := X.base) I.ok.mod.kin M.kp (thn (PA.wish ha pins pos s σ H _ _ I h) λ us s1 ⟨vs, H1, I1, r, q⟩ => ⟨I1.kIn, ?_⟩) (e8 hs.1) (d9 hs.2).1
  exact run_makeX M F hr hb I1 r q
end
def PSX (X : Cx) (st : Stmt) (t : XK -> TS) : Prop := ∀ (pins : List (Addr × Obj)) (s : Shared) (σ : St) (H : Hp) (D : Ends) (E : XK), Inv X pins σ H s -> t E D σ H -> wpAny (model X.prog X.w) X.A (exec st X.env) (SP X pins D) (XP X pins σ E) s
theorem psx_expr {X : Cx} {e : Expr} {te : XK -> TE} {pos : Pos} (he : PX X e te) (hs : swapsWith e none pos.line X.env = pure false) : PSX X (.Expr e pos) (λ E => F3 (te E)) := λ pins s σ H D E I h =>
  wpAny_Expr_any (thn (he pins s σ H _ E I h) λ v s1 ⟨x, H1, I1, r1, q1⟩ => ⟨σ, H1, I1, q1⟩) I.quiet hs
theorem psx_ret {X : Cx} {e : Expr} {te : XK -> TE} {pos : Pos} (he : PX X e te) : PSX X (.Return (some e) pos) (λ E => g8 (te E)) := λ pins s σ H D E I h =>
  wpAny_Return_some (thn (he pins s σ H _ E I h) λ v s1 ⟨x, H1, I1, r1, q1⟩ => ⟨x, σ, H1, I1, r1, q1⟩)
theorem psx_set {X : Cx} {i : Nat} {x : Str} {e : Expr} {te : XK -> TE} {pos pos' : Pos} (hN : X.N.Nodup) (hi : X.N[i]? = some x) (hx : X.env.scope.names.lookup x = some .local) (he : PX X e te) (hs : swapsWith e (some (.Name x pos')) pos.line X.env = pure false) : PSX X (.Assign [.Name x pos'] e pos) (λ E => e9 (te E) (b9 i)) := λ pins s σ H D E I h =>
  wpAny_Assign_Name (thn (he pins s σ H _ E I h) λ v s1 ⟨y, H1, I1, r1, q1⟩ => B7 I1 hN hi (.inl hx) r1 (λ s2 I2 => ⟨_, H1, I2, q1⟩) (.inr hx)) hs
def tTryS (t0 : XK -> TS) (hit : List (Addr × Addr)) (cx : Addr) (i : Nat) (ts : TS) : TS := λ D σ H =>
  t0 (λ cls _ H' => ∃ d, cls = .ref d /\ (d, cx) ∈ hit /\ ∀ a, H' a = none -> ts { nx := λ σ2 H2 => D.nx (σ2.set i none) H2, rt := D.rt, bk := λ σ2 H2 => D.bk (σ2.set i none) H2, ct := λ σ2 H2 => D.ct (σ2.set i none) H2 } (σ.set i (some (.ref a))) (upd H' a (.ext (TyAt a d)))) D σ H
theorem ps_tryS {X : Cx} {st : Stmt} {t0 : XK -> TS} {x n : Str} {cx : Addr} {i : Nat} {b0 : Stmt} {suite : List Stmt} {ts : TS} {hit : List (Addr × Addr)} {xp hp pos : Pos} (he : PSX X st t0) (hst : X.stack = X.env :: X.outer) (hfr : X.env.frame = some X.env.locals)
    (hg : Gl X x) (hm : X.mg x = some (.ref cx)) (hd : (x == ("__debug__" : Str)) = false) (hN : X.N.Nodup) (hi : X.N[i]? = some n) (hl : X.env.scope.names.lookup n = some .local)
    (hh : ∀ p ∈ hit, PySem.W.exmOne X.K (.ref p.1) (.ref p.2) = some true) (hs : ∀ a, PSs (suX X a) (b0 :: suite) ts) :
    PS X (.Try [st] [.ExceptHandler (some (.Name x xp)) (some n) (b0 :: suite) hp] [] [] pos) (tTryS t0 hit cx i ts) := by
  intro pins s σ H D I h
  refine wpAny_Try_except (wpAny_execs_cons (wpAny_mono (he pins s σ H _ _ I h) (λ f s1 q1 => ?_) λ e s1 hx => ?_))
  . cases f with
    | next => exact wpAny_execs_nil (wpAny_execs_nil q1)
    | _ => exact q1
  . obtain ⟨H2, s2, I2, a, cls, ky, H', rfl, os, bare, un, hok, ⟨ha, B, a0, fly, _, cov⟩, d, rfl, hhit, q⟩ := hx
    have iN : i < σ.length := by rw [I2.len]; exact (List.getElem?_eq_some_iff.mp hi).1
    have fly' := fly
    rw [hst] at fly'
    refine wpAny_looks_onW (by rw [I2.ok.frames, hst]) hfr fly' λ h4 held up4 => ?_
    refine wpAny_landsW held λ h5 fly5 up5 => ?_
    rw [<- hst] at fly5
    have up := up4.trans up5
    have ty5 : TyAt a d h5 := fly5.there
    have I5 := P1 I2 (s1 := s1) os bare un hok cov fly5 up ha ty5 TyAt.stay
    refine PySem.wpAny_handleBy_cons (codeAny_handlers_test (w8 (X := suX X a) (Inv.toS I5 a) hg hm ?_ hd)) (by intro z; cases z)
    have L := PySem.W.exm_one (M := model X.prog X.w) (h := h5) I5.kIn ty5.look (hh _ hhit)
    refine L.at ?_
    refine codeAny_handlers_suite_as ?_
    refine lands_againW fly5 λ h6 fly6 up6 => ?_
    have ty6 : TyAt a d h6 := fly6.there
    have I6 := P1 I2 (s1 := s1) os bare un hok cov fly6 (up.trans up6) ha ty6 TyAt.stay
    refine B7 (X := suX X a) (Inv.toS I6 a) hN hi (.inl hl) (v := .ref a) rfl (λ s7 I7 => ?_) (.inr hl)
    refine wpAny_mono (hs a pins s7 _ _ _ I7 (q a ha)) (λ fl s8 hq => ?_) λ _ _ z => False.elim z
    have out : ∀ {σ8 : St} {H8 : Hp}, Inv (suX X a) pins σ8 H8 s8 -> ∀ (R : Shared -> Prop), (∀ s9, Inv X pins (σ8.set i none) H8 s9 -> R s9) -> wpAny (model X.prog X.w) X.A (do bindName X.env n .none; unbindBehindTheSuite X.env n hp) (λ _ s9 => R s9) X.xe s8 := λ {σ8 H8} I8 R hR => by
      have I8' := Inv.ofS I2.ok I8
      have l8 : i < σ8.length := by rw [I8'.len]; exact (List.getElem?_eq_some_iff.mp hi).1
      refine wpAny_bind (wpAny_bindName (B7 I8' hN hi (.inl hl) (v := .non) rfl (λ s9 I9 => ?_) (.inr hl)))
      unfold unbindBehindTheSuite
      refine wpAny_onRaise (wpAny_mono (del_ok (v := .non) I9 hN hi hl (by rw [List.getElem?_set_self l8]) λ s10 I10 => hR s10 (by rw [List.set_set] at I10; exact I10)) (λ _ _ z => z) λ _ _ z => z)
    cases fl with
    | next =>
      obtain ⟨σ8, H8, I8, q8⟩ := hq
      exact out I8 _ λ s9 I9 => ⟨_, H8, I9, q8⟩
    | brk =>
      obtain ⟨σ8, H8, I8, q8⟩ := hq
      exact out I8 _ λ s9 I9 => ⟨_, H8, I9, q8⟩
    | cont =>
      obtain ⟨σ8, H8, I8, q8⟩ := hq
      exact out I8 _ λ s9 I9 => ⟨_, H8, I9, q8⟩
    | ret u =>
      obtain ⟨v, σ8, H8, I8, r8, q8⟩ := hq
      exact out I8 _ λ s9 I9 => ⟨v, _, H8, I9, r8, q8⟩
end Tv
namespace Tv
open PySem PySem.Spec PySem.Calls PyProof.Rows L2
section
variable {X : Cx} {pins : List (Addr × Obj)} {σ : St} {H H' : Hp} {s : Shared} {M : Model} {A : Around} {E : Value -> Shared -> Prop} {e : Addr} {cls : Value}
theorem set_same {ts : Array Value} {v : Value} {i : Nat} (h : ts[i]? = some v) : ts.setIfInBounds i v = ts := by
  obtain ⟨h1, h2⟩ := Array.getElem?_eq_some_iff.mp h
  apply Array.ext_getElem?
  intro j
  by_cases z : i = j
  . subst z
    rw [Array.getElem?_setIfInBounds_self_of_lt h1, h]
  . rw [Array.getElem?_setIfInBounds_ne z]
theorem same_fl {h : Heap} {T : Addr} {oT : Obj} {ts : Array Value} {v : Value} (eT : h.get? T = some oT) (dT : oT.data = .fields ts) (t3 : ts[3]? = some v) : ∀ b u, h.get? b = some u -> (h.update T (Obj.mapFields (·.setIfInBounds 3 v))).get? b = some u := λ b u q => by
  by_cases z : T = b
  . subst z
    rw [eT] at q
    cases q
    rw [Heap.get?_update_self _ eT (Obj.isFreed_of_fields (Obj.data_mapFields dT _))]
    obtain ⟨c, di, da, sl⟩ := oT
    cases dT
    show some { cls := c, dict := di, data := Data.fields (ts.setIfInBounds 3 v), slots := sl : Obj } = _
    rw [set_same t3]
  . rw [Heap.get?_update_other _ _ z]
    exact q
def Rai (X : Cx) (σ : St) (H : Hp) (e : Addr) (cls : Value) (s : Shared) : Prop := ∃ T a0 oe oT vs ts, Inv X [(e, oe), (T, oT)] σ H s /\ oe.cls = cls /\ oe.data = .fields vs /\ vs[0]? = some a0 /\ vs[1]? = some (.ref T) /\ T ≠ e /\ oT.data = .fields ts /\ ts[3]? = some (rawInt X.env.locals) /\ X.s₀.heap.get? e = none /\ X.s₀.heap.get? T = none
theorem N9 {p : Addr × Obj} (I : Inv X pins σ H s) (hp : p ∈ pins) : s.heap.get? p.1 = some p.2 /\ H p.1 = none := by
  obtain ⟨a, b, _⟩ := I.pin p (List.mem_append_right _ hp)
  exact ⟨a, b⟩
theorem rai_came (hfr : X.env.frame = some X.env.locals) (R : Rai X σ H e cls s) (h : ∀ s', Rai X σ H e cls s' -> E (.ref e) s') : cameBackBy M A X.env E (.ref e) s := by
  obtain ⟨T, a0, oe, oT, vs, ts, I, ec, ed, e0, e1, nT, dT, t3, s1, s2⟩ := R
  have pe := (N9 I (p := (e, oe)) (by simp)).1
  have pT := (N9 I (p := (T, oT)) (by simp)).1
  unfold cameBackBy
  refine wpAny_bind (wpAny_field pe ed e1 ?_)
  unfold setFlight
  refine wpAny_bind (wpAny_field pe ed e1 ?_)
  rw [if_pos (by rfl), hfr]
  refine wpAny_setField pT dT (Array.getElem?_eq_some_iff.mp t3).1 (h _ ⟨T, a0, oe, oT, vs, ts, I.kept (t' := s.toks) (same_fl pT dT t3), ec, ed, e0, e1, nT, dT, t3, s1, s2⟩)
theorem rai_pass {Q : Flow -> Shared -> Prop} {wt : String} (hfr : X.env.frame = some X.env.locals) (R : Rai X σ H e cls s) (h : ∀ s', Rai X σ H e cls s' -> E (.ref e) s') : wpAny M A (PySem.passOn wt (.ref e) X.env : Sem Flow) Q E s := by
  obtain ⟨T, a0, oe, oT, vs, ts, I, ec, ed, e0, e1, nT, dT, t3, s1, s2⟩ := R
  have pe := (N9 I (p := (e, oe)) (by simp)).1
  have pT := (N9 I (p := (T, oT)) (by simp)).1
  unfold PySem.passOn
  refine wpAny_bind (wpAny_field pe ed e1 ?_)
  unfold setFlight
  refine wpAny_bind (wpAny_bind (wpAny_field pe ed e1 ?_))
  rw [if_pos (by rfl), hfr]
  refine wpAny_setField pT dT (Array.getElem?_eq_some_iff.mp t3).1 (wpAny_throw (h _ ⟨T, a0, oe, oT, vs, ts, I.kept (t' := s.toks) (same_fl pT dT t3), ec, ed, e0, e1, nT, dT, t3, s1, s2⟩))
theorem rai_again {Q : Unit -> Shared -> Prop} (hfr : X.env.frame = some X.env.locals) (R : Rai X σ H e cls s) (h : Q () s) : wpAny M A (noteFrame (.ref e) X.env) Q E s := by
  obtain ⟨T, a0, oe, oT, vs, ts, I, ec, ed, e0, e1, nT, dT, t3, s1, s2⟩ := R
  have pe := (N9 I (p := (e, oe)) (by simp)).1
  have pT := (N9 I (p := (T, oT)) (by simp)).1
  exact wpAny_noteFrame_againW (base := X.s₀.heap) hfr ⟨oe, vs, T, oT, ts, pe, ⟨ec, e0⟩, ed, e1, s2, nT, pT, dT, t3⟩ h
theorem rai_out {E1 : XK} {c : Addr} {E' : Value -> Shared -> Prop} (hex : X.ex = []) (hst : X.stack = X.env :: X.outer) (hfr : X.env.frame = some X.env.locals) (R : Rai X σ H e cls s) (q : E1 cls (some c) H) :
    wpAny (model X.prog X.w) X.A (leaving X.env (.ref e)) (λ _ s2 => CXE X.prog X.w X.outer X.H₀ X.s₀ E1 (.ref e) s2) E' s := by
  obtain ⟨T, a0, oe, oT, vs, ts, I, ec, ed, e0, e1, nT, dT, t3, s1, s2⟩ := R
  obtain ⟨pe, he⟩ := N9 I (p := (e, oe)) (by simp)
  obtain ⟨pT, hT⟩ := N9 I (p := (T, oT)) (by simp)
  exact fly_held (c := c) I hex hst hfr pe ec ed e0 e1 nT pT dT t3 he hT s1 s2 q
theorem a3K (I : Inv X pins σ H s) {b : Addr} (h : s.heap.get? b = none) : H b = none /\ b ≠ X.env.locals /\ b ∉ X.fs := by
  refine ⟨?_, λ z => ?_, λ m => ?_⟩
  . cases z : H b with
    | none => rfl
    | some u =>
      obtain ⟨o, eo⟩ := ObjOk.there (I.hok b u z)
      rw [h] at eo
      cases eo
  . obtain ⟨m, ⟨o, _, _, ho, _⟩, _⟩ := I.loc
    rw [<- z, h] at ho
    cases ho
  . obtain ⟨_, o, ho, _⟩ := I.funs.mem m
    rw [h] at ho
    cases ho
theorem new_s0 (I : Inv X pins σ H s) (hex : X.ex = []) {b : Addr} (h : s.heap.get? b = none) : X.s₀.heap.get? b = none := by
  cases z : X.s₀.heap.get? b with
  | none => rfl
  | some o =>
    obtain ⟨o', e⟩ := I.base.there b o z (by rw [hex]; simp)
    rw [h] at e
    cases e
theorem rai_note {Q : Unit -> Shared -> Prop} (I : Inv X pins σ H s) (hex : X.ex = []) (hst : X.stack = X.env :: X.outer) (hfr : X.env.frame = some X.env.locals) (fr : A.frames = some X.stack) {h1 : Heap} {tk : Nat} {oe : Obj} {vs : Array Value} {a0 : Value}
    (kp : ∀ b o, s.heap.get? b = some o -> h1.get? b = some o) (ne : s.heap.get? e = none) (eo : h1.get? e = some oe) (ed : oe.data = .fields vs) (e0 : vs[0]? = some a0) (e1 : vs[1]? = some .none) (hq : ∀ s', Rai X σ H e oe.cls s' -> Q () s') :
    wpAny M A (noteFrame (.ref e) X.env) Q E { s with heap := h1, toks := tk } := by
  have hl := PySem.W.funFrames_hide (as := frs X.stack) I.stack λ env he b hb => List.mem_filterMap.mpr ⟨env, he, hb⟩
  have bs : (PySem.W.hideAll s.heap (frs X.stack)).StaysIn s.heap := λ b o q => PySem.W.of_hideAll _ q
  have bn : ∀ b, s.heap.get? b = none -> (PySem.W.hideAll s.heap (frs X.stack)).get? b = none := λ b hb => by
    cases z : (PySem.W.hideAll s.heap (frs X.stack)).get? b with
    | none => rfl
    | some o =>
      have := bs b o z
      rw [hb] at this
      cases this
  rw [hst] at hl
  unfold noteFrame
  simp only [hfr]
  refine wpAny_bind (wpAny_field eo ed e1 ?_)
  rw [if_neg (by decide)]
  refine wpAny_entryW (s := { s with heap := h1, toks := tk }) (base := PySem.W.hideAll s.heap (frs X.stack)) (outer := X.outer) (by rw [fr, hst]) (by rw [hst]; exact hl.of_keeps λ b o hb _ => ⟨o, kp b o hb, rfl⟩) hfr eo (λ b o q => kp b o (bs b o q)) (bn e ne) ed (Array.getElem?_eq_some_iff.mp e1).1 e0 λ h' ⟨n1, n2, n3, n4⟩ => ?_
  obtain ⟨oe', vs', T, oT, ts, f1, ⟨f2, f3⟩, f4, f5, f6, f7, f8, f9, f10⟩ := n3
  obtain ⟨u1, u2⟩ := a3J (a := e) (cls := .none) (a0 := a0) I (hm := s.heap) (h' := h') Un.refl I.hok (λ b o eb _ nb => PySem.W.hideAll_get _ eb nb) n1 (λ b o hb nf => n4 b o (kp b o hb) nf)
  have I2 : Inv X pins σ H { s with heap := h', toks := tk } := I.call' (H' := H) (s' := { s with heap := h', toks := tk }) (ch := []) rfl u1 u2 I.bare (λ b z => absurd z (by simp))
  have nT : s.heap.get? T = none := by
    cases z : s.heap.get? T with
    | none => rfl
    | some o =>
      by_cases m : T ∈ frs X.stack
      . rw [hst] at m
        obtain ⟨_, o2, q1, q2⟩ := n2.mem m
        rw [f8] at q1
        cases q1
        exact absurd f9 (q2 ts)
      . have := PySem.W.hideAll_get _ z m
        rw [f6] at this
        cases this
  obtain ⟨g1, g2, g3⟩ := a3K I ne
  obtain ⟨k1, k2, k3⟩ := a3K I nT
  refine hq _ ⟨T, a0, oe', oT, vs', ts, I2.pins_of λ p hp => ?_, f2, f4, f3, f5, f7, f9, f10, new_s0 I hex ne, new_s0 I hex nT⟩
  rcases List.mem_cons.mp hp with rfl | hp
  . exact ⟨f1, g1, g2, g3, λ v z => by rw [f4] at z; cases z⟩
  . have : p = (T, oT) := by simpa using hp
    subst this
    exact ⟨f8, k1, k2, k3, λ v z => by rw [f9] at z; cases z⟩
theorem name_goes {i : Nat} {n : Str} {hp : Pos} {Q : Unit -> Shared -> Prop} (I : Inv X pins σ H s) (hN : X.N.Nodup) (hi : X.N[i]? = some n) (hl : X.env.scope.names.lookup n = some .local) (hR : ∀ s', Inv X pins (σ.set i none) H s' -> Q () s') :
    wpAny M A (do bindName X.env n .none; unbindBehindTheSuite X.env n hp) Q E s := by
  have l8 : i < σ.length := by rw [I.len]; exact (List.getElem?_eq_some_iff.mp hi).1
  refine wpAny_bind (wpAny_bindName (B7 I hN hi (.inl hl) (v := .non) rfl (λ s9 I9 => ?_) (.inr hl)))
  unfold unbindBehindTheSuite
  refine wpAny_onRaise (wpAny_mono (del_ok (E := λ _ _ => False) (v := .non) I9 hN hi hl (by rw [List.getElem?_set_self l8]) λ s10 I10 => hR s10 (by rw [List.set_set] at I10; exact I10)) (λ _ _ z => z) λ _ _ z => False.elim z)
theorem rai_name {i : Nat} {n : Str} {hp : Pos} {Q : Unit -> Shared -> Prop} (R : Rai X σ H e cls s) (hN : X.N.Nodup) (hi : X.N[i]? = some n) (hl : X.env.scope.names.lookup n = some .local) (hR : ∀ s', Rai X (σ.set i none) H e cls s' -> Q () s') :
    wpAny M A (do bindName X.env n .none; unbindBehindTheSuite X.env n hp) Q E s := by
  obtain ⟨T, a0, oe, oT, vs, ts, I, r⟩ := R
  exact name_goes I hN hi hl λ s' I' => hR s' ⟨T, a0, oe, oT, vs, ts, I', r⟩
end
section
open PySem.W
variable {prog : Program} {w : World} {A : Around} {E : Value -> Shared -> Prop} {K : PySem.W.Frag} {x D : Addr} {s : Shared}
def FldAt (x : Addr) (h : Heap) : Prop := ∃ o vs, h.get? x = some o /\ o.data = .fields vs
theorem FldAt.notType {M : Model} {h : Heap} (f : FldAt x h) : Looks M h (isType (.ref x)) false := by
  obtain ⟨o, vs, h1, h2⟩ := f
  intro A' Q' E' s' k q
  unfold isType
  unfold loadHead
  refine wpAny_bind (wpAny_loadPart (k _ _ h1) (wpAny_pure ?_))
  rw [h2]
  exact q
theorem a1N {M : Model} {msg : String} {Q : Value -> Shared -> Prop} (X : K.In s.heap) (hb : mroIn K D (.type "BaseException") = some true) (t : TyAt x D s.heap) (f : FldAt x s.heap) (h : Q (.ref x) s) : wpAny M A (excFromValue (.ref x) msg) Q E s := by
  have l0 := t.look (M := M)
  have l1 := looks_mroIn (M := M) X hb
  have l2 := f.notType (M := M)
  obtain ⟨hh, g, d, tk, os⟩ := s
  unfold excFromValue isExcClass
  refine wpAny_bind (wpAny_bind (l2.at ?_))
  refine wpAny_pure ?_
  unfold isInstance
  refine wpAny_bind (wpAny_bind (l0.at (l1.at ?_)))
  exact wpAny_pure h
theorem a4S {v : Value} {Q : Value -> Shared -> Prop} (f : A7 x s.heap) (h : Q .none s) : wpAny (model prog w) A (holding [v] (runValue (.builtin "proto.unchain" ⟨[v, .ref x, .ref x, .bool false], []⟩))) Q E s := by
  obtain ⟨o, vs, h1, h2, h3⟩ := f
  refine wpAny_holding (wpAny_runValue (codeAny_builtin (b := Builtin.«proto.unchain») (entryFor_of_tree (by kernel_rfl)) ?_))
  unfold Builtin.«proto.unchain»
  refine wpAny_bind (wpAny_field h1 h2 h3 ?_)
  rw [if_pos (by rfl)]
  exact wpAny_pure h
theorem a2H {h : Heap} {b : Addr} {o : Obj} {vs : Array Value} {i : Nat} {v : Value} (e : h.get? b = some o) (d : o.data = .fields vs) : ∃ o', (h.update b (Obj.mapFields (·.setIfInBounds i v))).get? b = some o' /\ o'.cls = o.cls /\ o'.data = .fields (vs.setIfInBounds i v) :=
  ⟨_, Heap.get?_update_self _ e (Obj.isFreed_of_fields (Obj.data_mapFields d _)), Obj.cls_mapFields _ _, Obj.data_mapFields d _⟩
theorem a2I {h : Heap} {b : Addr} {i : Nat} {v : Value} {g : Heap} (k : ∀ c o, g.get? c = some o -> h.get? c = some o) (n : g.get? b = none) : ∀ c o, g.get? c = some o -> (h.update b (Obj.mapFields (·.setIfInBounds i v))).get? c = some o := λ c o q => by
  rw [Heap.get?_update_other _ _ (λ z => by rw [z, q] at n; cases n)]
  exact k c o q
theorem look_ty {M : Model} {h : Heap} {c : Addr} {o : Obj} {t : Value} (e : h.get? c = some o) (ht : o.cls = t) : Looks M h (typeOf (.ref c)) t := by
  rw [<- ht]
  exact (Looks.ld e).andThen .now
theorem raise_two {env : Env} {X1 X2 : Sem Value} {a d cl : Addr} {Q : Flow -> Shared -> Prop} (hH : A.handled = some (.ref a)) (cd : mroIn K d (.type "BaseException") = some true) (cc : mroIn K cl (.type "BaseException") = some true)
    (h1 : wpAny (model prog w) A X1 (λ v s1 => ∃ (b t : Addr) (g : Heap) (oc : Obj), v = .ref b /\ K.In g /\ g.get? cl = some oc /\ oc.cls = .type "type" /\ TyAt a d g /\ A7 a g /\ g.get? b = none /\ wpAny (model prog w) A X2 (λ u s2 => u = .ref a /\ (∀ c o, g.get? c = some o -> s2.heap.get? c = some o) /\ s2.heap.get? b = some { cls := .ref cl, data := .fields #[.ref t, .none, .none, .none, .bool false, .none] } ∧
      ∀ h5 o, (∀ c o, g.get? c = some o -> h5.get? c = some o) -> h5.get? b = some o -> o.cls = .ref cl -> o.data = .fields #[.ref t, .none, .ref a, .ref a, .bool true, .none] -> E (.ref b) { s2 with heap := h5 }) E s1) E s) :
    wpAny (model prog w) A (raiseStmt env (some X1) (some X2)) Q E s := by
  unfold raiseStmt
  refine wpAny_bind (wpAny_mono h1 (λ v s1 ⟨b, t, g, oc, hv, X, hC, hcc, ta, na, nb, h2⟩ => ?_) λ _ _ z => z)
  subst hv
  refine wpAny_bind (wpAny_holding (wpAny_mono h2 (λ u s2 ⟨hu, k2, eb, fin⟩ => wpAny_bind (wpAny_pure ?_)) λ _ _ z => z))
  subst hu
  have fa : FldAt a g := by
    obtain ⟨o, vs, f1, f2, _⟩ := na
    exact ⟨o, vs, f1, f2⟩
  have stT : ∀ {g2 : Heap}, (∀ c o, g.get? c = some o -> g2.get? c = some o) -> TyAt a d g2 := λ k => by
    obtain ⟨o, f1, f2⟩ := ta
    exact ⟨o, k _ _ f1, f2⟩
  have stF : ∀ {g2 : Heap}, (∀ c o, g.get? c = some o -> g2.get? c = some o) -> FldAt a g2 := λ k => by
    obtain ⟨o, vs, f1, f2⟩ := fa
    exact ⟨o, vs, k _ _ f1, f2⟩
  have stN : ∀ {g2 : Heap}, (∀ c o, g.get? c = some o -> g2.get? c = some o) -> A7 a g2 := λ k => by
    obtain ⟨o, vs, f1, f2, f3⟩ := na
    exact ⟨o, vs, k _ _ f1, f2, f3⟩
  have nab : (Value.ref a != Value.ref b) = true := by
    have : a ≠ b := λ z => by
      obtain ⟨o, f1, _⟩ := ta
      rw [z, nb] at f1
      cases f1
    simpa using this
  refine wpAny_bind (wpAny_holding (a1N (K := K) (X.keeps k2) cc ⟨_, eb, rfl⟩ ⟨_, _, eb, rfl⟩ ?_))
  obtain ⟨o3, p3, c3, d3⟩ := a2H (i := 3) (v := .ref a) eb rfl
  obtain ⟨o4, p4, c4, d4⟩ := a2H (i := 4) (v := .bool true) p3 d3
  obtain ⟨o5, p5, c5, d5⟩ := a2H (i := 2) (v := .ref a) p4 d4
  have k3 := a2I (i := 3) (v := .ref a) k2 nb
  have k4 := a2I (i := 4) (v := .bool true) k3 nb
  have k5 := a2I (i := 2) (v := .ref a) k4 nb
  obtain ⟨hp, gs, dr, tk, os⟩ := s2
  refine wpAny_bind (wpAny_holding (a1N (K := K) (X.keeps k2) cd (stT k2) (stF k2) ?_))
  refine wpAny_bind (wpAny_setField eb rfl (by simp) ?_)
  refine wpAny_bind (wpAny_setField p3 d3 (by simp) ?_)
  have l1 := FldAt.notType (M := model prog w) ⟨o4, _, p4, d4⟩
  have l2 := TyAt.look (M := model prog w) (x := b) (D := cl) ⟨o4, p4, c4.trans c3⟩
  have l3 := look_ty (M := model prog w) (k4 _ _ hC) hcc
  refine wpAny_bind (l1.at ?_)
  refine wpAny_bind ?_
  unfold raisedInstance
  refine wpAny_bind (l2.at (wpAny_bind (l3.at ?_)))
  refine wpAny_pure ?_
  unfold setFlight
  refine wpAny_bind (wpAny_bind (wpAny_field p4 d4 (x := .none) rfl ?_))
  refine wpAny_pure ?_
  unfold raiseNew
  refine wpAny_bind (wpAny_handled ?_)
  rw [hH]
  show wpAny _ _ (if (Value.ref a != Value.ref b) = true then (do let _ ← holding [Value.ref b] (runValue (.builtin "proto.unchain" ⟨[.ref b, .ref a, .ref a, .bool false], []⟩)); let _ ← setField (.ref b) 2 (.ref a); throw (Value.ref b)) else throw (Value.ref b)) _ _ _
  rw [if_pos nab]
  refine wpAny_bind (a4S (stN k4) (wpAny_bind ?_))
  refine wpAny_setField p4 d4 (by simp) (wpAny_throw ?_)
  exact fin _ o5 k5 p5 ((c5.trans c4).trans c3) d5
end
section
variable {X : Cx} {pins : List (Addr × Obj)} {σ : St} {H : Hp} {s : Shared}
theorem call_exc {E : Value -> Shared -> Prop} {y : Str} {cl : Addr} {e : Expr} {es : List Expr} {ta : TA} {yp cp : Pos} {R : List V -> Hp -> Prop} (I : Inv X pins σ H s) (hg : Gl X y) (hm : X.mg y = some (.ref cl)) (c : ExcC X.K cl) (ha : PA X (e :: es) ta) (hs : (e :: es).any i0 = false) (hd : (y == ("__debug__" : Str)) = false) (hx : ∀ v s', X.xe v s' -> E v s')
    (h : ta σ H λ vs H1 => vs.length <= sizeLine /\ R vs H1) : wpAny (model X.prog X.w) X.A (eval (.Call (.Name y yp) (e :: es) [] cp) X.env) (λ v s1 => ∃ b us vs H1 s2 h1, v = .ref b /\ s1 = { s2 with heap := h1 } /\ Inv X pins σ H1 s2 /\ Heap.MadeExcOf s2.heap h1 b (.ref cl) us /\ R vs H1) E s := by
  obtain ⟨m, ns, nm, qn, bs, hdct, sn, sb, ab, co, dd, k0, k1, k2, k3, k5, mN, hC, hN, hni, T⟩ := a2G I.ok.mod.kin c.ex
  have hs' := hs
  rw [List.any_cons, Bool.or_eq_false_iff] at hs'
  refine wpAny_Call_ofName (w8 I hg hm ?_ hd)
  unfold callWith
  have h1 := ha cp pins s σ H _ I h
  have hp := (d9 (env := X.env) (pos := cp) hs).1
  refine wpAny_bind (wpAny_holding (wpAny_mono (Q := λ (a : Args) s2 => a.kw = [] /\ ∃ vs H2, Inv X pins σ H2 s2 /\ Vals vs a.pos /\ vs.length <= sizeLine /\ R vs H2) (E := E) ?_ (λ a s2 h2 => wpAny_bind (wpAny_standAt ?_)) λ _ _ z => z))
  . rw [e8 hs'.1] at h1 ⊢
    exact Calls.evalArgs_plain (wpAny_mono h1 (λ us s2 ⟨vs, H2, I2, r2, hz, q2⟩ => ⟨rfl, vs, H2, I2, r2, hz, q2⟩) hx)
  . obtain ⟨us, kw⟩ := a
    obtain ⟨rfl, vs, H2, I2, r2, hz, q2⟩ := h2
    simp only [hp]
    have hlen : us.length <= sizeLine := by rw [<- r2.length]; exact hz
    have hC2 := I2.bk _ _ hC
    have hN2 := hN.keeps I2.bk
    have T2 := T.keeps I2.bk
    obtain ⟨hh, g, d, tk, os⟩ := s2
    refine wpAny_bind (wpAny_keeperOf_exc hC2 ?_)
    refine wpAny_bind (wpAny_call_exc_subU (hrest := hlen) PySem.F.excBase_ValueError (bmB := mroV) (by decide +kernel) PySem.F.excBase_ValueError T2 hC2 hN2 hni λ h' b hb => ?_)
    exact wpAny_bind (wpAny_holding (wpAny_point (wpAny_pure ⟨b, us, vs, H2, _, h', rfl, rfl, I2, hb, q2⟩)))
def Frm (X : Cx) (pins : List (Addr × Obj)) (σ : St) (cl a : Addr) (R : Hp -> Prop) (v : Value) (s' : Shared) : Prop := ∃ b H1 s2 h1 o t, v = .ref b /\ s' = { s2 with heap := h1 } /\ Inv X pins σ H1 s2 /\ (∀ c o, s2.heap.get? c = some o -> h1.get? c = some o) /\ s2.heap.get? b = none /\ h1.get? b = some o /\ o.cls = .ref cl /\ o.data = .fields #[.ref t, .none, .ref a, .ref a, .bool true, .none] /\ R H1
theorem a4T {y n : Str} {cl a d : Addr} {i : Nat} {e : Expr} {es : List Expr} {ta : TA} {yp cp np rp : Pos} {R : Hp -> Prop} {Q : Flow -> Shared -> Prop} (I : Inv (suX X a) pins σ H s) (hg : Gl X y) (hm : X.mg y = some (.ref cl)) (c : ExcC X.K cl) (cd : ExcC X.K d) (ha : PA (suX X a) (e :: es) ta) (hs : (e :: es).any i0 = false) (hy : (y == ("__debug__" : Str)) = false)
    (hi : X.N[i]? = some n) (hl : X.env.scope.names.lookup n = some .local) (hn : (n == ("__debug__" : Str)) = false) (hσ : σ[i]? = some (some (.ref a)))
    (h : ta σ H λ vs H1 => vs.length <= sizeLine /\ H1 a = some (.ext (TyN a d)) /\ R H1) :
    wpAny (model X.prog X.w) (suX X a).A (exec (.Raise (some (.Call (.Name y yp) (e :: es) [] cp)) (some (.Name n np)) rp) X.env) Q (Frm (suX X a) pins σ cl a R) s := by
  rw [arm_exec_Raise]
  refine wpAny_bind (wpAny_standAt ?_)
  show wpAny _ _ (raiseStmt X.env (some (do let v ← eval (.Call (.Name y yp) (e :: es) [] cp) X.env; standAt rp; pure v)) (some (do let v ← eval (.Name n np) X.env; standAt rp; pure v))) _ _ _
  refine raise_two (K := X.K) (a := a) (d := d) (cl := cl) rfl cd.hb c.hb (wpAny_bind (wpAny_mono (call_exc (X := suX X a) (E := Frm (suX X a) pins σ cl a R) (R := λ vs H1 => H1 a = some (.ext (TyN a d)) /\ R H1) I hg hm c ha hs hy (λ _ _ z => False.elim z) h) (λ v s1 hv => wpAny_bind (wpAny_standAt (wpAny_pure ?_))) λ _ _ z => z))
  obtain ⟨b, us, vs, H1, s2, h1, rfl, rfl, I2, hb, ea, q⟩ := hv
  obtain ⟨t, hbo, _, _⟩ := hb.there
  obtain ⟨m, ns, nm, qn, bs, hdct, sn, sb, ab, co, dd, k0, k1, k2, k3, k5, mN, hC, _, _, _⟩ := a2G I2.kIn c.ex
  have I3 : Inv (suX X a) pins σ H1 { s2 with heap := h1 } := I2.kept (t' := s2.toks) hb.keeps
  have tyN : TyN a d s2.heap := (I2.hok a _ ea).1
  obtain ⟨ma, hns, hlk⟩ := id I3.loc
  obtain ⟨u, ru, lk⟩ := hlk i n (.ref a) hi hσ (.inl hl)
  cases ru
  have hmn : ma n = some (.ref a) := by
    rcases lk with ⟨_, z⟩ | ⟨z, _⟩
    . exact z
    . have hl' : X.env.kindOf n = some .local := hl
      replace z : X.env.kindOf n = some .cell \/ X.env.kindOf n = some .free := z
      rw [hl'] at z
      rcases z with z | z <;> cases z
  refine ⟨b, t, s2.heap, _, rfl, I2.kIn, hC, rfl, tyN.1, tyN.2, hb.new, wpAny_bind (wpAny_Name (wpAny_loadName_local I3.ok.kind hl hns hmn (wpAny_bind (wpAny_standAt (wpAny_pure ⟨rfl, hb.keeps, hbo, λ h5 o kp eb ec ed => ⟨b, H1, s2, h5, o, t, rfl, rfl, I2, kp, hb.new, eb, ec, ed, q⟩⟩)))) hn)⟩
def tTryR (t0 : XK -> TS) (hit : List (Addr × Addr)) (cx : Addr) (i : Nat) (cl : Addr) (ta : TA) (exs : List (Str × Addr)) (E : XK) : TS := λ D σ H =>
  t0 (λ cls k H' => ∃ d, cls = .ref d /\ k = none /\ (d, cx) ∈ hit /\ (∃ z, exs.lookup z = some d) /\ ∀ a, H' a = none -> ta (σ.set i (some (.ref a))) (upd H' a (.ext (TyN a d))) λ vs H1 => vs.length <= sizeLine /\ H1 a = some (.ext (TyN a d)) /\ E (.ref cl) (some a) H1) D σ H
theorem ps_tryR {st : Stmt} {t0 : XK -> TS} {x n y : Str} {cx cl : Addr} {i : Nat} {e : Expr} {es : List Expr} {ta : TA} {hit : List (Addr × Addr)} {exs : List (Str × Addr)} {E : XK} {xp hp pos yp cp np rp : Pos} (he : PSX X st t0) (hex : X.ex = []) (hst : X.stack = X.env :: X.outer) (hfr : X.env.frame = some X.env.locals)
    (hg : Gl X x) (hm : X.mg x = some (.ref cx)) (hd : (x == ("__debug__" : Str)) = false) (hN : X.N.Nodup) (hi : X.N[i]? = some n) (hl : X.env.scope.names.lookup n = some .local) (hn : (n == ("__debug__" : Str)) = false)
    (hh : ∀ p ∈ hit, PySem.W.exmOne X.K (.ref p.1) (.ref p.2) = some true) (gy : Gl X y) (my : X.mg y = some (.ref cl)) (cy : ExcC X.K cl) (dy : (y == ("__debug__" : Str)) = false) (hs : (e :: es).any i0 = false)
    (cs : ∀ z d, exs.lookup z = some d -> ExcC X.K d) (ha : ∀ a, PA (suX X a) (e :: es) ta) (rsf : ∀ (σ : St) (H : Hp) (s : Shared) (e cl c : Addr), Rai X σ H e (.ref cl) s -> E (.ref cl) (some c) H -> X.xe (.ref e) s) :
    PS X (.Try [st] [.ExceptHandler (some (.Name x xp)) (some n) [.Raise (some (.Call (.Name y yp) (e :: es) [] cp)) (some (.Name n np)) rp] hp] [] [] pos) (tTryR t0 hit cx i cl ta exs E) := by
  intro pins s σ H D I h
  refine wpAny_Try_except (wpAny_execs_cons (wpAny_mono (he pins s σ H _ _ I h) (λ f s1 q1 => ?_) λ e s1 hx => ?_))
  . cases f with
    | next => exact wpAny_execs_nil (wpAny_execs_nil q1)
    | _ => exact q1
  . obtain ⟨H2, s2, I2, a, cls, ky, H', rfl, os, bare, un, hok, ⟨ha', B, a0, fly, nc, cov⟩, d, rfl, rfl, hhit, ⟨z, hz⟩, q⟩ := hx
    have iN : i < σ.length := by rw [I2.len]; exact (List.getElem?_eq_some_iff.mp hi).1
    have fly' := fly
    rw [hst] at fly'
    refine looks_any (P := True) (by rw [I2.ok.frames, hst]) hfr fly' (λ _ => nc rfl) λ h4 held nc4 up4 => ?_
    refine lands_any (P := True) held nc4 λ h5 fly5 nc5 up5 => ?_
    rw [<- hst] at fly5
    have up := up4.trans up5
    have ty5 : TyN a d h5 := ⟨fly5.there, nc5 trivial⟩
    have I5 := P1 I2 (s1 := s1) os bare un hok cov fly5 up ha' ty5 TyN.stay
    refine PySem.wpAny_handleBy_cons (codeAny_handlers_test (w8 (X := suX X a) (Inv.toS I5 a) hg hm ?_ hd)) (by intro z; cases z)
    have L := PySem.W.exm_one (M := model X.prog X.w) (h := h5) I5.kIn ty5.1.look (hh _ hhit)
    refine L.at ?_
    refine codeAny_handlers_suite_as ?_
    refine again_any (P := True) fly5 (λ _ => nc5 trivial) λ h6 fly6 nc6 up6 => ?_
    have I6 := P1 I2 (s1 := s1) os bare un hok cov fly6 (up.trans up6) ha' (⟨fly6.there, nc6 trivial⟩ : TyN a d h6) TyN.stay
    refine B7 (X := suX X a) (Inv.toS I6 a) hN hi (.inl hl) (v := .ref a) rfl (λ s7 I7 => ?_) (.inr hl)
    refine wpAny_execs_cons (wpAny_mono (a4T I7 gy my cy (cs z d hz) (ha a) hs dy hi hl hn (by rw [List.getElem?_set_self iN]) (q a ha')) (λ _ _ z => False.elim z) λ v s8 hv => ?_)
    obtain ⟨b, H1, s9, h9, o, t, rfl, rfl, I9, kp, nb, eb, ec, ed, qE⟩ := hv
    have I9' := Inv.ofS I2.ok I9
    have ec' := ec
    refine rai_note (X := X) (A := X.A.mark (some (.ref a))) (tk := s9.toks) I9' hex hst hfr I2.ok.frames kp nb eb ed rfl rfl λ s10 R10 => ?_
    rw [ec] at R10
    refine rai_name R10 hN hi hl λ s11 R11 => ?_
    refine rai_pass hfr R11 λ s12 R12 => ?_
    refine rai_again hfr R12 ?_
    exact rai_came hfr R12 λ s13 R13 => rsf _ _ _ _ _ a R13 qE
end
section
variable {X : Cx} {tg : Expr}
def ItR (X : Cx) (tg : Expr) (r : V -> Hp -> (It -> Hp -> Th -> Prop) -> Prop) : Prop :=
  ∀ (pins : List (Addr × Obj)) (s : Shared) (σ : St) (H : Hp) (x : V) (v : Value) (R : It -> Hp -> Th -> Prop), Inv X pins σ H s -> RelV x v -> r x H R -> wpAny (model X.prog X.w) X.A (pyIter v) (PIE2 X pins σ tg R) X.xe s
@[irreducible] def w5 (x : V) (H : Hp) (R : It -> Hp -> Th -> Prop) : Prop := match x with
  | .str z => R (Its z) H none
  | .ref a => match H a with
    | some (.lst _) => R (Itl0 a) H none
    | some (.tup _) => R (Itt0 a) H none
    | some (.dK kvs) => ∀ o, R (Itd a o kvs) (upd H a (.frz o (.dK kvs))) (some (a, .dK kvs))
    | some (.frz o (.dK kvs)) => R (Itd a o kvs) H none
    | _ => False
  | _ => False
theorem a1O {X : Cx} : ∀ a u, (none : Th) = some (a, u) -> NF X a := λ _ _ e => by cases e
theorem it_dict {pins : List (Addr × Obj)} {s : Shared} {σ : St} {H : Hp} {R : It -> Hp -> Th -> Prop} {a : Addr} {o : Obj} {kvs : List (Key × V)} {th : Th} (nf : ∀ a u, th = some (a, u) -> NF X a) (I : Inv X pins σ H s) (e : H a = some (.frz o (.dK kvs))) (h : R (Itd a o kvs) H th) : wpAny (model X.prog X.w) X.A (pyIter (.ref a)) (PIE2 X pins σ tg R) X.xe s := by
  obtain ⟨lo, _, eo, vs, ep, r, d⟩ := frz_at I e
  refine wpAny_pyIter_dict lo d ⟨th, nf, s.heap.objs.size, [s.heap.objs.size], _, Itd a o kvs, H, rfl, I.kept (t' := s.toks) λ b o e => Heap.get?_push_of_some _ e, turn_dict s.heap.objs.size a o r (a0v eo d), ⟨_, Heap.get?_push_size _ rfl, rfl, rfl⟩, λ b hb => ?_, h⟩
  have e : b = s.heap.objs.size := by simpa using hb
  subst e
  exact I.fpOk (Nat.le_refl _) (I.hok.fresh (Nat.le_refl _))
theorem it_G : ItR X tg w5 := λ pins s σ H x v R I r h => by
  unfold w5 at h
  split at h
  . rename_i z
    obtain ⟨t, rfl⟩ := r
    have fin : ∀ (o : Obj) (ty : String), ty = "str_ascii_iterator" \/ ty = "str_iterator" -> (s.heap.push o).IsStrIter s.heap.objs.size ty z t 0 -> PIE2 X pins σ tg R (.ref s.heap.objs.size) { s with heap := s.heap.push o } := λ o ty hty st => by
      refine ⟨none, a1O, s.heap.objs.size, [s.heap.objs.size], _, Its z, H, rfl, I.kept (t' := s.toks) λ b o e => Heap.get?_push_of_some _ e, turn_str _ z t ty hty, st, λ b hb => ?_, h⟩
      have e : b = s.heap.objs.size := by simpa using hb
      subst e
      exact I.fpOk (Nat.le_refl _) (I.hok.fresh (Nat.le_refl _))
    cases ha : z.cps.all (· < 128)
    . exact wpAny_pyIter_wide ha (fin _ _ (.inr rfl) ⟨_, Heap.get?_push_size _ rfl, rfl, rfl⟩)
    . exact wpAny_pyIter_ascii ha (fin _ _ (.inl rfl) ⟨_, Heap.get?_push_size _ rfl, rfl, rfl⟩)
  . rename_i a
    cases r
    split at h
    . rename_i xs e
      obtain ⟨its, rv, p, hz⟩ := I.list (.inl (.inl e))
      refine wpAny_pyIter_list p.isList ⟨none, a1O, s.heap.objs.size, [s.heap.objs.size], _, Itl0 a, H, rfl, I.kept (t' := s.toks) λ b o e => Heap.get?_push_of_some _ e, (turn_list (K := X.K) a _).imp (λ i H ⟨xs, x, h1, h2⟩ => ⟨xs, x, .inl h1, h2⟩) (λ i H x H' _ ⟨h1, h2⟩ => ⟨h1, λ xs h => h2 xs (.inl h)⟩) (λ i H ⟨xs, h1, h2⟩ => ⟨xs, .inl h1, h2⟩), ⟨_, Heap.get?_push_size _ rfl, rfl, rfl⟩, λ b hb => ?_, h⟩
      have e : b = s.heap.objs.size := by simpa using hb
      subst e
      exact I.fpOk (Nat.le_refl _) (I.hok.fresh (Nat.le_refl _))
    . rename_i xs e
      obtain ⟨its, rv, p, hz⟩ := I.tuple (.inl (.inl e))
      refine wpAny_pyIter_tuple (show s.heap.IsTuple a its.toArray from p) ⟨none, a1O, s.heap.objs.size, [s.heap.objs.size], _, Itt0 a, H, rfl, I.kept (t' := s.toks) λ b o e => Heap.get?_push_of_some _ e, (a4t (K := X.K) a _).imp (λ i H ⟨xs, x, h1, h2⟩ => ⟨xs, x, .inl h1, h2⟩) (λ i H x H' _ ⟨h1, h2⟩ => ⟨h1, λ xs h => h2 xs (.inl h)⟩) (λ i H ⟨xs, h1, h2⟩ => ⟨xs, .inl h1, h2⟩), ⟨_, Heap.get?_push_size _ rfl, rfl, rfl⟩, λ b hb => ?_, h⟩
      have e : b = s.heap.objs.size := by simpa using hb
      subst e
      exact I.fpOk (Nat.le_refl _) (I.hok.fresh (Nat.le_refl _))
    . rename_i kvs e
      obtain ⟨nf, o, eo, I'⟩ := a0u I e rfl
      exact it_dict (th := some (a, .dK kvs)) (λ b u z => by cases z; exact nf) I' b6 (h o)
    . rename_i o kvs e
      exact it_dict a1O I e h
    . exact h.elim
  . exact h.elim
def iOf (r : V -> Hp -> (It -> Hp -> Th -> Prop) -> Prop) (te : TE) : TI2 := λ σ H R => te σ H λ x H1 => r x H1 R
theorem a0C {r : V -> Hp -> (It -> Hp -> Th -> Prop) -> Prop} {e : Expr} {te : TE} (hr : ItR X tg r) (he : PE X e te) : PI2 X tg e (iOf r te) := λ pins s σ H R I h =>
  thn (he pins s σ H _ I h) λ v s1 ⟨x, H1, I1, r1, q1⟩ => hr pins s1 σ H1 x v R I1 r1 q1
def xI2 : TI2 := λ _ _ _ => False
theorem pi2_x {e : Expr} : PI2 X tg e xI2 := λ _ _ _ _ _ _ h => h.elim
def rngG (vs : List V) (H : Hp) (R : It -> Hp -> Th -> Prop) : Prop := match vs with
  | [.int j] => (-(2 ^ 62) <= j /\ j < 2 ^ 62) /\ R (Itr 0 j.toNat) H none
  | [.int i, .int j] => (-(2 ^ 62) <= i /\ i < 2 ^ 62 /\ -(2 ^ 62) <= j /\ j < 2 ^ 62) /\ R (Itr i (j - i).toNat) H none
  | _ => False
def iRngG (ta : TA) : TI2 := λ σ H R => ta σ H λ vs H1 => rngG vs H1 R
theorem a3L {pins : List (Addr × Obj)} {σ : St} {R : It -> Hp -> Th -> Prop} {v : Value} {s : Shared} (h : PIE X pins σ tg (λ J H => R J H none) v s) : PIE2 X pins σ tg R v s := ⟨none, a1O, h⟩
theorem pi_rng {e : Expr} {es : List Expr} {ta : TA} {p pos : Pos} (hg : Gl X "range") (hm : X.mg "range" = none) (ha : PA X (e :: es) ta) (hs : (e :: es).any i0 = false) : PI2 X tg (.Call (.Name "range" p) (e :: es) [] pos) (iRngG ta) := by
  rw [List.any_cons, Bool.or_eq_false_iff] at hs
  intro pins s σ H R I h
  refine Call_ (U5 I hg hm boot_range (PyProof.Rows.callWith_type1 (thn (ha pos pins s σ H _ I h) λ us s1 ⟨vs, H1, I1, r1, q1⟩ => ?_) (e8 hs.1) (d9 hs.2).1))
  have q1 : rngG vs H1 R := q1
  unfold rngG at q1
  split at q1
  . obtain ⟨⟨h1, h2⟩, q⟩ := q1
    obtain ⟨u, rfl, ru⟩ := x0 r1
    obtain ⟨t, rfl⟩ := ru
    exact call_range_1 (thn (a3n (tg := tg) (R := λ J H => R J H none) I1 (by omega) (by omega) h1 h2 (by simpa using q)) λ _ _ z => a3L z)
  . obtain ⟨⟨h1, h2, h3, h4⟩, q⟩ := q1
    obtain ⟨u, u2, rfl, ru, ru2⟩ := a1o r1
    obtain ⟨t, rfl⟩ := ru
    obtain ⟨t', rfl⟩ := ru2
    exact call_range_2 (thn (a3n (tg := tg) (R := λ J H => R J H none) I1 h1 h2 h3 h4 q) λ _ _ z => a3L z)
  . exact q1.elim
@[irreducible] def R3 (x : V) (H : Hp) (R : It -> Hp -> Th -> Prop) : Prop := match x with
  | .ref a => match H a with
    | some (.dK kvs) => ∀ o, R (Itp a o kvs) (upd H a (.frz o (.dK kvs))) (some (a, .dK kvs))
    | some (.frz o (.dK kvs)) => R (Itp a o kvs) H none
    | _ => False
  | _ => False
theorem a3M {es : List Expr} {k1 : Nat} {tp : Pos} {pins : List (Addr × Obj)} {s : Shared} {σ : St} {H : Hp} {R : It -> Hp -> Th -> Prop} {a v : Addr} {o : Obj} {kvs : List (Key × V)} {th : Th} (nf : ∀ a u, th = some (a, u) -> NF X a) (I : Inv X pins σ H s) (e : H a = some (.frz o (.dK kvs))) (hv : s.heap.IsItemsView v a) (h : R (Itp a o kvs) H th) : wpAny (model X.prog X.w) X.A (pyIter (.ref v)) (PIE2 X pins σ (.Tuple es k1 tp) R) X.xe s := by
  obtain ⟨lo, _, eo, vs, ep, r, d⟩ := frz_at I e
  refine wpAny_pyIter_items hv d ⟨th, nf, s.heap.objs.size, [s.heap.objs.size], _, Itp a o kvs, H, rfl, I.kept (t' := s.toks) λ b o e => Heap.get?_push_of_some _ e, a4J s.heap.objs.size a o r (a0v eo d), ⟨.none, .none, Heap.get?_push_size _ rfl⟩, λ b hb => ?_, h⟩
  have e : b = s.heap.objs.size := by simpa using hb
  subst e
  exact I.fpOk (Nat.le_refl _) (I.hok.fresh (Nat.le_refl _))
theorem pi_items {d : Expr} {td : TE} {es : List Expr} {k1 : Nat} {tp apos cpos : Pos} (hd : PE X d td) (hb : j4 d = true) (hline : (apos.endLine == cpos.line) = true) : PI2 X (.Tuple es k1 tp) (.Call (.Attribute d "items" apos) [] [] cpos) (iOf R3 td) := by
  intro pins s σ H R I h
  refine wpAny_Call_method0_late (B2 hb) hline (thn (hd pins s σ H _ I h) λ v s1 ⟨x, H1, I1, r1, q1⟩ => ?_)
  replace q1 : R3 x H1 R := q1
  have go : ∀ a : Addr, x = .ref a -> (∃ kvs, Rd H1 a (.dK kvs)) -> (∀ s2, Inv X pins σ H1 s2 -> s2.heap.IsItemsView s1.heap.objs.size a -> wpAny (model X.prog X.w) X.A (pyIter (.ref s1.heap.objs.size)) (PIE2 X pins σ (.Tuple es k1 tp) R) X.xe s2) →
      ∃ T id, PlainAttrs T /\ Slot T "items" id /\ typeOf (.builtin id) = pure (.type "method_descriptor") /\ s1.TypeIs v T /\ (∀ a, v = .ref a -> ∃ ob, s1.heap.get? a = some ob /\ ob.dict = none) ∧
        wpAny (model X.prog X.w) X.A (callWith cpos (.builtin id) [v] (backTo cpos (starEach [] X.env)) (backToKw cpos (keywordEach [] X.env))) (λ v s1 => wpAny (model X.prog X.w) X.A (pyIter v) (PIE2 X pins σ (.Tuple es k1 tp) R) X.xe s1) X.xe s1 := λ a ea hk next => by
    subst ea
    cases r1
    obtain ⟨kvs, hk⟩ := hk
    obtain ⟨ty, nd, lo⟩ := isD_at I1 (.inl ⟨kvs, hk⟩)
    obtain ⟨z, _, vs, r, dd⟩ := S7 I1.hok hk
    refine ⟨"dict", "dict.items", PySem.F.plainAttrs_dict, PySem.F.slot_dict_items, PySem.F.type_dict_items, ty, nd, Calls.callWith_builtin rfl (PySem.evalArgs_none ?_)⟩
    refine call_meetsIn PySem.F.slot_dict_items ty PySem.F.entry_dict_items (PySem.F.args_dict_items_1 _) (meets_dict_items (e7 X.prog X.w) a lo) ⟨⟨vs, dd⟩, ?_⟩
    exact next _ (I1.kept (t' := s1.toks) λ b o e => Heap.get?_push_of_some _ e) ⟨_, Heap.get?_push_size _ rfl, rfl, rfl⟩
  unfold R3 at q1
  split at q1
  . rename_i a
    split at q1
    . rename_i kvs e
      refine go a rfl ⟨kvs, .inl e⟩ λ s2 I2 hv => ?_
      obtain ⟨nf, o, eo, I'⟩ := a0u I2 e rfl
      exact a3M (th := some (a, .dK kvs)) (λ b u z => by cases z; exact nf) I' b6 hv (q1 o)
    . rename_i o kvs e
      exact go a rfl ⟨kvs, .inr ⟨o, e⟩⟩ λ s2 I2 hv => a3M a1O I2 e hv q1
    . exact q1.elim
  . exact q1.elim
structure Cfg where
  K : PySem.W.Frag
  N : List Str
  names : List (Str × NameKind)
  fns : List (Str × Sp)
  mks : List (Str × Addr × Sp)
  mts : List (Str × Addr × Sp)
  fld : List (Str × Addr)
  glo : List (Str × V)
  nog : List Str
  scr : List Str
  E : XK
  fvs : List (Addr × Sp)
  ics : List Addr
  exs : List (Str × Addr)
  kit : List (Addr × V × Bool)
  hit : List (Addr × Addr)
  top : Bool
structure IsC (K : PySem.W.Frag) (C : Addr) : Prop where
  cl : Cls K C
  ha : PySem.W.findIn K (.ref C) "__class__" = some (some (.builtin "object.__class__"))
  hn : PySem.W.specialIn K (.builtin "object.__class__") "__get__" = some (some (.builtin "getset_descriptor.__get__"))
  tk : PySem.W.takesIn K (.builtin "object.__class__") = some true
  hm : PySem.W.mroIn K C (.type "object") = some true
@[irreducible] def isiC (ics : List Addr) : List V -> Hp -> VK -> Prop := λ xs H Q => match xs with
  | [.ref a, .ref c] => match H a with
    | some (.ins C _ _) => C = c /\ c ∈ ics /\ Q (.bl true) H
    | _ => False
  | _ => False
theorem call_isiC {X : Cx} {ics : List Addr} (hi : ∀ c ∈ ics, IsC X.K c) : CallR X (.builtin "isinstance") (isiC ics) := λ pins s σ H xs us Q I r h => by
  unfold isiC at h
  split at h
  . split at h
    . rename_i a c _ C dx fs ea
      obtain ⟨rfl, hc, q⟩ := h
      obtain ⟨u, w', rfl, ru, rw'⟩ := a1o r
      cases rw'
      have ic := hi _ hc
      exact a1q I ru (.ins ea ic.cl ic.ha ic.hn ic.tk ic.hm) (by unfold PySem.W.kitOne; simp) λ tk => ⟨.bl true, H, I.tok tk, rfl, q⟩
    . exact h.elim
  . exact h.elim
@[irreducible] def isiX (kit : List (Addr × V × Bool)) : List V -> Hp -> VK -> Prop := λ xs H Q => ∃ (a d : Addr) (c : V) (b : Bool), xs = [.ref a, c] /\ H a = some (.ext (TyAt a d)) /\ (d, c, b) ∈ kit /\ Q (.bl b) H
def a0D (K : PySem.W.Frag) (kit : List (Addr × V × Bool)) : Prop := ∀ p ∈ kit, ExcC K p.1 /\ ∀ u, RelV p.2.1 u -> PySem.W.kitOne K (.ref p.1) u = some p.2.2
theorem call_isiX {X : Cx} {kit : List (Addr × V × Bool)} (hk : a0D X.K kit) : CallR X (.builtin "isinstance") (isiX kit) := λ pins s σ H xs us Q I r h => by
  unfold isiX at h
  obtain ⟨a, d, c, b, rfl, ea, hm, q⟩ := h
  obtain ⟨u, w', rfl, ru, rw'⟩ := a1o r
  cases ru
  obtain ⟨ec, hk1⟩ := hk _ hm
  obtain ⟨ty, _⟩ := I.hok a _ ea
  exact isi_exc I.kIn ty ec (hk1 w' rw') λ tk => ⟨.bl b, H, I.tok tk, rfl, q⟩
@[irreducible] def isiT (kit : List (Addr × V × Bool)) : List V -> Hp -> VK -> Prop := λ xs H Q => ∃ (a d t : Addr) (cs : List V) (bs : List Bool), xs = [.ref a, .ref t] /\ H a = some (.ext (TyAt a d)) /\ H t = some (.tup cs) /\ cs.length = bs.length /\ 0 < cs.length /\ (∀ (i : Nat) c b, cs[i]? = some c -> bs[i]? = some b -> (d, c, b) ∈ kit) /\ Q (.bl (bs.any id)) H
theorem kit_any {K : PySem.W.Frag} {kit : List (Addr × V × Bool)} {d : Addr} (hk : a0D K kit) : ∀ {cs : List V} {bs : List Bool} {us : List Value}, cs.length = bs.length -> (∀ (i : Nat) c b, cs[i]? = some c -> bs[i]? = some b -> (d, c, b) ∈ kit) -> Vals cs us -> PySem.W.kitAny K (.ref d) us = some (bs.any id)
  | [], [], us, _, _, v => by
    cases v
    rfl
  | c :: cs, b :: bs, us, hl, h, v => by
    cases v with
    | cons r rs =>
      have h0 := (hk _ (h 0 c b rfl rfl)).2 _ r
      have ih := kit_any (d := d) hk (cs := cs) (bs := bs) (by simpa using hl) (λ i c' b' e1 e2 => h (i + 1) c' b' e1 e2) rs
      unfold PySem.W.kitAny
      rw [h0]
      cases b with
      | true => rfl
      | false => exact ih
theorem call_isiT {X : Cx} {kit : List (Addr × V × Bool)} (hk : a0D X.K kit) : CallR X (.builtin "isinstance") (isiT kit) := λ pins s σ H xs us Q I r h => by
  unfold isiT at h
  obtain ⟨a, d, t, cs, bs, rfl, ea, et, hl, h0, hm, q⟩ := h
  obtain ⟨u, w', rfl, ru, rw'⟩ := a1o r
  cases ru
  cases rw'
  obtain ⟨c0, e0⟩ : ∃ c0, cs[0]? = some c0 := ⟨cs[0], by simp [h0]⟩
  obtain ⟨b0, e1⟩ : ∃ b0, bs[0]? = some b0 := ⟨bs[0]'(by omega), by simp⟩
  have ec := (hk _ (hm 0 c0 b0 e0 e1)).1
  obtain ⟨ty, _⟩ := I.hok a _ ea
  obtain ⟨_, its, vs, ⟨oc, od, ods, osl⟩, ho, hc, n, hd⟩ := I.hok t _ et
  dsimp only at hc hd
  subst hc
  subst hd
  exact PySem.W.kia_tup (a3I ec) I.kIn ty ho (kit_any hk hl hm vs) (λ z => nomatch z) λ tk => ⟨.bl _, H, I.tok tk, rfl, q⟩
structure FitsN (X : Cx) (C : Cfg) : Prop where
  N : X.N = C.N
  nd : C.N.Nodup
  names : X.env.scope.names = C.names
  glo : ∀ x v, C.glo.lookup x = some v -> ∃ u, X.mg x = some u /\ RelV v u
  nog : ∀ x ∈ C.nog, X.mg x = none
  kit : a0D X.K C.kit
structure Fits (CX : CXT) (k : Nat) (X : Cx) (C : Cfg) : Prop where
  K : X.K = C.K
  N : X.N = C.N
  nd : C.N.Nodup
  names : X.env.scope.names = C.names
  kind : X.env.scope.kind = .function
  calm : X.calm = true
  room : Room (k + 1) X.A
  pass : y8 CX X C.E
  no : ∀ (o : List Env) (H : Hp) (s : Shared) (e : Value) (s' : Shared), CX o H s E0 e s' -> False
  fns : ∀ x sp, C.fns.lookup x = some sp -> ∃ f fd ps, FnOk X.prog X.w X.K X.mg X.base CX k f fd ps sp /\ X.mg x = some (.ref f) /\ PySem.W.keepIn X.K (.ref f) = true /\ Binds X.K fd ps []
  mks : ∀ x cl sp, C.mks.lookup x = some (cl, sp) -> ∃ f fd ps, Mk X.K cl f /\ FnOk X.prog X.w X.K X.mg X.base CX k f fd ps sp /\ X.mg x = some (.ref cl) /\ Binds X.K fd ps []
  mts : ∀ m cl sp, C.mts.lookup m = some (cl, sp) -> ∃ f fd ps, Cls X.K cl /\ Meth X.K cl m f /\ FnOk X.prog X.w X.K X.mg X.base CX k f fd ps sp /\ Binds X.K fd ps []
  fld : ∀ f cl, C.fld.lookup f = some cl -> Cls X.K cl /\ NoAttr X.K cl f
  glo : ∀ x v, C.glo.lookup x = some v -> ∃ u, X.mg x = some u /\ RelV v u
  nog : ∀ x ∈ C.nog, X.mg x = none
  fvs : ∀ p ∈ C.fvs, ∃ fd ps, FnOk X.prog X.w X.K X.mg X.base CX k p.1 fd ps p.2 /\ PySem.W.keepIn X.K (.ref p.1) = true /\ Binds X.K fd ps []
  ics : ∀ c ∈ C.ics, IsC X.K c
  kit : a0D X.K C.kit
  cxe : C.top = true -> CX = CXE X.prog X.w /\ X.stack = X.env :: X.outer /\ X.env.frame = some X.env.locals
  hit : ∀ p ∈ C.hit, PySem.W.exmOne X.K (.ref p.1) (.ref p.2) = some true
  exs : ∀ x cl, C.exs.lookup x = some cl -> X.mg x = some (.ref cl) /\ ExcC X.K cl
  rse : ∀ (pins : List (Addr × Obj)) (σ : St) (H : Hp) (s : Shared) (a cl : Addr) (vs : List Value) (h1 : Heap), Inv X pins σ H s -> Heap.MadeExcOf s.heap h1 a (.ref cl) vs -> C.E (.ref cl) none H -> X.xe (.ref a) { s with heap := h1 }
  rsf : C.top = true -> X.ex = [] /\ ∀ (σ : St) (H : Hp) (s : Shared) (e cl c : Addr), Rai X σ H e (.ref cl) s -> C.E (.ref cl) (some c) H -> X.xe (.ref e) s
def t7 (x : Str) : Bool := !(x == ("__debug__" : Str)) && !(x == ("__classdict__" : Str))
def nameG (C : Cfg) (x : Str) : TE := match t7 x with
  | true => match C.names.lookup x with
    | some .globalImplicit => match C.glo.lookup x with
      | some v => tC v
      | none => match C.nog.contains x, tyName x with
        | true, some T => tC (.ty T)
        | _, _ => xE
    | some .local => match j8 C.N x with
      | some i => gv i
      | none => xE
    | some .cell => match j8 C.N x with
      | some i => gv i
      | none => xE
    | _ => xE
  | false => xE
section
variable {CX : CXT} {k : Nat} {C : Cfg}
theorem Fits.n (F : Fits CX k X C) : FitsN X C := ⟨F.N, F.nd, F.names, F.glo, F.nog, F.kit⟩
theorem a3O (F : FitsN X C) (x : Str) (pos : Pos) : PE X (.Name x pos) (nameG C x) := by
  unfold nameG
  split
  . rename_i ok
    simp only [t7, Bool.and_eq_true, Bool.not_eq_true'] at ok
    split
    . rename_i e
      have hg : Gl X x := by
        show X.env.scope.names.lookup x = _
        rw [F.names]
        exact e
      split
      . rename_i v ev
        obtain ⟨u, hm, r⟩ := F.glo x v ev
        exact pe_glob hg hm r ok.1
      . split
        . rename_i h1 h2
          obtain ⟨b1, b2, b3⟩ := tyName_ok h2
          exact pe_bltn hg (F.nog x (by simpa using h1)) b1 rfl b2 b3
        . exact l5
    . rename_i e
      split
      . rename_i i ei
        exact pe_gv (by rw [F.N]; exact i7 ei) (.inl (by rw [F.names]; exact e)) ok.1 ok.2
      . exact l5
    . rename_i e
      split
      . rename_i i ei
        exact pe_gv (by rw [F.N]; exact i7 ei) (.inr (.inl (by rw [F.names]; exact e))) ok.1 ok.2
      . exact l5
    . exact l5
  . exact l5
theorem pe_nameG (F : Fits CX k X C) (x : Str) (pos : Pos) : PE X (.Name x pos) (nameG C x) := a3O F.n x pos
end
end
section
variable {X : Cx} {pins : List (Addr × Obj)} {σ : St} {H : Hp} {s : Shared} {h' : Heap}
theorem a0E {t' : Nat} {ch : List Addr} (I : Inv X pins σ H s) (k : ∀ b o, b ∉ ch -> s.heap.get? b = some o -> h'.get? b = some o) (hf : ∀ b ∈ ch, FpOk X pins H b) : Inv X pins σ H { s with heap := h', toks := t' } := by
  have nit : ∀ b u, H b = some u -> b ∉ ch := λ b u e z => by rw [(hf b z).1] at e; cases e
  refine I.step (g' := s.gens) (d' := s.drawn) (ch := ch) (λ b hb => ?_) (λ b o _ _ hc e _ => k b o hc e) (λ b o _ _ hc e _ => ⟨o.slots, k b o hc e⟩) (λ _ _ _ _ n => n)
    (λ b o hc e => ⟨o, k b o hc e⟩) (λ _ _ e => e) (λ _ _ _ e => e) (λ b ps e => ⟨#[], by rw [e]; simp⟩) (λ m hm => ?_) (λ b u e => ?_) I.bare
  . obtain ⟨f0, f1, f2, f3, f4, f5⟩ := hf b hb
    exact ⟨f3, f1, f4, f5⟩
  . obtain ⟨o, es, ep, ho, r⟩ := hm
    exact ⟨o, es, ep, k _ o (λ z => (hf _ z).2.1 rfl) ho, r⟩
  . refine (I.hok b u e).stay (λ c v hc q => k c v ?_ q) (λ _ q => q) λ _ _ q => q
    rcases hc with z | z
    . rw [z]
      exact nit b u e
    . exact nit c _ z
theorem V7 {p : Addr} {o : HO} (I : Inv X pins σ H s) (hf : FpOk X pins H p) (hp : X.s₀.heap.objs.size <= p) (new : ObjOk X.prog X.w (upd H p o) s.heap p o) : Inv X pins σ (upd H p o) s := by
  obtain ⟨f0, f1, f2, f3, f4, f5⟩ := hf
  refine ⟨I.ok, I.os, I.bare, ⟨I.base.keep, I.base.slot, λ b ob e n x => ?_, I.base.there, λ b xs e => ?_, λ b ob w e => ?_, λ b ps e => ?_⟩, I.loc, I.cell, ?_, λ x c e => ?_, λ q hq => ?_, λ b u e => ?_, I.len⟩
  . rw [b4 λ z => by rw [z] at e; exact absurd (Nat.lt_of_lt_of_le (Heap.lt_size e) hp) (Nat.lt_irrefl _)]
    exact I.base.free b ob e n x
  . have q := I.base.tups b xs e
    rw [b4 (b8 q f0)]
    exact q
  . have q := I.base.frzs b ob w e
    rw [b4 (b8 q f0)]
    exact q
  . obtain ⟨more, q⟩ := I.base.tbls b ps e
    exact ⟨more, by rw [b4 (b8 q f0)]; exact q⟩
  . rw [b4 (Ne.symm f1)]
    exact I.free
  . rw [b4 (f4 x c e)]
    exact I.freeC x c e
  . obtain ⟨p1, p2, r⟩ := I.pin q hq
    refine ⟨p1, ?_, r⟩
    rw [b4 (f5 q hq)]
    exact p2
  . by_cases z : b = p
    . subst z
      rw [b6] at e
      cases e
      exact new
    . rw [b4 z] at e
      exact (I.hok b u e).stay (λ c v _ q => q) (λ c q => by rw [b4 (b8 q f0)]; exact q) λ c xs q => by rw [b4 (b8 q f0)]; exact q
end
def Itz (a b : Addr) : It := ⟨λ i H => ∃ xs ys x y, H a = some (.lst xs) /\ H b = some (.lst ys) /\ xs[i]? = some x /\ ys[i]? = some y, λ i H v H' => ∃ xs ys x y t, H a = some (.lst xs) /\ H b = some (.lst ys) /\ xs[i]? = some x /\ ys[i]? = some y /\ v = .ref t /\ H t = none /\ H' = upd H t (.tup [x, y]), λ i H => ∃ xs ys, H a = some (.lst xs) /\ H b = some (.lst ys) /\ (xs.length <= i \/ ys.length <= i)⟩
theorem turn_zip {P : Program} {w : World} {K : PySem.W.Frag} {es : List Expr} {k1 : Nat} {pos : Pos} {z TI TO i1 i2 a b : Addr} (Ap : ZipApart z TI TO i1 i2 a b) :
    Turn P w K (.Tuple es k1 pos) (Itz a b) [z, TI, TO, i1, i2] z (λ i h => IsZip h z TI TO .none /\ IsPair h TI (.ref i1) (.ref i2) /\ (∃ u v, IsPair h TO u v) /\ h.IsListIter i1 a i /\ h.IsListIter i2 b i) where
  mem := by simp
  obj := λ i h st c hc => by
    obtain ⟨hz, hTI, ⟨u, v, hTO⟩, ⟨o1, e1, _, d1⟩, ⟨o2, e2, _, d2⟩⟩ := st
    simp only [List.mem_cons, List.not_mem_nil, or_false] at hc
    rcases hc with rfl | rfl | rfl | rfl | rfl
    . exact ⟨_, hz, λ v z => nomatch z⟩
    . exact ⟨_, hTI, λ v z => nomatch z⟩
    . exact ⟨_, hTO, λ v z => nomatch z⟩
    . exact ⟨_, e1, λ v z => by rw [d1] at z; cases z⟩
    . exact ⟨_, e2, λ v z => by rw [d2] at z; cases z⟩
  keep := λ i h h' ⟨hz, hTI, ⟨u, v, hTO⟩, h1, h2⟩ k => ⟨k z (by simp) _ hz, k TI (by simp) _ hTI, ⟨u, v, k TO (by simp) _ hTO⟩, h1.at λ o e => k i1 (by simp) o e, h2.at λ o e => k i2 (by simp) o e⟩
  item := by
    intro X hP hw hK hc i pins s σ H E I hf st hg
    subst hP hw hK
    obtain ⟨hz, hTI, ⟨u, v, hTO⟩, h1, h2⟩ := st
    obtain ⟨xs, ys, x, y, ha, hb, hx, hy⟩ := hg
    obtain ⟨its, rv, p, _⟩ := I.list (.inl (.inl ha))
    obtain ⟨jts, rw', p', _⟩ := I.list (.inl (.inl hb))
    obtain ⟨vx, gx, rx⟩ := rv.get hx
    obtain ⟨vy, gy, ry⟩ := rw'.get hy
    refine wpAny_pyNext_zip_item Ap hz hTI hTO h1 h2 p.isList p'.isList (x := vx) (y := vy) (by simpa using gx) (by simpa using gy) λ h' a1 a2 a3 a4 a5 a6 a7 => ⟨_, rfl, ?_⟩
    refine wpAny_letOwnedTupleGo_zip a1 λ h2' hz' sb => ?_
    have hn : H s.heap.objs.size = none := I.hok.fresh (Nat.le_refl _)
    have lt : ∀ {c o}, s.heap.get? c = some o -> s.heap.objs.size ≠ c := λ e => Nat.ne_of_gt (Heap.lt_size e)
    have ot : h2'.get? s.heap.objs.size = some { cls := .type "tuple", data := .seq #[vx, vy] } := sb.extBut _ _ (lt hz) a5
    have I1 : Inv X pins σ H { s with heap := h2' } := a0E (t' := s.toks) (ch := [z, TO, i1, i2]) I (λ c o hc e => sb.extBut _ _ (λ x => hc (by simp [x])) (a7 c o (λ x => hc (by simp [x])) (λ x => hc (by simp [x])) (λ x => hc (by simp [x])) (λ x => hc (by simp [x])) e)) λ c hc => hf c (by
      simp only [List.mem_cons, List.not_mem_nil, or_false] at hc ⊢
      rcases hc with rfl | rfl | rfl | rfl <;> simp)
    have fp := I.fpOk (H' := H) (Nat.le_refl _) hn
    refine ⟨.ref s.heap.objs.size, upd H s.heap.objs.size (.tup [x, y]), V7 I1 fp I.sz ⟨by show 2 <= sizeLine; decide, [vx, vy], .cons rx (.cons ry .nil), _, ot, rfl, _, rfl⟩, rfl, ⟨xs, ys, x, y, _, ha, hb, hx, hy, rfl, hn, rfl⟩, ⟨hz', ?_, ⟨vx, vy, ?_⟩, ?_, ?_⟩, λ c hc => ?_⟩
    . exact sb.extBut _ _ Ap.TIz (a7 _ _ Ap.TIz Ap.TITO Ap.TIi1 Ap.TIi2 hTI)
    . exact sb.extBut _ _ Ap.TOz a2
    . exact a3.extBut sb.extBut Ap.i1z
    . exact a4.extBut sb.extBut Ap.i2z
    . rw [b4]
      . exact (hf c hc).1
      . intro e
        subst e
        simp only [List.mem_cons, List.not_mem_nil, or_false] at hc
        rcases hc with e | e | e | e | e
        . exact lt hz e
        . exact lt hTI e
        . exact lt hTO e
        . obtain ⟨_, q, _⟩ := h1
          exact lt q e
        . obtain ⟨_, q, _⟩ := h2
          exact lt q e
  done := by
    intro X hP hw hK hc i pins s σ H E I hf st hg
    subst hP hw hK
    obtain ⟨hz, hTI, ⟨u, v, hTO⟩, h1, h2⟩ := st
    obtain ⟨xs, ys, ha, hb, hl⟩ := hg
    obtain ⟨its, rv, p, _⟩ := I.list (.inl (.inl ha))
    obtain ⟨jts, rw', p', _⟩ := I.list (.inl (.inl hb))
    have l1 := rv.length
    have l2 := rw'.length
    refine wpAny_pyNext_zip_end (I.ok.hd hc) Ap hz hTI hTO h1 h2 p.isList p'.isList (hl.imp (λ h => by simp; omega) λ h => by simp; omega) λ h' k => ⟨rfl, a0E (t' := s.toks) (ch := [z, TO, i1, i2]) I (λ c o hc e => k c o (λ x => hc (by simp [x])) (λ x => hc (by simp [x])) (λ x => hc (by simp [x])) (λ x => hc (by simp [x])) e) λ c hc => hf c ?_⟩
    simp only [List.mem_cons, List.not_mem_nil, or_false] at hc ⊢
    rcases hc with rfl | rfl | rfl | rfl <;> simp
  self := λ _ _ _ _ _ st h => wpAny_pyIter_zip st.1 h
@[irreducible] def zipG (vs : List V) (H : Hp) (R : It -> Hp -> Th -> Prop) : Prop := match vs with
  | [.ref a, .ref b] => match H a, H b with
    | some (.lst _), some (.lst _) => R (Itz a b) H none
    | _, _ => False
  | _ => False
def iZipG (ta : TA) : TI2 := λ σ H R => ta σ H λ vs H1 => zipG vs H1 R
section
variable {X : Cx}
theorem pi_zip {ts : List Expr} {k1 : Nat} {tp : Pos} {e : Expr} {es : List Expr} {ta : TA} {p pos : Pos} (hg : Gl X "zip") (hm : X.mg "zip" = none) (ha : PA X (e :: es) ta) (hs : (e :: es).any i0 = false) : PI2 X (.Tuple ts k1 tp) (.Call (.Name "zip" p) (e :: es) [] pos) (iZipG ta) := by
  rw [List.any_cons, Bool.or_eq_false_iff] at hs
  intro pins s σ H R I h
  refine Call_ (U5 I hg hm PyProof.Rows.boot_zip (PyProof.Rows.callWith_type1 (thn (ha pos pins s σ H _ I h) λ us s1 ⟨vs, H1, I1, r1, q1⟩ => ?_) (e8 hs.1) (d9 hs.2).1))
  replace q1 : zipG vs H1 R := q1
  unfold zipG at q1
  split at q1
  . rename_i a b
    split at q1
    . rename_i xs ys e1 e2
      obtain ⟨u, u2, rfl, ru, ru2⟩ := a1o r1
      cases ru
      cases ru2
      obtain ⟨its, rv, p1, hz1⟩ := I1.list (.inl (.inl e1))
      obtain ⟨jts, rv2, p2, hz2⟩ := I1.list (.inl (.inl e2))
      have a1 : a < s1.heap.objs.size := by obtain ⟨_, e, _⟩ := p1.isList; exact Heap.lt_size e
      have a2 : b < s1.heap.objs.size := by obtain ⟨_, e, _⟩ := p2.isList; exact Heap.lt_size e
      refine call_zip_2 p1.isList p2.isList λ h' hz hTI hTO hi1 hi2 _ hk => ?_
      refine wpAny_pyIter_zip hz ⟨none, (λ _ _ e => by cases e), _, [s1.heap.objs.size + 4, s1.heap.objs.size + 2, s1.heap.objs.size + 3, s1.heap.objs.size, s1.heap.objs.size + 1], _, Itz a b, H1, rfl, I1.kept (t' := s1.toks) hk, turn_zip (zipApart_new a1 a2), ⟨hz, hTI, ⟨_, _, hTO⟩, hi1, hi2⟩, λ c hc => ?_, q1⟩
      have hle : s1.heap.objs.size <= c := by
        simp only [List.mem_cons, List.not_mem_nil, or_false] at hc
        rcases hc with rfl | rfl | rfl | rfl | rfl <;> omega
      exact I1.fpOk hle (I1.hok.fresh hle)
    . exact q1.elim
  . exact q1.elim
end
section
variable {prog : Program} {w : World} {A : Around} {E : Value -> Shared -> Prop} {s : Shared} {d it S : Addr} {es : Array DictEntry} {ep i : Nat}
def WkAt (h : Heap) (it d : Addr) (i n ep : Nat) (f0 f1 ok ov : Value) : Prop :=
  h.get? it = some { cls := .type "dict_itemiterator", dict := none, data := .fields #[f0, f1, .ref d, .int i 0, .int n 0, .int ep 0, ok, ov], slots := #[] }
theorem raw_items {v : Addr} {Q : Value -> Shared -> Prop} (hv : s.heap.IsItemsView v d) (r : RawD s.heap d es ep)
    (q : Q (.ref s.heap.objs.size) { s with heap := s.heap.push { cls := .type "dict_itemiterator", data := .fields #[.none, .bool false, .ref d, .int 0 0, .int es.size 0, .int ep 0, .none, .none] } }) : wpAny (model prog w) A (pyIter (.ref v)) Q E s := by
  have ty := hv.typeIs
  obtain ⟨o, h1, h2, h3⟩ := r
  obtain ⟨u, u1, u2, u3⟩ := hv
  refine wpAny_pyIter_slot ty F.slot_dict_items_iter (wpAny_call_entry F.slot_dict_items_iter ty F.entry_dict_items_iter ?_ (F.args_dict_items_iter_1 _))
  unfold Builtin.«dict_items.__iter__» Builtin.Dict_items.dictOf Builtin.Dict_items.newIterator
  refine wpAny_bind (wpAny_pure (wpAny_bind (wpAny_bind (wpAny_field u1 u3 (x := .ref d) rfl (wpAny_pure (wpAny_bind (wpAny_bind (wpAny_dictEntries h1 h3 (wpAny_bind (wpAny_dictEpoch h1 h3 ?_))))))))))
  rw [show Builtin.Dict_items.ownsTuple "dict_itemiterator" = true by decide]
  simp only [if_true]
  refine wpAny_newObj_type (wpAny_pure ⟨_, rfl, "dict_itemiterator", _, ⟨_, Heap.get?_push_size _ rfl, rfl⟩, F.slot_dict_itemiterator_next.lookup, ?_⟩) (by simp only [sizeOk, Builtin.Dict_items.ownedTupleFields, List.size_toArray, List.length_append, List.length_cons, List.length_nil, sizeLine_eq]; omega)
  simpa [rawInt, Builtin.Dict_items.ownedTupleFields] using q
theorem raw_pair {e : DictEntry} {Q : Option Value -> Shared -> Prop} (st : PySem.W.KdxSt s.heap it d S i es.size ep) (hS : S < s.heap.objs.size) (r : RawD s.heap d es ep) (he : es[i]? = some e)
    (q : ∀ h' : Heap, PySem.W.KdxSt h' it d S (i + 1) es.size ep -> h'.get? s.heap.objs.size = some { cls := .type "tuple", data := .seq #[e.key, e.val] } -> h'.objs.size = s.heap.objs.size + 1 →
      (∀ b o, b ≠ it -> s.heap.get? b = some o -> h'.get? b = some o) -> Q (some (.ref s.heap.objs.size)) { s with heap := h' }) : wpAny (model prog w) A (pyNext (.ref it)) Q E s := by
  obtain ⟨f0, f1, ok, ov, hit, hf⟩ : ∃ f0 f1 ok ov, WkAt s.heap it d i es.size ep f0 f1 ok ov /\ ((i = 0 /\ f0 = .none /\ f1 = .bool false) \/ ∃ (a : Addr) (f : Bool) (oa : Obj), f0 = rawInt a /\ f1 = .bool f /\ s.heap.get? a = some oa /\ a ≠ it /\ a ≠ S) := by
    rcases st with ⟨rfl, ok, ov, x⟩ | ⟨ok, ov, a, f, oa, x, x1, x2, x3⟩
    . exact ⟨_, _, ok, ov, x, .inl ⟨rfl, rfl, rfl⟩⟩
    . exact ⟨_, _, ok, ov, x, .inr ⟨a, f, oa, rfl, rfl, x1, x2, x3⟩⟩
  obtain ⟨hp, g, dr, tk, os⟩ := s
  obtain ⟨b, h1, h2, h3⟩ := r
  have ty : Shared.TypeIs ⟨hp, g, dr, tk, os⟩ (.ref it) "dict_itemiterator" := ⟨_, hit, rfl⟩
  have hi : i < es.size := (Array.getElem?_eq_some_iff.mp he).1
  unfold pyNext
  refine wpAny_bind (wpAny_attempt (wpAny_callSpecial?_slot (name := Str.ofString "__next__") ty F.slot_dict_itemiterator_next (wpAny_call_entry F.slot_dict_itemiterator_next ty F.entry_dict_itemiterator_next ?_ (F.args_dict_itemiterator_next_1 _))))
  refine wpAny_bind (wpAny_pure (wpAny_bind (wpAny_bind (wpAny_bind (wpAny_typeNameOfWhole_itemiter ty (wpAny_pure (wpAny_bind (wpAny_fieldsOf hit rfl ?_))))))))
  rw [show Builtin.Dict_items.ownsTuple "dict_itemiterator" = true by decide]
  simp only [if_true]
  show wpAny _ _ (if (Value.ref d == Value.none) = true then _ else _) _ _ _
  rw [if_neg (show ¬ ((Value.ref d == Value.none) = true) from Bool.false_ne_true)]
  refine wpAny_bind (wpAny_pure (wpAny_bind (wpAny_dictEntries h1 h3 ?_)))
  rw [if_neg (by simp)]
  refine wpAny_bind (wpAny_pure (wpAny_bind (wpAny_dictEpoch h1 h3 ?_)))
  rw [if_neg (by simp)]
  refine wpAny_pure ?_
  simp only [show ¬ ((i : Int) < 0) from by omega, if_false, Int.toNat_natCast, he]
  refine wpAny_bind (wpAny_bind (wpAny_typeNameOfWhole_itemiter ty (wpAny_pure (wpAny_bind (wpAny_isOneOf_itemiter ty ?_)))))
  show wpAny _ _ (setField (.ref it) 3 (rawInt ((i : Int) + 1)) >>= _) _ _ (⟨hp, g, dr, tk, os⟩ : Shared)
  refine wpAny_bind (wpAny_setField_rec hit (by simp) λ k1 e1 s1 => ?_)
  replace s1 : Heap.SameBut it hp k1 := s1
  replace e1 : WkAt k1 it d (i + 1) es.size ep f0 f1 ok ov := by
    have z : ((i + 1 : Nat) : Int) = (i : Int) + 1 := by omega
    unfold WkAt
    rw [z]
    simpa [rawInt] using e1
  have ty1 : Shared.TypeIs ⟨k1, g, dr, tk, os⟩ (.ref it) "dict_itemiterator" := ⟨_, e1, rfl⟩
  refine wpAny_bind (wpAny_holding (wpAny_bind (wpAny_isOneOf_itemiter ty1 (wpAny_bind (wpAny_isOneOf_itemiter ty1 ?_)))))
  show wpAny _ _ (Builtin.Dict_items.pairFromOwner (.ref it) 6 e.key e.val) _ _ (⟨k1, g, dr, tk, os⟩ : Shared)
  unfold Builtin.Dict_items.pairFromOwner
  refine wpAny_bind (wpAny_newTuple ?_)
  have lt : it < hp.objs.size := Heap.lt_size hit
  obtain ⟨k2, k2e⟩ : ∃ k2, k2 = k1.push { cls := .type "tuple", data := .seq #[e.key, e.val] } := ⟨_, rfl⟩
  have e2 : WkAt k2 it d (i + 1) es.size ep f0 f1 ok ov := by rw [k2e]; exact Heap.get?_push_of_some _ e1
  have z1 : k1.objs.size = hp.objs.size := s1.1
  have t2 : k2.get? hp.objs.size = some { cls := .type "tuple", data := .seq #[e.key, e.val] } := by rw [k2e, <- z1]; exact Heap.get?_push_size _ rfl
  have z2 : k2.objs.size = hp.objs.size + 1 := by rw [k2e, Heap.size_push, z1]
  have kp : ∀ b o, b ≠ it -> hp.get? b = some o -> k2.get? b = some o := λ b o n z => by rw [k2e]; exact Heap.get?_push_of_some _ (s1.extBut b o n z)
  have fin : ∀ k3 : Heap, Heap.SameBut it k2 k3 -> PySem.W.KdxSt k3 it d S (i + 1) es.size ep -> Q (some (.ref hp.objs.size)) ⟨k3, g, dr, tk, os⟩ := λ k3 s3 x => q k3 x (s3.extBut _ _ (Nat.ne_of_gt lt) t2) (by show k3.objs.size = hp.objs.size + 1; rw [s3.1, z2]) λ b o n z => s3.extBut b o n (kp b o n z)
  show wpAny _ _ (Builtin.Dict_items.ownedTupleIsFree (.ref it) >>= _) _ _ (⟨k1.push { cls := .type "tuple", data := .seq #[e.key, e.val] }, g, dr, tk, os⟩ : Shared)
  rw [<- k2e, z1]
  clear k2e e1 s1 ty1 z1
  refine wpAny_bind ?_
  unfold Builtin.Dict_items.ownedTupleIsFree
  rcases hf with ⟨rfl, rfl, rfl⟩ | ⟨a, f, oa, rfl, rfl, ha, hai, haS⟩
  . refine wpAny_bind (wpAny_field e2 rfl (x := .none) rfl (wpAny_pure ?_))
    simp only [if_true]
    refine wpAny_bind (wpAny_field e2 rfl (x := ok) rfl (wpAny_bind (wpAny_field e2 rfl (x := ov) rfl (wpAny_bind (wpAny_setField_rec e2 (by simp) λ k3 e3 s3 => ?_)))))
    replace e3 : WkAt k3 it d (0 + 1) es.size ep .none (.bool false) e.key ov := e3
    refine wpAny_bind (wpAny_setField_rec e3 (by simp) λ k4 e4 s4 => ?_)
    replace e4 : WkAt k4 it d (0 + 1) es.size ep .none (.bool false) e.key e.val := e4
    refine wpAny_bind (wpAny_setField_rec e4 (by simp) λ k5 e5 s5 => ?_)
    replace e5 : WkAt k5 it d (0 + 1) es.size ep (rawInt hp.objs.size) (.bool false) e.key e.val := e5
    refine wpAny_bind (wpAny_setField_rec e5 (by simp) λ k6 e6 s6 => ?_)
    replace e6 : WkAt k6 it d (0 + 1) es.size ep (rawInt hp.objs.size) (.bool false) e.key e.val := e6
    have sb : Heap.SameBut it k2 k6 := ((Heap.SameBut.trans s3 s4).trans s5).trans s6
    exact wpAny_bind (wpAny_letGo (wpAny_pure (wpAny_pure ⟨_, rfl, wpAny_pure (fin k6 sb (.inr ⟨_, _, _, false, _, e6, sb.extBut _ _ (Nat.ne_of_gt lt) t2, Nat.ne_of_gt lt, Nat.ne_of_gt hS⟩))⟩)))
  . refine wpAny_bind (wpAny_field e2 rfl (x := rawInt a) rfl ?_)
    show wpAny _ _ (loadIfAlive ((a : Int).toNat) >>= _) _ _ _
    rw [Int.toNat_natCast]
    refine wpAny_bind (PySem.W.kdx_alive (kp a oa hai ha) ?_)
    simp only [Option.isNone_some, Bool.false_eq_true, if_false]
    refine wpAny_bind (wpAny_field e2 rfl (x := .bool f) rfl ?_)
    cases f with
    | true =>
      rw [if_neg (show ¬ ((Value.bool true != Value.bool true) = true) from Bool.false_ne_true)]
      refine wpAny_pure ?_
      simp only [Bool.false_eq_true, if_false]
      exact wpAny_pure (wpAny_pure ⟨_, rfl, wpAny_pure (fin k2 (Heap.SameBut.refl _ _) (.inr ⟨ok, ov, a, true, oa, e2, kp a oa hai ha, hai, haS⟩))⟩)
    | false =>
      rw [if_pos (show (Value.bool false != Value.bool true) = true from rfl)]
      refine wpAny_bind (wpAny_setField_rec e2 (by simp) λ k3 e3 s3 => wpAny_pure ?_)
      replace e3 : WkAt k3 it d (i + 1) es.size ep (rawInt a) (.bool true) ok ov := e3
      simp only [Bool.false_eq_true, if_false]
      have s3' : Heap.SameBut it k2 k3 := s3
      exact wpAny_pure (wpAny_pure ⟨_, rfl, wpAny_pure (fin k3 s3' (.inr ⟨ok, ov, a, true, oa, e3, s3'.extBut _ _ hai (kp a oa hai ha), hai, haS⟩))⟩)
theorem a1h {Q : Option Value -> Shared -> Prop} (hh : A.handled = none) (st : PySem.W.KdxSt s.heap it d S i es.size ep) (r : RawD s.heap d es ep) (he : es.size <= i) (q : ∀ h' : Heap, Heap.ExtBut it s.heap h' -> Q none { s with heap := h' }) : wpAny (model prog w) A (pyNext (.ref it)) Q E s := by
  obtain ⟨f0, f1, ok, ov, hit⟩ : ∃ f0 f1 ok ov, WkAt s.heap it d i es.size ep f0 f1 ok ov := by
    rcases st with ⟨rfl, ok, ov, x⟩ | ⟨ok, ov, a, f, oa, x, _⟩
    . exact ⟨_, _, ok, ov, x⟩
    . exact ⟨_, _, ok, ov, x⟩
  obtain ⟨b, h1, h2, h3⟩ := r
  have ty : s.TypeIs (.ref it) "dict_itemiterator" := ⟨_, hit, rfl⟩
  unfold pyNext
  refine wpAny_bind (wpAny_attempt (wpAny_callSpecial?_slot (name := Str.ofString "__next__") ty F.slot_dict_itemiterator_next (wpAny_call_entry F.slot_dict_itemiterator_next ty F.entry_dict_itemiterator_next ?_ (F.args_dict_itemiterator_next_1 _))))
  refine wpAny_bind (wpAny_pure (wpAny_bind (wpAny_bind (wpAny_bind (wpAny_typeNameOfWhole_itemiter ty (wpAny_pure (wpAny_bind (wpAny_fieldsOf hit rfl ?_))))))))
  rw [show Builtin.Dict_items.ownsTuple "dict_itemiterator" = true by decide]
  simp only [if_true]
  show wpAny _ _ (if (Value.ref d == Value.none) = true then _ else _) _ _ _
  rw [if_neg (show ¬ ((Value.ref d == Value.none) = true) from Bool.false_ne_true)]
  refine wpAny_bind (wpAny_pure (wpAny_bind (wpAny_dictEntries h1 h3 ?_)))
  rw [if_neg (by simp)]
  refine wpAny_bind (wpAny_pure (wpAny_bind (wpAny_dictEpoch h1 h3 ?_)))
  rw [if_neg (by simp)]
  refine wpAny_pure ?_
  simp only [show ¬ ((i : Int) < 0) from by omega, if_false, Int.toNat_natCast, Array.getElem?_eq_none he]
  refine wpAny_bind (wpAny_bind (wpAny_typeNameOfWhole_itemiter ty (wpAny_pure ?_)))
  show wpAny _ _ (setField (.ref it) 2 .none >>= _) _ _ _
  refine wpAny_bind (wpAny_setField hit rfl (by simp) ?_)
  show wpAny _ _ (newExc (.type "StopIteration") [] >>= _) _ _ _
  refine wpAny_bind ?_
  simp only [newExc, newTuple]
  refine wpAny_bind (wpAny_newObj_type (wpAny_bind (m := firstArgMember _ _) (wpAny_of_eq (a := Value.none) (by first | rfl | (simp only [firstArgMember]; rfl)) (wpAny_newObj_type ?_ (by size_fits)))) (by size_fits))
  simp only [raiseNew]
  refine wpAny_bind (wpAny_handled ?_)
  rw [show A.in1.handled = none from hh]
  refine wpAny_bind (wpAny_pure (wpAny_throw ?_))
  refine wpAny_bind (wpAny_isInstance (T := "StopIteration") (b := true) ⟨_, Heap.get?_push_size _ rfl, rfl⟩ isSubtype_stop ?_)
  exact wpAny_pure (q _ (((Heap.SameBut.update ..).extBut.push _).push _))
end
structure PrsAt (es : Array DictEntry) (lo : Addr) (h : Heap) (as : List Addr) : Prop where
  up : as.Pairwise (· < ·)
  new : ∀ a ∈ as, lo < a
  at_ : ∀ (j : Nat) (a : Addr), as[j]? = some a -> ∃ e, es[j]? = some e /\ h.get? a = some { cls := .type "tuple", data := .seq #[e.key, e.val] }
theorem PrsAt.lt {es : Array DictEntry} {lo : Addr} {h : Heap} {as : List Addr} (g : PrsAt es lo h as) {a : Addr} (ha : a ∈ as) : a < h.objs.size := by
  obtain ⟨j, hj⟩ := List.mem_iff_getElem?.mp ha
  obtain ⟨_, _, z⟩ := g.at_ j a hj
  exact Heap.lt_size z
theorem PrsAt.on {es : Array DictEntry} {lo : Addr} {h h' : Heap} {as : List Addr} (g : PrsAt es lo h as) (k : ∀ a ∈ as, ∀ o, h.get? a = some o -> h'.get? a = some o) : PrsAt es lo h' as :=
  ⟨g.up, g.new, λ j a hj => by obtain ⟨e, z1, z2⟩ := g.at_ j a hj; exact ⟨e, z1, k a (List.mem_of_getElem? hj) _ z2⟩⟩
theorem PrsAt.more {es : Array DictEntry} {lo : Addr} {h h' : Heap} {as : List Addr} {e : DictEntry} {t : Addr} (g : PrsAt es lo h as) (k : ∀ a ∈ as, ∀ o, h.get? a = some o -> h'.get? a = some o) (hl : lo < t) (hu : ∀ a ∈ as, a < t) (he : es[as.length]? = some e)
    (ht : h'.get? t = some { cls := .type "tuple", data := .seq #[e.key, e.val] }) : PrsAt es lo h' (as ++ [t]) := by
  refine ⟨List.pairwise_append.mpr ⟨g.up, List.pairwise_singleton _ _, λ a ha b hb => by rw [List.mem_singleton.mp hb]; exact hu a ha⟩, λ a ha => ?_, λ j a hj => ?_⟩
  . rcases List.mem_append.mp ha with z | z
    . exact g.new a z
    . rw [List.mem_singleton.mp z]; exact hl
  . by_cases z : j < as.length
    . rw [List.getElem?_append_left z] at hj
      exact (g.on k).at_ j a hj
    . rw [List.getElem?_append_right (Nat.le_of_not_lt z)] at hj
      have z0 : j - as.length = 0 := by
        apply Classical.byContradiction
        intro n
        rw [List.getElem?_eq_none (by simp; omega)] at hj
        cases hj
      rw [z0] at hj
      cases hj
      have : j = as.length := by omega
      exact ⟨e, by rw [this]; exact he, ht⟩
section
variable {prog : Program} {w : World} {A : Around} {s : Shared} {R : Result -> Shared -> Prop} {es : Array DictEntry} {ep : Nat}
theorem a4W {S I d : Addr} (hh : A.handled = none) (hSI : S < I) (hSd : d ≠ S) (hId : d ≠ I) (hn : es.size <= sizeLine) (res : Value) {g : Heap}
    (hR : ∀ h' tk acc c as, (∀ b o, b ≠ S -> b ≠ I -> g.get? b = some o -> h'.get? b = some o) -> h'.get? S = some { cls := .type "list", dict := none, data := .seq acc c, slots := #[] } -> as.length = es.size -> PrsAt es I h' as -> acc.toList = as.map Value.ref -> R (.ok (.ret res)) { s with heap := h', toks := tk }) :
    ∀ (k : Nat) (h : Heap) (tk c : Nat) (acc : Array Value) (as : List Addr), es.size - as.length = k -> as.length <= es.size -> PySem.W.KdxSt h I d S as.length es.size ep -> RawD h d es ep -> (∀ b o, b ≠ S -> b ≠ I -> g.get? b = some o -> h.get? b = some o) →
      h.get? S = some { cls := .type "list", dict := none, data := .seq acc c, slots := #[] } -> acc.toList = as.map Value.ref -> PrsAt es I h as -> I < h.objs.size -> codeAny (model prog w) A (.builtin "list.extend.loop" ⟨[.ref S, .ref I, res], []⟩) R { s with heap := h, toks := tk } := by
  have ne : S ≠ I := Nat.ne_of_lt hSI
  intro k
  induction k with
  | zero =>
    intro h tk c acc as hk hi st r kp hS ha G _
    refine codeAny_builtin F.entry_extend_loop ?_
    rw [Around.under_plainId F.plain_extend_loop _]
    show wpAny _ A.in1 (pyNext (.ref I) >>= _) _ _ _
    refine wpAny_bind (a1h (s := { s with heap := h, toks := tk }) (A := A.in1) hh st r (by omega) λ h' x => ?_)
    exact wpAny_pure (hR h' tk acc c as (λ b o n1 n2 z => x b o n2 (kp b o n1 n2 z)) (x S _ ne hS) (by omega) (G.on λ a m o z => x a o (Nat.ne_of_gt (G.new a m)) z) ha)
  | succ k ih =>
    intro h tk c acc as hk hi st r kp hS ha G hI
    have lt : as.length < es.size := by omega
    have hz : acc.size = as.length := by rw [<- Array.length_toList, ha, List.length_map]
    have he : es[as.length]? = some es[as.length] := Array.getElem?_eq_getElem lt
    refine codeAny_builtin F.entry_extend_loop ?_
    rw [Around.under_plainId F.plain_extend_loop _]
    show wpAny _ A.in1 (pyNext (.ref I) >>= _) _ _ _
    refine wpAny_bind (raw_pair (s := { s with heap := h, toks := tk }) (S := S) st (Heap.lt_size hS) r he λ h' st' t' z' k' => ?_)
    dsimp only at t' z' k' ⊢
    have hS' := k' S _ ne hS
    have lS : S < h.objs.size := Heap.lt_size hS
    have up : ∀ b o, b ≠ S -> h'.get? b = some o -> (h'.update S (Obj.mapSeq (·.push (Value.ref h.objs.size)))).get? b = some o := λ b o n z => (Heap.get?_update_other _ _ (Ne.symm n)).trans z
    have G' := G.more (h' := h'.update S (Obj.mapSeq (·.push (Value.ref h.objs.size)))) (λ a m o z => up a o (Nat.ne_of_gt (Nat.lt_trans hSI (G.new a m))) (k' a o (Nat.ne_of_gt (G.new a m)) z)) hI (λ a m => G.lt m) he (up _ _ (Nat.ne_of_gt lS) t')
    have st2 : PySem.W.KdxSt (h'.update S (Obj.mapSeq (·.push (Value.ref h.objs.size)))) I d S (as ++ [h.objs.size]).length es.size ep := by
      rw [List.length_append]
      exact st'.keep up (Ne.symm ne)
    have r2 : RawD (h'.update S (Obj.mapSeq (·.push (Value.ref h.objs.size)))) d es ep := by
      obtain ⟨o, z1, z2⟩ := r
      exact ⟨o, up d o hSd (k' d o hId z1), z2⟩
    show wpAny _ A.in1 (updateSeq S (·.push (Value.ref h.objs.size)) >>= _) _ _ _
    refine wpAny_bind (wpAny_updateSeq hS' rfl (wpAny_pure ⟨plainId_quiet F.plain_extend_loop _, ih _ tk _ (acc.push (Value.ref h.objs.size)) (as ++ [h.objs.size]) (by rw [List.length_append, List.length_singleton]; omega) (by rw [List.length_append, List.length_singleton]; omega) st2 r2
      (λ b o n1 n2 z => up b o n1 (k' b o n2 (kp b o n1 n2 z))) (Heap.get?_update_self _ hS' rfl) (by rw [Array.toList_push, ha, List.map_append]; rfl) G' ?_⟩) (by rw [hz]; omega) (by show (acc.push (Value.ref h.objs.size)).size <= sizeLine + 1; rw [Array.size_push, hz]; omega))
    exact Nat.lt_trans hI (Heap.lt_size (up _ _ (Nat.ne_of_gt lS) t'))
end
section
variable {prog : Program} {w : World} {A : Around} {E : Value -> Shared -> Prop} {s : Shared} {es : Array DictEntry} {ep : Nat} {r d : Addr}
theorem a2J {R : Result -> Shared -> Prop} (hh : A.handled = none) (hv : s.heap.IsItemsView r d) (hm : RawD s.heap d es ep) (S : Addr) (hSr : S ≠ r) (hSd : d ≠ S) (res : Value) (c₀ : Nat) (hS : s.heap.get? S = some { cls := .type "list", data := .seq #[] c₀ }) (hn : es.size <= sizeLine)
    (hR : ∀ h' tk acc c as, (∀ b o, b ≠ S -> s.heap.get? b = some o -> h'.get? b = some o) -> h'.get? S = some { cls := .type "list", dict := none, data := .seq acc c, slots := #[] } -> as.length = es.size -> PrsAt es s.heap.objs.size h' as -> acc.toList = as.map Value.ref -> R (.ok (.ret res)) { s with heap := h', toks := tk }) :
    wpAny (model prog w) A.in1 (Builtin.List.listExtendWith (.ref S) (.ref r) res) (λ fin s' => match fin with | .done f => R (.ok f) s' | .again c' => c'.quiet = true /\ codeAny (model prog w) A c' R s') (λ e s' => R (.error e) s') s := by
  have lS : S < s.heap.objs.size := Heap.lt_size hS
  have ld : d < s.heap.objs.size := by obtain ⟨o, z, _⟩ := hm; exact Heap.lt_size z
  obtain ⟨ob, hob⟩ : ∃ ob : Obj, ob = { cls := .type "dict_itemiterator", data := .fields #[.none, .bool false, .ref d, .int 0 0, .int es.size 0, .int ep 0, .none, .none] } := ⟨_, rfl⟩
  have go : ∀ (h : Heap) (c₁ tk : Nat), (∀ b o, b ≠ S -> (s.heap.push ob).get? b = some o -> h.get? b = some o) -> h.get? S = some { cls := .type "list", data := .seq #[] c₁ } -> codeAny (model prog w) A (.builtin "list.extend.loop" ⟨[.ref S, .ref s.heap.objs.size, res], []⟩) R { s with heap := h, toks := tk } := by
    intro h c₁ tk hk h1
    have hI := hk s.heap.objs.size _ (Nat.ne_of_gt lS) (Heap.get?_push_size _ (by rw [hob]; rfl))
    rw [hob] at hI
    refine a4W (es := es) (ep := ep) (s := s) (g := s.heap) (d := d) hh lS hSd (Nat.ne_of_lt ld) hn res (λ h' tk' acc c as k2 z1 z2 z3 z4 => hR h' tk' acc c as (λ b o n z => k2 b o n (Nat.ne_of_lt (Heap.lt_size z)) z) z1 z2 z3 z4) es.size h tk c₁ #[] [] (Nat.sub_zero _) (Nat.zero_le _) (.inl ⟨rfl, .none, .none, hI⟩) ?_ (λ b o n _ z => hk b o n (Heap.get?_push_of_some _ z)) h1 rfl ⟨List.Pairwise.nil, (λ _ z => nomatch z), λ j a z => by simp at z⟩ (Heap.lt_size hI)
    obtain ⟨o, z1, z2⟩ := hm
    exact ⟨o, hk d o hSd (Heap.get?_push_of_some _ z1), z2⟩
  unfold Builtin.List.listExtendWith
  refine wpAny_bind (wpAny_typeOf (T := "dict_items") hv.typeIs ?_)
  rw [show Builtin.List.listSameRef (.ref S) (.ref r) = false by simp [Builtin.List.listSameRef, hSr]]
  simp only [show (Value.type "dict_items" == Value.type "list") = false by decide, show (Value.type "dict_items" == Value.type "tuple") = false by decide, Bool.or_false, Bool.false_eq_true, if_false]
  refine wpAny_bind (raw_items hv hm ?_)
  rw [<- hob]
  have h1 := Heap.get?_push_of_some ob hS
  refine wpAny_bind (wpAny_holding (PySem.W.kdx_hint (by obtain ⟨o, z1, z2, _⟩ := hv; exact ⟨o, Heap.get?_push_of_some _ z1, z2⟩) ?_))
  refine wpAny_ite_split (λ _ => ?_) λ _ => wpAny_pure ⟨plainId_quiet F.plain_extend_loop _, go _ c₀ _ (λ b o _ z => z) h1⟩
  refine wpAny_bind (wpAny_rule (wpAny_bind ?_))
  show wpAny _ _ (updateSeq S (·.push .none) >>= λ _ => updateSeq S (·.pop)) _ _ _
  refine wpAny_bind (wpAny_updateSeq h1 rfl ?_)
  have h2 := Heap.get?_update_self (Obj.mapSeq (·.push Value.none)) h1 rfl
  refine wpAny_updateSeq (hz := by seq_fits) h2 rfl ?_
  have h3 := Heap.get?_update_self (Obj.mapSeq (·.pop)) h2 rfl
  exact wpAny_pure ⟨plainId_quiet F.plain_extend_loop _, go _ _ _ (λ b o n z => (Heap.get?_update_other _ _ (Ne.symm n)).trans ((Heap.get?_update_other _ _ (Ne.symm n)).trans z)) h3⟩
theorem a4X {Q : Value -> Shared -> Prop} (hh : A.handled = none) (hv : s.heap.IsItemsView r d) (hm : RawD s.heap d es ep) (hn : es.size <= sizeLine)
    (hQ : ∀ h' tk acc c as, (∀ b o, s.heap.get? b = some o -> h'.get? b = some o) -> h'.get? s.heap.objs.size = some { cls := .type "list", dict := none, data := .seq acc c, slots := #[] } -> as.length = es.size -> PrsAt es s.heap.objs.size h' as -> acc.toList = as.map Value.ref -> Q (.ref s.heap.objs.size) { s with heap := h', toks := tk }) :
    wpAny (model prog w) A (call (.type "list") [.ref r]) Q E s := by
  refine callType_codes (Q₁ := λ obj s₁ => obj = .ref s.heap.objs.size /\ s₁ = { s with heap := s.heap.push { cls := .type "list", data := .seq #[] } }) F.called_list (F.typeCall_list_1 _) F.entry_list_init (code_list_new _ ⟨rfl, rfl⟩) λ obj s₁ z => ?_
  obtain ⟨rfl, rfl⟩ := z
  obtain ⟨S, hSe⟩ : ∃ S, S = s.heap.objs.size := ⟨_, rfl⟩
  have hS : (s.heap.push { cls := .type "list", data := .seq #[] }).get? S = some { cls := .type "list", data := .seq #[] } := by rw [hSe]; exact Heap.get?_push_size _ rfl
  have lr : r < s.heap.objs.size := by obtain ⟨o, z, _⟩ := hv; exact Heap.lt_size z
  have ld : d < s.heap.objs.size := by obtain ⟨o, z, _⟩ := hm; exact Heap.lt_size z
  rw [<- hSe]
  refine ⟨⟨_, hS, rfl⟩, F.args_list_init_2 _ _, ?_⟩
  show wpAny _ _ (do let old ← Builtin.List.listItems (.ref S); Builtin.List.listUpdate (.ref S) (λ _ => #[]); letGo old.toList.reverse; Builtin.List.listExtendWith (.ref S) (.ref r) .none) _ _ _
  unfold Builtin.List.listItems
  refine wpAny_bind (wpAny_bind (wpAny_seqItems hS rfl (wpAny_pure ?_)))
  show wpAny _ _ (updateSeq S (λ _ => #[]) >>= λ _ => letGo (#[] : Array Value).toList.reverse >>= λ _ => Builtin.List.listExtendWith (.ref S) (.ref r) .none) _ _ _
  refine wpAny_bind (wpAny_updateSeq hS rfl ?_)
  have h2 := Heap.get?_update_self (Obj.mapSeq (λ _ => (#[] : Array Value))) hS rfl
  have oth : ∀ b o, s.heap.get? b = some o -> ((s.heap.push { cls := .type "list", data := .seq #[] }).update S (Obj.mapSeq (λ _ => (#[] : Array Value)))).get? b = some o := λ b o z => (Heap.get?_update_other _ _ (by rw [hSe]; exact Nat.ne_of_gt (Heap.lt_size z))).trans (Heap.get?_push_of_some _ z)
  refine wpAny_bind (wpAny_letGo (a2J (A := A.in1) (es := es) (ep := ep) (d := d) hh ?_ ?_ S (by rw [hSe]; exact Nat.ne_of_gt lr) (by rw [hSe]; exact Nat.ne_of_lt ld) .none _ h2 hn λ h' tk acc c as k z1 z2 z3 z4 => ⟨rfl, ?_⟩))
  . obtain ⟨o, z1, z2⟩ := hv
    exact ⟨o, oth r o z1, z2⟩
  . obtain ⟨o, z1, z2⟩ := hm
    exact ⟨o, oth d o z1, z2⟩
  . rw [hSe]
    refine hQ h' tk acc c as (λ b o z => k b o (by rw [hSe]; exact Nat.ne_of_lt (Heap.lt_size z)) (oth b o z)) (by rw [<- hSe]; exact z1) z2 ⟨z3.up, λ a m => ?_, z3.at_⟩ z4
    exact Nat.lt_trans (by rw [<- hSe]; exact Heap.lt_size h2) (z3.new a m)
theorem a4Y (d : Addr) (hd : (d == sysModules) = false) : MeetsIn prog w (Builtin.«dict.items» ⟨[.ref d], []⟩) (λ _ R s => s.TypeIs (.ref d) "dict" /\ R (.ok (.ret (.ref s.heap.objs.size))) { s with heap := s.heap.push { cls := .type "dict_items", data := .fields #[.ref d] } }) :=
  .of_wp λ A R s ⟨ty, h⟩ => by
    unfold Builtin.«dict.items» Builtin.Dict.noArgs
    refine wpAny_bind (wpAny_bind (wpAny_notOrdered_dict ty ?_))
    show wpAny _ _ (pure d) _ _ s
    refine wpAny_pure ?_
    show wpAny _ _ (Builtin.Dict.showsAll d >>= _) _ _ s
    unfold Builtin.Dict.showsAll
    rw [if_neg (by rw [hd]; decide)]
    exact wpAny_bind (wpAny_pure (wpAny_bind (wpAny_newObj_type (wpAny_pure ⟨_, rfl, h⟩))))
end
@[irreducible] def x5 : List (List Key × V) -> Hp -> (List V -> Hp -> Prop) -> Prop
  | [], H, R => R [] H
  | kv :: r, H, R => ∀ t p, H t = some (.tup (kv.1.map kV)) -> H p = none -> x5 r (upd H p (.tup [.ref t, kv.2])) λ xs H' => R (.ref p :: xs) H'
theorem T5 {H : Hp} {R : List V -> Hp -> Prop} : x5 [] H R = R [] H := by with_unfolding_all rfl
theorem P9 {kv : List Key × V} {r : List (List Key × V)} {H : Hp} {R : List V -> Hp -> Prop} : x5 (kv :: r) H R = ∀ t p, H t = some (.tup (kv.1.map kV)) -> H p = none -> x5 r (upd H p (.tup [.ref t, kv.2])) λ xs H' => R (.ref p :: xs) H' := by
  with_unfolding_all rfl
@[irreducible] def O0 (x : V) (H : Hp) (Q : VK) : Prop := match x with
  | .ref a => match H a with
    | some (.dT kvs) => x5 kvs H λ xs H' => newO H' (.lst xs) Q
    | some (.frz _ (.dT kvs)) => x5 kvs H λ xs H' => newO H' (.lst xs) Q
    | _ => False
  | _ => False
def C2 (td : TE) : TE := λ σ H Q => td σ H λ x H1 => O0 x H1 Q
section
variable {X : Cx} {pins : List (Addr × Obj)} {σ : St} {s0 s : Shared}
theorem Q1 (n : Nat) (h0 : ∀ (H' : Hp) b, n <= b -> H' b = none -> FpOk X pins H' b) (hs0 : X.s₀.heap.objs.size <= n) {kind : List Key × Addr × Value -> DictEntry} (hkind : ∀ x, (kind x).key = .ref x.2.1 /\ (kind x).val = x.2.2) :
    ∀ (as : List Addr) (kvs : List (List Key × V)) (xs : List (List Key × Addr × Value)) (H : Hp) (R : List V -> Hp -> Prop), Inv X pins σ H s -> KT H kvs xs -> as.length = xs.length -> as.Pairwise (· < ·) -> (∀ a ∈ as, n <= a /\ H a = none) →
      (∀ (j : Nat) (a : Addr), as[j]? = some a -> ∃ x, xs[j]? = some x /\ s.heap.get? a = some { cls := .type "tuple", data := .seq #[(kind x).key, (kind x).val] }) -> x5 kvs H R →
      ∃ vs H', Vals vs (as.map Value.ref) /\ Inv X pins σ H' s /\ R vs H' /\ ∀ b, b ∉ as -> H' b = H b
  | [], kvs, xs, H, R, I, kt, hl, _, _, _, q => by
    cases kt with
    | nil => rw [T5] at q; exact ⟨[], H, .nil, I, q, λ _ _ => rfl⟩
    | cons _ _ => simp at hl
  | a :: as, kvs, xs, H, R, I, kt, hl, up, fr, hp, q => by
    cases kt with
    | nil => simp at hl
    | cons hx kt =>
      rename_i kv x kvs xs
      obtain ⟨k1, k2, k3⟩ := hx
      rw [P9] at q
      obtain ⟨na, ha⟩ := fr a (by simp)
      obtain ⟨y, hy, ht⟩ := hp 0 a rfl
      simp at hy
      subst hy
      have up' := List.pairwise_cons.mp up
      have I1 : Inv X pins σ (upd H a (.tup [.ref x.2.1, kv.2])) s := by
        refine V7 I (h0 H a na ha) (Nat.le_trans hs0 na) ⟨by show 2 <= sizeLine; decide, [(kind x).key, (kind x).val], ?_, _, ht, rfl, _, rfl⟩
        rw [(hkind x).1, (hkind x).2]
        exact .cons rfl (.cons k3 .nil)
      obtain ⟨vs, H', r1, r2, r3, r4⟩ := Q1 n h0 hs0 hkind as kvs xs _ _ I1 (KT.keeps kt λ b ys e => by rw [b4 (b8 e ha)]; exact e) (by simpa using hl) up'.2 (λ b hb => ⟨(fr b (by simp [hb])).1, by rw [b4 (Nat.ne_of_gt (up'.1 b hb))]; exact (fr b (by simp [hb])).2⟩) (λ j b hj => hp (j + 1) b (by simpa using hj)) (q x.2.1 a k2 ha)
      exact ⟨.ref a :: vs, H', .cons rfl r1, r2, r3, λ b hb => by
        simp only [List.mem_cons, not_or] at hb
        rw [r4 b hb.2, b4 hb.1]⟩
theorem a2K {d : Expr} {td : TE} {p apos cpos pos : Pos} (hc : X.calm = true) (hg : Gl X "list") (hm : X.mg "list" = none) (hd : PE X d td) (hb : j4 d = true) (hline : (apos.endLine == cpos.line) = true) :
    PE X (.Call (.Name "list" p) [.Call (.Attribute d "items" apos) [] [] cpos] [] pos) (C2 td) := by
  intro pins s σ H Q I h
  refine Call_ (U5 I hg hm (u := .type "list") (by first | rfl | kernel_rfl) (PyProof.Rows.callWith_type1 (Calls.spliced_cons (Q := λ us s1 => wpAny (model X.prog X.w) X.A (call (.type "list") us) (EP X pins σ Q) X.xe s1) ?_) rfl rfl))
  refine wpAny_Call_method0_late (B2 hb) hline (thn (hd pins s σ H _ I h) λ v s1 ⟨x, H1, I1, r1, q1⟩ => ?_)
  replace q1 : O0 x H1 Q := q1
  obtain ⟨a, kvs, rfl, hk, q2⟩ : ∃ a kvs, x = .ref a /\ Rd H1 a (.dT kvs) /\ x5 kvs H1 λ xs H' => newO H' (.lst xs) Q := by
    unfold O0 at q1
    split at q1
    . rename_i a
      split at q1
      . rename_i kvs e; exact ⟨a, kvs, rfl, .inl e, q1⟩
      . rename_i o kvs e; exact ⟨a, kvs, rfl, .inr ⟨o, e⟩, q1⟩
      . exact q1.elim
    . exact q1.elim
  cases r1
  obtain ⟨lo, z, xs, es, ep, kt, e4, r⟩ := dT_raw I1 hk
  have ty := r.typeIs
  have nd : ∀ b, Value.ref a = .ref b -> ∃ ob, s1.heap.get? b = some ob /\ ob.dict = none := λ b eb => by
    cases eb
    obtain ⟨o, z1, z2, _⟩ := r
    exact ⟨o, z1, z2.2.1⟩
  refine ⟨"dict", "dict.items", F.plainAttrs_dict, F.slot_dict_items, F.type_dict_items, ty, nd, Calls.callWith_builtin rfl (PySem.evalArgs_none ?_)⟩
  refine call_meetsIn F.slot_dict_items ty F.entry_dict_items (F.args_dict_items_1 _) (a4Y a lo) ⟨ty, ?_⟩
  refine Calls.spliced_nil ?_
  have hz : es.size = kvs.length := by rw [<- Array.length_toList, e4, List.length_map]; exact (Paired.length kt).symm
  have I2 := I1.kept (t' := s1.toks) (h' := s1.heap.push { cls := .type "dict_items", data := .fields #[.ref a] }) λ b o e => Heap.get?_push_of_some _ e
  have r2 : RawD (s1.heap.push { cls := .type "dict_items", data := .fields #[.ref a] }) a es ep := by
    obtain ⟨o, z1, z2⟩ := r
    exact ⟨o, Heap.get?_push_of_some _ z1, z2⟩
  refine a4X (s := { s1 with heap := s1.heap.push { cls := .type "dict_items", data := .fields #[.ref a] } }) (I.ok.hd hc) ⟨_, Heap.get?_push_size _ rfl, rfl, rfl⟩ r2 (by rw [hz]; exact z) λ h' tk acc c as k hS hl G ha => ?_
  obtain ⟨n, hn⟩ : ∃ n, n = (s1.heap.push { cls := .type "dict_items", data := .fields #[.ref a] }).objs.size := ⟨_, rfl⟩
  have I3 := I2.kept (t' := tk) (h' := h') k
  have fresh : ∀ b, n <= b -> H1 b = none := λ b hb => I2.hok.fresh (by rw [<- hn]; exact hb)
  have hat : ∀ (j : Nat) (b : Addr), as[j]? = some b -> ∃ x, xs[j]? = some x /\ h'.get? b = some { cls := .type "tuple", data := .seq #[(entryOfKey (tupleKind (e7 X.prog X.w)) x).key, (entryOfKey (tupleKind (e7 X.prog X.w)) x).val] } := λ j b hj => by
    obtain ⟨e, z1, z2⟩ := G.at_ j b hj
    rw [<- Array.getElem?_toList, e4, List.getElem?_map] at z1
    cases hx : xs[j]? with
    | none => rw [hx] at z1; cases z1
    | some x =>
      rw [hx] at z1
      cases z1
      exact ⟨x, rfl, z2⟩
  obtain ⟨vs, H', v1, v2, v3, v4⟩ := Q1 (s := { s1 with heap := h', toks := tk }) n (λ H' b hb e => I2.fpOk (by rw [<- hn]; exact hb) e) (by rw [hn]; exact I2.sz) (kind := entryOfKey (tupleKind (e7 X.prog X.w))) (λ x => ⟨rfl, rfl⟩) as kvs xs H1 _ I3 kt (by rw [hl, hz]; exact Paired.length kt) G.up (λ b hb => ⟨Nat.le_of_lt (by rw [hn]; exact G.new b hb), fresh b (Nat.le_of_lt (by rw [hn]; exact G.new b hb))⟩) hat q2
  . have hS' : H' n = none := by
      rw [v4 n λ m => ?_]
      . exact fresh n (Nat.le_refl _)
      . have := G.new n m
        rw [hn] at this
        exact absurd this (Nat.lt_irrefl _)
    refine ⟨.ref n, upd H' n (.lst vs), V7 v2 (I2.fpOk (by rw [hn]; exact Nat.le_refl _) hS') (by rw [hn]; exact I2.sz) ⟨?_, as.map Value.ref, c, v1, ?_⟩, by rw [hn]; rfl, v3.at n hS'⟩
    . rw [Paired.length v1, List.length_map, hl, hz]
      exact z
    . rw [hn, <- ha, Array.toArray_toList]
      exact hS
end
structure W where
  E : Cfg -> Expr -> TE
  T : Cfg -> Expr -> TT
  S : Cfg -> Stmt -> TS
def wA (w : W) (C : Cfg) : List Expr -> TA
  | [] => b7
  | e :: es => match i0 e with
    | true => xA
    | false => a8 (w.E C e) (wA w C es)
def constG : Const -> TE
  | .int i => tC (.int i)
  | .bool b => tC (.bl b)
  | .none => tC .non
  | .str x => tC (.str x)
  | _ => xE
def andG (w : W) (C : Cfg) : List Expr -> TE
  | [] => xE
  | [a] => w.E C a
  | a :: r => tAndG (w.E C a) (andG w C r)
def orG (w : W) (C : Cfg) : List Expr -> TE
  | [] => xE
  | [a] => w.E C a
  | a :: r => tOrG (w.E C a) (orG w C r)
def andB (w : W) (C : Cfg) : List Expr -> TT
  | [] => xT
  | [a] => w.T C a
  | a :: r => tAndB (w.T C a) (andB w C r)
def orB (w : W) (C : Cfg) : List Expr -> TT
  | [] => xT
  | [a] => w.T C a
  | a :: r => V1 (w.T C a) (orB w C r)
def a1P : Expr -> Bool
  | .Set _ _ _ => true
  | _ => false
def a2L : Expr -> Bool
  | .Slice _ _ _ _ => true
  | _ => false
def R4 : Expr -> Bool
  | .ListComp _ _ _ _ => true
  | .SetComp _ _ _ _ => true
  | .DictComp _ _ _ _ _ => true
  | _ => false
def isScr (C : Cfg) : Expr -> Bool
  | .Name x _ => C.scr.contains x
  | _ => false
def cmpE (w : W) (C : Cfg) (a : Expr) : List CmpOp -> List Expr -> TE
  | [op], [b] => match a1P b with
    | false => tOp (cmpG op) (w.E C a) (w.E C b)
    | true => xE
  | [op, op'], [b, c] => match a1P c with
    | false => K4 (cmpG op) (cmpG op') (w.E C a) (w.E C b) (w.E C c)
    | true => xE
  | _, _ => xE
def l7 (t : TE) : TO := λ σ H Q => t σ H λ x H1 => match x with
  | .int i => Q (some i) H1
  | _ => False
def poG (w : W) (C : Cfg) : Option Expr -> TO
  | none => g6
  | some e => l7 (w.E C e)
@[irreducible] def slH (a : Addr) (lo hi : Option Int) (H : Hp) (Q : VK) : Prop := match H a with
  | some (.lst xs) => newO H (.lst (J9 xs lo hi)) Q
  | _ => False
def slG : V -> Option Int -> Option Int -> Hp -> VK -> Prop := λ x lo hi H Q => match x with
  | .str z => z.length <= sizeLine /\ Q (.str (Txt.slice z lo hi)) H
  | .ref a => slH a lo hi H Q
  | _ => False
def lenS (K : PySem.W.Frag) : List V -> Hp -> VK -> Prop := λ xs H Q => ∃ p ys, xs = [.ref p] /\ SqL K H p ys /\ Q (.int ys.length) H
def isOwn (C : Cfg) : List Expr -> Bool
  | [.Name y _] => match C.glo.lookup y with
    | some (.ref _) => true
    | _ => false
  | _ => false
def a2M (x : Str) : List Expr -> Option Expr
  | [.Call (.Attribute d m apos) [] [] cpos] => if x = "list" /\ m = "items" /\ j4 d = true /\ (apos.endLine == cpos.line) = true then some d else none
  | _ => none
theorem a5a {x : Str} {es : List Expr} {d : Expr} (h : a2M x es = some d) : x = "list" /\ ∃ apos cpos, es = [.Call (.Attribute d "items" apos) [] [] cpos] /\ j4 d = true /\ (apos.endLine == cpos.line) = true := by
  unfold a2M at h
  split at h
  . split at h
    . rename_i c
      cases h
      obtain ⟨c1, c2, c3, c4⟩ := c
      subst c2
      exact ⟨c1, _, _, rfl, c3, c4⟩
    . cases h
  . cases h
def callG (w : W) (C : Cfg) (x : Str) (es : List Expr) : TE := match t7 x, C.names.lookup x, es.any i0 with
  | true, some .globalImplicit, false => match C.fns.lookup x with
    | some sp => g5 sp [] C.E (wA w C es)
    | none => match C.mks.lookup x with
      | some (cl, sp) => a1r cl sp [] C.E (wA w C es)
      | none => match C.nog.contains x, es with
        | true, e :: r => match bltF x with
          | some (i, rd) => match i == "len" && isScr C e && r.isEmpty with
            | true => tCB (lenS C.K) (wA w C (e :: r))
            | false => match i == "isinstance" && isOwn C r with
              | true => tCB (isiC C.ics) (wA w C (e :: r))
              | false => tCB rd (wA w C (e :: r))
          | none => match bltC x with
            | some (i, rd) => match a2M x (e :: r) with
              | some d => C2 (w.E C d)
              | none => tCB rd (wA w C (e :: r))
            | none => xE
        | _, _ => xE
  | _, _, _ => xE
def methG (w : W) (C : Cfg) (o : Expr) (m : Str) (apos cpos : Pos) (es : List Expr) : TE := match j4 o, es.any i0, decide (es.length < 29), (apos.endLine == cpos.line) with
  | true, false, true, true => match C.mts.lookup m with
    | some (cl, sp) => V2 cl m sp C.E (w.E C o) (wA w C es)
    | none => y4 m (w.E C o) (wA w C es)
  | _, _, _, _ => xE
def y6 (C : Cfg) (x : Str) : Option Nat := match C.names.lookup x with
  | some .local => j8 C.N x
  | some .cell => j8 C.N x
  | _ => none
def gNm (C : Cfg) (x : Str) : TG := match y6 C x with
  | some i => b9 i
  | none => xG
def gNms (C : Cfg) : List Expr -> TGs
  | [] => gNil
  | .Name x _ :: r => P6 (gNm C x) (gNms C r)
  | _ :: _ => λ _ _ _ _ => False
def wG (C : Cfg) : Expr -> TG
  | .Name x _ => gNm C x
  | .Tuple ts _ _ => X4 ts.length (gNms C ts)
  | _ => xG
def isTup : Expr -> Bool
  | .Tuple _ _ _ => true
  | _ => false
def wIN (w : W) (C : Cfg) (tg : Expr) (x : Str) (e : Expr) (es : List Expr) : TI2 := match decide (x = "range"), C.names.lookup x, C.nog.contains x, (e :: es).any i0 with
    | true, some .globalImplicit, true, false => iRngG (wA w C (e :: es))
    | true, _, _, _ => xI2
    | false, _, _, _ => match decide (x = "zip") && isTup tg, C.names.lookup x, C.nog.contains x, (e :: es).any i0 with
      | true, some .globalImplicit, true, false => iZipG (wA w C (e :: es))
      | true, _, _, _ => xI2
      | false, _, _, _ => iOf w5 (callG w C x (e :: es))
def wIM (w : W) (C : Cfg) (tg d : Expr) (m : Str) (apos cpos : Pos) : TI2 := match isTup tg && decide (m = "items") && j4 d && (apos.endLine == cpos.line) with
    | true => iOf R3 (w.E C d)
    | false => iOf w5 (w.E C (.Call (.Attribute d m apos) [] [] cpos))
def wI (w : W) (C : Cfg) (tg : Expr) : Expr -> TI2
  | .Call (.Name x _) (e :: es) [] _ => wIN w C tg x e es
  | .Call (.Attribute d m apos) [] [] cpos => wIM w C tg d m apos cpos
  | .Set _ _ _ => xI2
  | e => iOf w5 (w.E C e)
def V8 (C : Cfg) : List (Str × NameKind) -> Option (List (Str × Nat))
  | [] => some []
  | (x, .free) :: r => match j8 C.N x, C.names.lookup x, V8 C r with
    | some j, some .cell, some l => some ((x, j) :: l)
    | _, _, _ => none
  | (_, .cell) :: _ => none
  | _ :: r => V8 C r
def relN (C : Cfg) (names : List (Str × NameKind)) : List (Str × NameKind) := names.map λ (n, k) => if (k == NameKind.free && C.names.lookup n == some .cell) = true then (n, .cell) else (n, k)
def a2N : Expr -> Option (List Str)
  | .Name x _ => some [x]
  | .Tuple ts _ _ => ts.mapM λ e => match e with
    | .Name x _ => some x
    | _ => none
  | _ => none
def ifsG (w : W) (C : Cfg) : List Expr -> TT
  | [] => tYes
  | [c] => w.T C c
  | _ => xT
def E2 (tn : List Str) (fr : List (Str × Nat)) (names : List (Str × NameKind)) : Bool :=
  decide (tn ++ fr.map (·.1)).Nodup && (names.all λ y => names.lookup y.1 == some y.2) && tn.all λ x => names.lookup x == some .local
def M1 (C : Cfg) (tn : List Str) (fr : List (Str × Nat)) (names : List (Str × NameKind)) : Cfg := { C with N := tn ++ fr.map (·.1), names := relN C names, E := E0, scr := [], top := false }
def compG (w : W) (C : Cfg) (elt : Expr) (gens : List Comprehension) (scope : Scope) : TE := match gens with
  | [⟨tg, it, ifs, 0⟩] => match a2N tg, V8 C scope.names, scope.kind, a1P it with
    | some tn, some fr, .function, false => match E2 tn fr scope.names with
      | true => N8 (wI w C tg it) tn fr (wG (M1 C tn fr scope.names) tg) (ifsG w (M1 C tn fr scope.names) ifs) (w.E (M1 C tn fr scope.names) elt)
      | false => xE
    | _, _, _, _ => xE
  | _ => xE
def u4 (t : TA) : TE := λ σ H Q => t σ H λ xs H1 => xs.length <= sizeLine /\ newO H1 (.lst xs) Q
def a1Q (t : TA) : TE := λ σ H Q => t σ H λ xs H1 => xs.length <= sizeLine /\ newO H1 (.tup xs) Q
def rSlS (K : PySem.W.Frag) : V -> Option Int -> Option Int -> Hp -> VK -> Prop := λ x lo hi H Q => ∃ a xs, x = .ref a /\ SqL K H a xs /\ newO H (.lst (J9 xs lo hi)) Q
def a1R : TE := λ _ H Q => newO H (.dK []) Q \/ newO H (.dT []) Q
def a2O (w : W) (C : Cfg) : List (Option Expr) -> List Expr -> Option (List (TE × TE))
  | [], [] => some []
  | some k :: ks, v :: vs => match a2O w C ks vs with
    | some l => some ((w.E C k, w.E C v) :: l)
    | none => none
  | _, _ => none
def dispG (w : W) (C : Cfg) (ks : List (Option Expr)) (vs : List Expr) : TE := match a2O w C ks vs, decide (ks.length <= 15) with
  | some [], _ => a1R
  | some l, true => a1A l
  | _, _ => xE
def fmtG (t : TE) : TE := λ σ H Q => t σ H λ x H1 => match x with
  | .str z => z.length <= sizeLine /\ Q (.str z) H1
  | _ => False
def jpG : List TE -> Str -> TE
  | [], out => λ _ H Q => Q (.str out) H
  | t :: r, out => λ σ H Q => t σ H λ x H1 => match x with
    | .str y => (out ++ y).length <= sizeLine /\ jpG r (out ++ y) σ H1 Q
    | _ => False
def eachG (w : W) (C : Cfg) : List Expr -> List TE
  | [] => []
  | e :: es => w.E C e :: eachG w C es
def fstrG (w : W) (C : Cfg) : List Expr -> TE
  | [] => xE
  | [v] => w.E C v
  | v :: u :: r => jpG (eachG w C (v :: u :: r)) Str.empty
def slX (w : W) (C : Cfg) (a : Expr) (lo hi : Option Expr) : TE := match isScr C a with
  | true => tSl (rSlS C.K) (w.E C a) (poG w C lo) (poG w C hi)
  | false => tSl slG (w.E C a) (poG w C lo) (poG w C hi)
def subX (w : W) (C : Cfg) (a b : Expr) : TE := match a2L b, isScr C a with
  | false, true => tOp (rIxL C.K) (w.E C a) (w.E C b)
  | false, false => tOp j9 (w.E C a) (w.E C b)
  | true, _ => xE
def attX (w : W) (C : Cfg) (o : Expr) (f : Str) : TE := match C.fld.lookup f, j4 o with
  | some cl, true => tFldG cl f (w.E C o)
  | _, _ => xE
def fmtX (w : W) (C : Cfg) (v : Expr) (c : Int) (f : Option Expr) : TE := match f, decide (c = -1) with
  | none, true => fmtG (w.E C v)
  | _, _ => xE
def stepE (w : W) (C : Cfg) (e : Expr) : TE := match e with
  | .Constant c _ _ => constG c
  | .Name x _ => nameG C x
  | .BinOp a op b _ => tOp (binG op) (w.E C a) (w.E C b)
  | .UnaryOp .Not a _ => tNotG (w.E C a)
  | .UnaryOp .USub a _ => tUn negG (w.E C a)
  | .BoolOp .And es _ => andG w C es
  | .BoolOp .Or es _ => orG w C es
  | .Compare a ops bs _ => cmpE w C a ops bs
  | .IfExp c a b _ => tIfG (w.T C c) (w.E C a) (w.E C b)
  | .List es _ => u4 (wA w C es)
  | .Tuple es _ _ => a1Q (wA w C es)
  | .Dict ks vs _ => dispG w C ks vs
  | .Subscript a (.Slice lo hi none _) _ => slX w C a lo hi
  | .Subscript a b _ => subX w C a b
  | .Attribute o f _ => attX w C o f
  | .Call (.Name x _) es [] _ => callG w C x es
  | .Call (.Attribute o m apos) es [] cpos => methG w C o m apos cpos es
  | .ListComp elt gens scope _ => compG w C elt gens scope
  | .JoinedStr vs _ => fstrG w C vs
  | .FormattedValue v c f _ => fmtX w C v c f
  | _ => xE
def stepT (w : W) (C : Cfg) (e : Expr) : TT := match e with
  | .UnaryOp .Not a _ => J7 (w.T C a)
  | .UnaryOp _ _ _ => xT
  | .BoolOp .And es _ => andB w C es
  | .BoolOp .Or es _ => orB w C es
  | .IfExp _ _ _ _ => xT
  | .Compare a ops bs _ => bT (cmpE w C a ops bs)
  | e => ptG (stepE w C e)
def wSs (w : W) (C : Cfg) : List Stmt -> TS
  | [] => g0
  | [s] => w.S C s
  | s :: r => c8 (w.S C s) (wSs w C r)
def sIf (c : TT) (t u : TS) : TS := λ D σ H => c σ H λ b H1 => br b (t D σ H1) (u D σ H1)
def isDoc : Expr -> Bool
  | .Constant (.str _) _ _ => true
  | _ => false
@[irreducible] def sfH (cl : Addr) (f : Str) (p : Addr) (y : V) (σ : St) (H2 : Hp) (N : St -> Hp -> Prop) : Prop := match H2 p with
  | some (.ins C dx fs) => C = cl /\ fs.length < 1000 /\ N σ (upd H2 p (.ins C dx (F4 f y fs)))
  | _ => False
def sFldG (cl : Addr) (f : Str) (to te : TE) : TS := λ D σ H => te σ H λ y H1 => to σ H1 λ x H2 => match x with
  | .ref p => sfH cl f p y σ H2 D.nx
  | _ => False
def asgN (w : W) (C : Cfg) (x : Str) (e : Expr) : TS := match y6 C x with
  | some i => e9 (w.E C e) (b9 i)
  | none => xS
def asgS (w : W) (C : Cfg) (o i e : Expr) : TS := match a2L i, R4 e with
  | false, false => e9 (w.E C e) (gSub (w.E C o) (w.E C i) T4)
  | _, _ => xS
def asgF (w : W) (C : Cfg) (o : Expr) (f : Str) (e : Expr) : TS := match C.fld.lookup f, R4 e with
  | some cl, false => sFldG cl f (w.E C o) (w.E C e)
  | _, _ => xS
def asgG (w : W) (C : Cfg) (tg e : Expr) : TS := match tg with
  | .Name x _ => asgN w C x e
  | .Subscript o i _ => asgS w C o i e
  | .Attribute o f _ => asgF w C o f e
  | _ => xS
def raiseG (w : W) (C : Cfg) (x : Str) (es : List Expr) : TS := match t7 x, C.names.lookup x, C.exs.lookup x, es.any i0, es with
  | true, some .globalImplicit, some cl, false, _ :: _ => V6 C.E cl (wA w C es)
  | _, _, _, _, _ => xS
def isTupL : List Expr -> Bool
  | [.Tuple _ _ _] => true
  | _ => false
def qIsi (w : W) (C : Cfg) (x : Str) (es : List Expr) : TE := match t7 x, C.names.lookup x, decide (x = "isinstance"), C.nog.contains x, es.any i0, es with
  | true, some .globalImplicit, true, true, false, e :: r => match isTupL r with
    | true => tCB (isiT C.kit) (wA w C (e :: r))
    | false => tCB (isiX C.kit) (wA w C (e :: r))
  | _, _, _, _, _, _ => xE
def a2P (w : W) (C : Cfg) (e : Expr) : TE := match e with
  | .Constant c _ _ => constG c
  | .Name x _ => nameG C x
  | .BinOp a .Add b _ => tOp j0 (w.E C a) (w.E C b)
  | .UnaryOp .Not a _ => tNotG (w.E C a)
  | .BoolOp .And es _ => andG w C es
  | .BoolOp .Or es _ => orG w C es
  | .List es _ => u4 (wA w C es)
  | .Tuple es _ _ => a1Q (wA w C es)
  | .Call (.Name x _) es [] _ => qIsi w C x es
  | _ => xE
def stepQT (w : W) (C : Cfg) (e : Expr) : TT := match e with
  | .UnaryOp .Not a _ => J7 (w.T C a)
  | .UnaryOp _ _ _ => xT
  | .BoolOp .And es _ => andB w C es
  | .BoolOp .Or es _ => orB w C es
  | .IfExp _ _ _ _ => xT
  | .Compare _ _ _ _ => xT
  | e => ptG (a2P w C e)
def stepQS (w : W) (C : Cfg) (s : Stmt) : TS := match s with
  | .Assign [.Name x _] e _ => match y6 C x, C.names.lookup x, R4 e with
    | some i, some .local, false => e9 (w.E C e) (b9 i)
    | _, _, _ => xS
  | .Return (some e) _ => g8 (w.E C e)
  | .Pass _ => g0
  | .If c a b _ => sIf (w.T C c) (wSs w C a) (wSs w C b)
  | _ => xS
def wq : Nat -> W
  | 0 => ⟨λ _ _ => xE, λ _ _ => xT, λ _ _ => xS⟩
  | n + 1 => ⟨a2P (wq n), stepQT (wq n), stepQS (wq n)⟩
def tryC (w : W) (C : Cfg) (f : Str) (es : List Expr) : XK -> TE := match t7 f, C.names.lookup f, es.any i0, es with
  | true, some .globalImplicit, false, e :: r => match C.fns.lookup f with
    | some sp => λ E => g5 sp [] E (wA w { C with E := E0 } (e :: r))
    | none => match C.mks.lookup f with
      | some (cl, sp) => λ E => a1r cl sp [] E (wA w { C with E := E0 } (e :: r))
      | none => λ _ => xE
  | _, _, _, _ => λ _ => xE
def R5 : Expr -> Option (Str × List Expr)
  | .Call (.Name f _) es [] _ => some (f, es)
  | _ => none
def hOf : List ExceptHandler -> Option (Str × Str × List Stmt)
  | [.ExceptHandler (some (.Name x _)) (some n) su _] => some (x, n, su)
  | _ => none
def a2Q : List Expr -> Option Str
  | [.Name y _] => some y
  | _ => none
def tryB (w : W) (C : Cfg) (st : Stmt) : XK -> TS := match st with
  | .Expr e _ => match R5 e with
    | some (f, es) => λ E => F3 (tryC w C f es E)
    | none => λ _ => xS
  | .Assign tg e _ => match R5 e, a2Q tg with
    | some (f, es), some y => match y6 C y, C.names.lookup y with
      | some i, some .local => λ E => e9 (tryC w C f es E) (b9 i)
      | _, _ => λ _ => xS
    | _, _ => λ _ => xS
  | .Return (some e) _ => match R5 e with
    | some (f, es) => λ E => g8 (tryC w C f es E)
    | none => λ _ => xS
  | _ => λ _ => xS
def tryT (w : W) (C : Cfg) (st : Stmt) (x n : Str) (su : List Stmt) : TS := match t7 x, C.names.lookup x, C.exs.lookup x, y6 C n, C.names.lookup n, su, C.top with
  | true, some .globalImplicit, some cx, some i, some .local, b0 :: r, true => tTryS (tryB w C st) C.hit cx i (wSs (wq 20) C (b0 :: r))
  | _, _, _, _, _, _, _ => xS
def fromOf : List Stmt -> Option (Expr × Expr)
  | [.Raise (some e) (some m) _] => some (e, m)
  | _ => none
def tryR (w : W) (C : Cfg) (st : Stmt) (x n y : Str) (es : List Expr) : TS := match t7 x, C.names.lookup x, C.exs.lookup x, y6 C n, C.names.lookup n, C.top with
  | true, some .globalImplicit, some cx, some i, some .local, true => match t7 y, C.names.lookup y, C.exs.lookup y, es.any i0, t7 n, es with
    | true, some .globalImplicit, some cl, false, true, e :: r => tTryR (tryB w C st) C.hit cx i cl (wA (wq 20) C (e :: r)) C.exs C.E
    | _, _, _, _, _, _ => xS
  | _, _, _, _, _, _ => xS
def tryF (w : W) (C : Cfg) (st : Stmt) (x n : Str) (su : List Stmt) : TS := match fromOf su with
  | some (e, m) => match R5 e, a2Q [m] with
    | some (y, es), some m' => match decide (m' = n) with
      | true => tryR w C st x n y es
      | false => xS
    | _, _ => xS
  | none => tryT w C st x n su
def tryA (w : W) (C : Cfg) (body : List Stmt) (hs : List ExceptHandler) : TS := match hs with
  | [] => xS
  | h :: r => match hOf (h :: r), body, C.top with
    | some (x, n, su), [st], true => tryF w C st x n su
    | _, _, _ => wSs w { C with E := E0 } body
def raiseA (w : W) (C : Cfg) (e : Expr) : TS := match R5 e with
  | some (x, es) => raiseG w C x es
  | none => xS
def exX (w : W) (C : Cfg) (e : Expr) : TS := match isDoc e, R4 e with
  | true, _ => g0
  | false, false => F3 (w.E C e)
  | _, _ => xS
def forX (w : W) (C : Cfg) (tg it : Expr) (body : List Stmt) : TS := match a1P it with
  | false => N7 (wI w C tg it) (wG C tg) (wSs w C body)
  | true => xS
def stepS (w : W) (C : Cfg) (s : Stmt) : TS := match s with
  | .Expr e _ => exX w C e
  | .Return (some e) _ => g8 (w.E C e)
  | .Return none _ => tRetN
  | .Pass _ => g0
  | .If c a b _ => sIf (w.T C c) (wSs w C a) (wSs w C b)
  | .For tg it body [] _ => forX w C tg it body
  | .Assign [tg] e _ => asgG w C tg e
  | .Raise (some e) none _ => raiseA w C e
  | .Try body hs [] [] _ => tryA w C body hs
  | _ => xS
def step (w : W) : W := ⟨stepE w, stepT w, stepS w⟩
def wp : Nat -> W
  | 0 => ⟨λ _ _ => xE, λ _ _ => xT, λ _ _ => xS⟩
  | n + 1 => step (wp n)
end Tv
namespace Tv
open PySem PySem.Spec PyProof.Rows L2
structure Snd (w : W) : Prop where
  E : ∀ {CX : CXT} {k : Nat} {X : Cx} {C : Cfg}, Fits CX k X C -> ∀ e, PE X e (w.E C e)
  T : ∀ {CX : CXT} {k : Nat} {X : Cx} {C : Cfg}, Fits CX k X C -> ∀ e, PT X e (w.T C e)
  A : ∀ {CX : CXT} {k : Nat} {X : Cx} {C : Cfg}, Fits CX k X C -> (∀ x, X.fn x = true) -> ∀ (x : Str) (i : Nat) (pos' pos : Pos) (e : Expr), y6 C x = some i -> PS X (.Assign [.Name x pos'] e pos) (e9 (w.E C e) (b9 i))
  S : ∀ {CX : CXT} {k : Nat} {X : Cx} {C : Cfg}, Fits CX k X C -> PassesOwn (model X.prog X.w) X.A X.env X.xe -> (∀ x, X.fn x = true) -> ∀ s, PS X s (w.S C s)
section
variable {CX : CXT} {k : Nat} {X : Cx} {C : Cfg} {w : W}
theorem B1 (hw : Snd w) (F : Fits CX k X C) : ∀ es, PA X es (wA w C es)
  | [] => pa_nil
  | e :: es => by
    unfold wA
    split
    . exact pa_x
    . rename_i h
      exact pa_cons (hw.E F e) (B1 hw F es) (e8 h)
theorem a1S {j : Nat} {pos : Pos} : ∀ c, PE X (.Constant c j pos) (constG c)
  | .int _ => pe_int
  | .bool _ => pe_bl
  | .none => pe_non
  | .str _ => pe_str
  | .float _ => l5
  | .complex _ _ => l5
  | .bytes _ => l5
  | .ellipsis => l5
theorem andG_ok (hw : Snd w) (F : Fits CX k X C) {pos : Pos} : ∀ es, PE X (.BoolOp .And es pos) (andG w C es)
  | [] => l5
  | [a] => a2o (hw.E F a)
  | a :: b :: r => pe_andG (hw.E F a) (andG_ok hw F (b :: r))
theorem orG_ok (hw : Snd w) (F : Fits CX k X C) {pos : Pos} : ∀ es, PE X (.BoolOp .Or es pos) (orG w C es)
  | [] => l5
  | [a] => a2o (hw.E F a)
  | a :: b :: r => pe_orG (hw.E F a) (orG_ok hw F (b :: r))
theorem pw_x {e : Expr} : PW X e xT := λ _ _ _ _ _ _ _ h => h.elim
theorem andB_ok (hw : Snd w) (F : Fits CX k X C) {pos : Pos} : ∀ es, PW X (.BoolOp .And es pos) (andB w C es)
  | [] => pw_x
  | [a] => pw_and1 (hw.T F a)
  | a :: b :: r => pw_andB (hw.T F a) (andB_ok hw F (b :: r))
theorem orB_ok (hw : Snd w) (F : Fits CX k X C) {pos : Pos} : ∀ es, PW X (.BoolOp .Or es pos) (orB w C es)
  | [] => pw_x
  | [a] => pw_or1 (hw.T F a)
  | a :: b :: r => pw_orB (hw.T F a) (orB_ok hw F (b :: r))
theorem Z7 {op : CmpOp} {b : Expr} (h : a1P b = false) : behindInMarks op b = false := by
  cases b <;> first | rfl | cases h
theorem cmpE_ok (hw : Snd w) (F : Fits CX k X C) {a : Expr} {ops : List CmpOp} {bs : List Expr} {pos : Pos} : PE X (.Compare a ops bs pos) (cmpE w C a ops bs) := by
  unfold cmpE
  split
  . split
    . exact pe_cmpR (P0 F.room _) (hw.E F _) (hw.E F _) (Z7 (by assumption))
    . exact l5
  . split
    . exact pe_chainG (P0 F.room _) (P0 F.room _) (hw.E F _) (hw.E F _) (hw.E F _) (Z7 (by assumption))
    . exact l5
  . exact l5
theorem pt_bx {e : Expr} : PT X e (bT xE) := λ _ _ _ _ _ _ h => h.elim
theorem cmpT_ok (hw : Snd w) (F : Fits CX k X C) {a : Expr} {ops : List CmpOp} {bs : List Expr} {pos : Pos} : PT X (.Compare a ops bs pos) (bT (cmpE w C a ops bs)) := by
  unfold cmpE
  split
  . split
    . exact pt_cmpG (P0 F.room _) (hw.E F _) (hw.E F _) (Z7 (by assumption))
    . exact pt_bx
  . split
    . exact pt_chainG (P0 F.room _) (P0 F.room _) (hw.E F _) (hw.E F _) (hw.E F _) (Z7 (by assumption))
    . exact pt_bx
  . exact pt_bx
theorem po_G {e : Expr} {t : TE} (h : PE X e t) : PO X (some e) (l7 t) := λ pins s σ H Q I q => po_some (PE.mo h) pins s σ H Q I ⟨_, q, λ x H1 q1 => by
  cases x <;> first | exact ⟨_, rfl, q1⟩ | exact q1.elim⟩
theorem a2R (hw : Snd w) (F : Fits CX k X C) : ∀ o, PO X o (poG w C o)
  | none => po_none
  | some e => po_G (hw.E F e)
theorem sl_G : SlR X slG := λ pins s σ H x v vl vu lo hi sl Q I rx hs pl pu h => by
  unfold slG at h
  split at h
  . exact sl_str pins s σ H _ v vl vu lo hi sl Q I rx hs pl pu ⟨_, rfl, h.1, h.2⟩
  . unfold slH at h
    split at h
    . exact sl_list pins s σ H _ v vl vu lo hi sl Q I rx hs pl pu ⟨_, _, rfl, .inl (.inl (by assumption)), h.at⟩
    . exact h.elim
  . exact h.elim
theorem X9 (F : Fits CX k X C) {x : Str} (h : C.names.lookup x = some .globalImplicit) : Gl X x := by
  show X.env.scope.names.lookup x = _
  rw [F.names]
  exact h
theorem call_lenS (F : Fits CX k X C) : CallR X (.builtin "len") (lenS C.K) := CallR.imp T0 λ xs H Q ⟨p, ys, e, h, q⟩ => ⟨p, ys, e, .inl (by rw [F.K]; exact h), q⟩
theorem a3U (hw : Snd w) (F : Fits CX k X C) {x : Str} {es : List Expr} {p pos : Pos} : PE X (.Call (.Name x p) es [] pos) (callG w C x es) := by
  unfold callG
  split
  . rename_i ok e hs
    simp only [t7, Bool.and_eq_true, Bool.not_eq_true'] at ok
    have hg := X9 F e
    split
    . rename_i sp ef
      obtain ⟨f, fd, ps, G, hm, hk, hb⟩ := F.fns x sp ef
      cases es with
      | nil => exact pe_call0 G (F.room.mono (Nat.le_succ _)) hg hm hk hb .nil F.pass ok.1
      | cons a r =>
        have hs' := hs
        rw [List.any_cons, Bool.or_eq_false_iff] at hs'
        exact pe_call G (F.room.mono (Nat.le_succ _)) hg hm hk hb .nil F.pass (B1 hw F _) ok.1 (e8 hs'.1) (d9 hs'.2).1
    . split
      . rename_i cl sp ef
        obtain ⟨f, fd, ps, M, G, hm, hb⟩ := F.mks x cl sp ef
        cases es with
        | nil => exact pe_make0 M G F.room hg hm hb .nil F.pass ok.1
        | cons a r =>
          have hs' := hs
          rw [List.any_cons, Bool.or_eq_false_iff] at hs'
          exact pe_make M G F.room hg hm hb .nil F.pass (B1 hw F _) ok.1 (e8 hs'.1) (d9 hs'.2).1
      . split
        . rename_i a r hn
          have hm := F.nog x (by simpa using hn)
          have hs' := hs
          rw [List.any_cons, Bool.or_eq_false_iff] at hs'
          split
          . rename_i i rd eb
            obtain ⟨c1, c2, c3, c4⟩ := bltF_ok F.calm eb
            split
            . rename_i hc
              simp only [Bool.and_eq_true] at hc
              have ei : i = "len" := by simpa using hc.1.1
              subst ei
              exact N1 (call_lenS F) hg hm c2 (B1 hw F _) c3 c4 (e8 hs'.1) (d9 hs'.2).1
            . split
              . rename_i hc
                simp only [Bool.and_eq_true] at hc
                have ei : i = "isinstance" := by simpa using hc.1
                subst ei
                exact N1 (call_isiC F.ics) hg hm c2 (B1 hw F _) c3 c4 (e8 hs'.1) (d9 hs'.2).1
              . exact N1 c1 hg hm c2 (B1 hw F _) c3 c4 (e8 hs'.1) (d9 hs'.2).1
          . split
            . rename_i i rd eb
              obtain ⟨c1, c2, c3, c4⟩ := bltC_ok F.calm eb
              split
              . rename_i d ed
                obtain ⟨rfl, apos, cpos, he, h1, h2⟩ := a5a ed
                rw [he]
                exact a2K F.calm hg hm (hw.E F _) h1 h2
              . exact pe_callTy c1 hg hm c2 (B1 hw F _) c3 c4 (e8 hs'.1) (d9 hs'.2).1
            . exact l5
        . exact l5
  . exact l5
theorem methG_ok (hw : Snd w) (F : Fits CX k X C) {o : Expr} {m : Str} {es : List Expr} {apos cpos : Pos} : PE X (.Call (.Attribute o m apos) es [] cpos) (methG w C o m apos cpos es) := by
  unfold methG
  split
  . rename_i h1 h2 h3 h4
    have h3' : es.length < 29 := of_decide_eq_true h3
    split
    . rename_i cl sp em
      obtain ⟨f, fd, ps, cc, mm, G, hb⟩ := F.mts m cl sp em
      cases es with
      | nil => exact pe_methG0 (hw.E F o) cc mm G (F.room.mono (Nat.le_succ _)) hb F.pass h1 h4
      | cons a r => exact pe_methG (hw.E F o) cc mm G (F.room.mono (Nat.le_succ _)) hb F.pass (B1 hw F _) h1 h2 h3' h4
    . cases es with
      | nil => exact pe_bmG0 F.room (hw.E F o) h1 h4
      | cons a r => exact pe_bmG F.room (hw.E F o) (B1 hw F _) h1 h2 h3' h4
  . exact l5
theorem a3V (F : Fits CX k X C) {x : Str} {i : Nat} (h : y6 C x = some i) : X.N[i]? = some x /\ Loc X.env.scope x /\ (X.env.scope.names.lookup x = some .local \/ C.names.lookup x = some .cell) := by
  unfold y6 at h
  split at h
  . rename_i e
    have e' : X.env.scope.names.lookup x = some .local := by rw [F.names]; exact e
    exact ⟨by rw [F.N]; exact i7 h, .inl e', .inl e'⟩
  . rename_i e
    have e' : X.env.scope.names.lookup x = some .cell := by rw [F.names]; exact e
    exact ⟨by rw [F.N]; exact i7 h, .inr e', .inr e⟩
  . cases h
theorem V9 (F : Fits CX k X C) : X.N.Nodup := by rw [F.N]; exact F.nd
theorem gNm_ok (F : Fits CX k X C) {x : Str} {pos : Pos} (hx : C.names.lookup x = some .cell -> X.fn x = true) : PG X (.Name x pos) (gNm C x) := by
  unfold gNm
  split
  . rename_i i ei
    obtain ⟨h1, h2, h3⟩ := a3V F ei
    exact pg_name (V9 F) h1 h2 (h3.elim .inr λ z => .inl (hx z))
  . exact pg_x
theorem gNms_ok (F : Fits CX k X C) : ∀ ts : List Expr, (∀ x pos, Expr.Name x pos ∈ ts -> C.names.lookup x = some .cell -> X.fn x = true) -> PGs X ts (gNms C ts)
  | [], _ => pgs_nil
  | e :: r, h => by
    cases e with
    | Name x pos => exact pgs_cons (gNm_ok F (h x pos (by simp))) (gNms_ok F r λ y q hy => h y q (List.mem_cons_of_mem _ hy))
    | _ => exact λ _ _ _ _ _ _ _ _ _ z => z.elim
theorem a0F {C : Cfg} {env : Env} : ∀ {ts : List Expr}, (∀ v σ H Q, gNms C ts v σ H Q -> False) \/ ((assignEach ts env).length = ts.length /\ (assignEach ts env).findIdx? (·.1) = none)
  | [] => .inr ⟨rfl, rfl⟩
  | e :: r => by
    cases e with
    | Name x pos =>
      rcases a0F (C := C) (env := env) (ts := r) with h | ⟨h1, h2⟩
      . exact .inl λ v σ H Q ⟨a, b, e, q⟩ => by
          unfold gNm at q
          cases hsl : y6 C x with
          | none => rw [hsl] at q; exact q
          | some i => rw [hsl] at q; exact h _ _ _ _ q
      . refine .inr ⟨?_, ?_⟩
        . show ((false, _) :: assignEach r env).length = _
          simp [h1]
        . show List.findIdx? _ ((false, _) :: assignEach r env) = none
          simp [List.findIdx?_cons, h2]
    | _ => exact .inl λ v σ H Q z => z
theorem gTup_ok (F : Fits CX k X C) {ts : List Expr} {j : Nat} {pos : Pos} (h : ∀ x pos, Expr.Name x pos ∈ ts -> C.names.lookup x = some .cell -> X.fn x = true) : PG X (.Tuple ts j pos) (X4 ts.length (gNms C ts)) := by
  rcases a0F (C := C) (env := X.env) (ts := ts) with z | ⟨h1, h2⟩
  . exact λ pins s σ H v u Q I r ⟨a, xs, e, hr, hl, q⟩ => (z _ _ _ _ q).elim
  . exact pg_tup0 F.calm (gNms_ok F ts h) h1 h2
end
def N0 (env : Env) : List (Str × NameKind) -> List (Str × Addr) -> List (Str × Addr)
  | [], acc => acc
  | (x, .free) :: r, acc => N0 env r ((x, (env.cells.lookup x).getD 0) :: acc)
  | (_, _) :: r, acc => N0 env r acc
theorem clos_of {env : Env} : ∀ {names : List (Str × NameKind)} {acc : List (Str × Addr)}, (∀ x, (x, NameKind.free) ∈ names -> ∃ c, env.cells.lookup x = some c) →
    (forIn names acc (λ (p : Str × NameKind) (r : List (Str × Addr)) => if (p.2 == .free) = true then do let c ← cellOf env p.1; pure (ForInStep.yield ((p.1, c) :: r)) else pure (ForInStep.yield r)) : Sem (List (Str × Addr))) = pure (N0 env names acc)
  | [], acc, _ => by rw [List.forIn_nil]; rfl
  | (x, kd) :: r, acc, h => by
    rw [List.forIn_cons]
    have ih := λ acc => clos_of (env := env) (names := r) (acc := acc) λ y hy => h y (List.mem_cons_of_mem _ hy)
    cases kd with
    | free =>
      obtain ⟨c, hc⟩ := h x (by simp)
      have e1 : cellOf env x = pure c := by unfold cellOf; rw [hc]
      simp only [beq_self_eq_true, if_true, e1, pure_bind]
      rw [ih]
      show _ = pure (N0 env r ((x, (env.cells.lookup x).getD 0) :: acc))
      rw [hc]
      rfl
    | «local» => simpa [N0] using ih acc
    | cell => simpa [N0] using ih acc
    | globalExplicit => simpa [N0] using ih acc
    | globalImplicit => simpa [N0] using ih acc
theorem Y7 {scope : Scope} {env : Env} (h : ∀ x, (x, NameKind.free) ∈ scope.names -> ∃ c, env.cells.lookup x = some c) : closureFor scope env = pure (N0 env scope.names []) := by
  have := clos_of (env := env) (names := scope.names) (acc := []) h
  unfold closureFor
  simpa using this
theorem a0G {env : Env} : ∀ {names : List (Str × NameKind)} {acc : List (Str × Addr)} {p : Str × Addr}, p ∈ N0 env names acc -> p ∈ acc \/ ((p.1, NameKind.free) ∈ names /\ p.2 = (env.cells.lookup p.1).getD 0)
  | [], acc, p, h => .inl h
  | (x, kd) :: r, acc, p, h => by
    cases kd with
    | free =>
      rcases a0G (names := r) h with h | ⟨h1, h2⟩
      . rcases List.mem_cons.mp h with rfl | h
        . exact .inr ⟨by simp, rfl⟩
        . exact .inl h
      . exact .inr ⟨List.mem_cons_of_mem _ h1, h2⟩
    | _ =>
      rcases a0G (names := r) h with h | ⟨h1, h2⟩
      . exact .inl h
      . exact .inr ⟨List.mem_cons_of_mem _ h1, h2⟩
theorem a0H {env : Env} : ∀ {names : List (Str × NameKind)} {acc : List (Str × Addr)} {p : Str × Addr}, p ∈ acc -> p ∈ N0 env names acc
  | [], acc, p, h => h
  | (x, kd) :: r, acc, p, h => by
    cases kd with
    | free => exact a0H (names := r) (List.mem_cons_of_mem _ h)
    | _ => exact a0H (names := r) h
theorem a3W {env : Env} : ∀ {names : List (Str × NameKind)} {acc : List (Str × Addr)} {x : Str}, (x, NameKind.free) ∈ names -> ∃ c, (x, c) ∈ N0 env names acc
  | (y, kd) :: r, acc, x, h => by
    rcases List.mem_cons.mp h with e | h2
    . cases e
      exact ⟨_, a0H (names := r) (List.mem_cons_self)⟩
    . cases kd <;> exact a3W (names := r) h2
theorem A8 {α β : Type} [BEq α] [LawfulBEq α] : ∀ {l : List (α × β)} {a : α} {b : β}, l.lookup a = some b -> (a, b) ∈ l
  | (x, y) :: r, a, b, h => by
    rw [List.lookup_cons] at h
    split at h
    . rename_i e
      cases h
      have := eq_of_beq e
      subst this
      simp
    . exact List.mem_cons_of_mem _ (A8 h)
theorem Q2 {α β : Type} [BEq α] [LawfulBEq α] : ∀ {l : List (α × β)} {a : α} {b : β}, (a, b) ∈ l -> ∃ c, l.lookup a = some c
  | (x, y) :: r, a, b, h => by
    rw [List.lookup_cons]
    split
    . exact ⟨_, rfl⟩
    . rename_i ne
      rcases List.mem_cons.mp h with e | h
      . cases e
        simp at ne
      . exact Q2 h
section
variable {CX : CXT} {k : Nat} {X : Cx} {C : Cfg} {w : W} {scope : Scope} {tn : List Str} {fr : List (Str × Nat)}
theorem a2S (F : Fits CX k X C) : (relabel scope X.env).names = relN C scope.names := by
  unfold relabel relN
  simp only
  apply List.map_congr_left
  rintro ⟨n, kd⟩ _
  have e1 : (X.env.scope.kind == ScopeKind.function) = true := by rw [F.kind]; rfl
  have e2 : X.env.kindOf n = C.names.lookup n := by show X.env.scope.names.lookup n = _; rw [F.names]
  simp only [e1, e2, Bool.and_true]
theorem Y0 {names : List (Str × NameKind)} {x : Str} : ∀ {kd : NameKind}, names.lookup x = some kd -> (relN C names).lookup x = some (if (kd == NameKind.free && C.names.lookup x == some .cell) = true then .cell else kd) := by
  induction names with
  | nil => intro kd h; cases h
  | cons p r ih =>
    intro kd h
    obtain ⟨n, q⟩ := p
    rw [List.lookup_cons] at h
    unfold relN
    rw [List.map_cons, List.lookup_cons]
    split at h
    . rename_i e
      cases h
      have e' := eq_of_beq e
      subst e'
      by_cases hc : (kd == NameKind.free && C.names.lookup x == some .cell) = true
      . simp only [hc, if_true, beq_self_eq_true]
      . simp only [hc, if_false, beq_self_eq_true, Bool.false_eq_true]
    . rename_i ne
      have e1 : (x == (if (q == NameKind.free && C.names.lookup n == some .cell) = true then (n, NameKind.cell) else (n, q)).1) = false := by
        split <;> simpa using ne
      simp only [e1]
      exact ih h
theorem W0 : ∀ {names : List (Str × NameKind)} {fr : List (Str × Nat)}, V8 C names = some fr -> (∀ y ∈ names, y.2 ≠ .cell) /\ (∀ x, (x, NameKind.free) ∈ names -> C.names.lookup x = some .cell) ∧
    ∀ q ∈ fr, j8 C.N q.1 = some q.2 /\ C.names.lookup q.1 = some .cell /\ (q.1, NameKind.free) ∈ names
  | [], fr, h => by
    cases h
    exact ⟨λ y hy => by simp at hy, λ x hx => by simp at hx, λ q hq => by simp at hq⟩
  | (x, kd) :: r, fr, h => by
    cases kd with
    | free =>
      unfold V8 at h
      split at h
      . rename_i j l e1 e2 e3
        cases h
        obtain ⟨i1, i2, i3⟩ := W0 e3
        refine ⟨λ y hy => ?_, λ z hz => ?_, λ q hq => ?_⟩
        . rcases List.mem_cons.mp hy with rfl | hy
          . simp
          . exact i1 y hy
        . rcases List.mem_cons.mp hz with e | hz
          . cases e; exact e2
          . exact i2 z hz
        . rcases List.mem_cons.mp hq with rfl | hq
          . exact ⟨e1, e2, by simp⟩
          . obtain ⟨a, b, c⟩ := i3 q hq
            exact ⟨a, b, List.mem_cons_of_mem _ c⟩
      . cases h
    | cell => cases h
    | _ =>
      obtain ⟨i1, i2, i3⟩ := W0 (names := r) (fr := fr) h
      refine ⟨λ y hy => ?_, λ z hz => ?_, λ q hq => ?_⟩
      . rcases List.mem_cons.mp hy with rfl | hy
        . simp
        . exact i1 y hy
      . rcases List.mem_cons.mp hz with e | hz
        . cases e
        . exact i2 z hz
      . obtain ⟨a, b, c⟩ := i3 q hq
        exact ⟨a, b, List.mem_cons_of_mem _ c⟩
theorem a1T (F : Fits CX k X C) (ok : X.Ok) (hf : V8 C scope.names = some fr) (hk : scope.kind = .function) (hb : E2 tn fr scope.names = true) : CompOk X scope tn fr (N0 X.env scope.names []) := by
  obtain ⟨f1, f2, f3⟩ := W0 hf
  simp only [E2, Bool.and_eq_true] at hb
  obtain ⟨⟨b1, b2⟩, b3⟩ := hb
  have b2' : ∀ y ∈ scope.names, scope.names.lookup y.1 = some y.2 := λ y hy => by simpa using List.all_eq_true.mp b2 y hy
  have kx : ∀ x, X.env.kindOf x = C.names.lookup x := λ x => by show X.env.scope.names.lookup x = _; rw [F.names]
  have hc : ∀ x, (x, NameKind.free) ∈ scope.names -> ∃ c, X.env.cells.lookup x = some c := λ x hx => ok.has x (.inl (by rw [kx]; exact f2 x hx))
  have sub : ∀ x c, (N0 X.env scope.names []).lookup x = some c -> X.env.cells.lookup x = some c := λ x c h => by
    rcases a0G (A8 h) with z | ⟨h1, h2⟩
    . simp at z
    . obtain ⟨c', hc'⟩ := hc x h1
      simp only at h2
      rw [hc'] at h2
      simp only [Option.getD_some] at h2
      rw [h2]
      exact hc'
  have has : ∀ x, (x, NameKind.free) ∈ scope.names -> ∃ c, (N0 X.env scope.names []).lookup x = some c := λ x hx => by
    obtain ⟨c, h⟩ := a3W (env := X.env) (acc := []) hx
    exact Q2 h
  refine ⟨Y7 hc, hk, f1, λ y hy hl => by rw [b2' y hy, hl], ?_, λ x hx => ?_, sub⟩
  . -- the free names
    have : ∀ l : List (Str × Nat), (∀ q ∈ l, q ∈ fr) -> FreeOk X scope (N0 X.env scope.names []) l := by
      intro l
      induction l with
      | nil => exact λ _ => .nil
      | cons q r ih =>
        intro h
        obtain ⟨x, j⟩ := q
        obtain ⟨a, b, c⟩ := f3 (x, j) (h _ (by simp))
        refine .cons (by rw [F.N]; exact i7 a) (by rw [kx]; exact b) ?_ ?_ (ih λ q hq => h q (List.mem_cons_of_mem _ hq))
        . rw [a2S F, Y0 (b2' _ c)]
          simp [b]
        . obtain ⟨cc, e⟩ := has x c
          rw [e, sub x cc e]
    exact this fr λ q hq => hq
  . rw [a2S F] at hx
    have hin : (x, NameKind.free) ∈ scope.names := by
      have : ∃ kd, (relN C scope.names).lookup x = some kd /\ (kd = .cell \/ kd = .free) := by
        rcases hx with h | h
        . exact ⟨_, h, .inl rfl⟩
        . exact ⟨_, h, .inr rfl⟩
      obtain ⟨kd, h1, h2⟩ := this
      have hm := A8 h1
      unfold relN at hm
      obtain ⟨⟨n, q⟩, hm1, hm2⟩ := List.mem_map.mp hm
      simp only at hm2
      split at hm2
      . rename_i hcond
        cases hm2
        have : q = .free := by
          simp only [Bool.and_eq_true] at hcond
          exact eq_of_beq hcond.1
        subst this
        exact hm1
      . cases hm2
        rcases h2 with rfl | rfl
        . exact absurd rfl (f1 _ hm1)
        . exact hm1
    exact has x hin
theorem P2 (F : Fits CX k X C) (hk : scope.kind = .function) (hb : E2 tn fr scope.names = true) (cl : List (Str × Addr)) (d : CDyn) : Fits CX k (i6 X tn fr scope cl d) (M1 C tn fr scope.names) where
  K := F.K
  N := rfl
  nd := by
    simp only [E2, Bool.and_eq_true] at hb
    exact of_decide_eq_true hb.1.1
  names := a2S F
  kind := hk
  calm := F.calm
  room := F.room
  pass := λ pins σ H s e s' I h => (F.no _ _ _ _ _ h).elim
  no := F.no
  fns := F.fns
  mks := F.mks
  mts := F.mts
  fld := F.fld
  glo := F.glo
  nog := F.nog
  fvs := F.fvs
  ics := F.ics
  exs := F.exs
  kit := F.kit
  hit := F.hit
  cxe := λ z => (by cases z)
  rse := λ _ _ _ _ _ _ _ _ _ _ h => False.elim h
  rsf := λ z => (by cases z)
theorem W1 : ∀ {tn l : List Str} {x : Str} {i : Nat}, x ∈ tn -> j8 (tn ++ l) x = some i -> i < tn.length
  | y :: r, l, x, i, hx, h => by
    rw [List.cons_append] at h
    unfold j8 at h
    split at h
    . cases h
      simp
    . rename_i ne
      rcases List.mem_cons.mp hx with e | hx
      . exact absurd e.symm ne
      . cases e : j8 (r ++ l) x with
        | none => rw [e] at h; cases h
        | some j =>
          rw [e] at h
          cases h
          have := W1 hx e
          simp
          omega
theorem a3X {x : Str} {i : Nat} (hx : x ∈ tn) (h : y6 (M1 C tn fr scope.names) x = some i) : i < tn.length := by
  unfold y6 at h
  split at h
  . exact W1 hx h
  . exact W1 hx h
  . cases h
theorem kg_Nm {x : Str} (hx : x ∈ tn) : Q9 tn.length (gNm (M1 C tn fr scope.names) x) := by
  unfold gNm
  split
  . rename_i e
    exact kg_name (a3X hx e)
  . exact λ v σ H Q h => h.elim
theorem kg_Nms : ∀ {ts : List Expr}, (∀ x pos, Expr.Name x pos ∈ ts -> x ∈ tn) -> a2C tn.length (gNms (M1 C tn fr scope.names) ts)
  | [], _ => kg_nil
  | e :: r, h => by
    cases e with
    | Name x pos =>
      intro vs σ H Q ⟨v, q, e, g⟩
      refine ⟨v, q, e, ?_⟩
      have hx := h x pos (by simp)
      have ih := kg_Nms (ts := r) λ y p hy => h y p (List.mem_cons_of_mem _ hy)
      unfold gNm at g ⊢
      cases e2 : y6 (M1 C tn fr scope.names) x with
      | none => rw [e2] at g; exact g.elim
      | some i =>
        rw [e2] at g
        have := ih _ _ _ _ g
        have e3 : (σ.set i (some v)).drop tn.length = σ.drop tn.length := List.drop_set_of_lt (a3X hx e2)
        rw [e3] at this
        exact this
    | _ => exact λ vs σ H Q z => z.elim
theorem a3Y {α β : Type} {f : α -> Option β} : ∀ {xs : List α} {ys : List β} {x : α} {y : β}, xs.mapM f = some ys -> x ∈ xs -> f x = some y -> y ∈ ys
  | a :: r, ys, x, y, h, hx, hf => by
    rw [mapM_cons] at h
    cases e : f a with
    | none => rw [e] at h; cases h
    | some z =>
      cases e2 : r.mapM f with
      | none => rw [e, e2] at h; cases h
      | some q =>
        rw [e, e2] at h
        cases h
        rcases List.mem_cons.mp hx with rfl | hx
        . rw [e] at hf; cases hf; simp
        . exact List.mem_cons_of_mem _ (a3Y e2 hx hf)
end
section
variable {CX : CXT} {k : Nat} {X : Cx} {C : Cfg} {w : W}
theorem W2 {it : Expr} {env : Env} (h : a1P it = false) : ∀ x, foldedSetIterable it env x = pure x := λ x => by
  cases it <;> first | rfl | cases h
theorem wIN_ok (hw : Snd w) (F : Fits CX k X C) {tg : Expr} {x : Str} {p pos : Pos} {e : Expr} {es : List Expr} : PI2 X tg (.Call (.Name x p) (e :: es) [] pos) (wIN w C tg x e es) := by
  unfold wIN
  split
  . rename_i h1 h2 h3 h4
    have ex : x = "range" := of_decide_eq_true h1
    subst ex
    exact pi_rng (X9 F h2) (F.nog _ (by simpa using h3)) (B1 hw F _) h4
  . exact pi2_x
  . split
    . rename_i h1 h2 h3 h4
      simp only [Bool.and_eq_true] at h1
      have ex : x = "zip" := of_decide_eq_true h1.1
      subst ex
      have ht := h1.2
      cases tg <;> first | (cases ht; done) | skip
      exact pi_zip (X9 F h2) (F.nog _ (by simpa using h3)) (B1 hw F _) h4
    . exact pi2_x
    . exact a0C it_G (a3U hw F)
theorem wIM_ok (hw : Snd w) (F : Fits CX k X C) {tg d : Expr} {m : Str} {apos cpos : Pos} : PI2 X tg (.Call (.Attribute d m apos) [] [] cpos) (wIM w C tg d m apos cpos) := by
  unfold wIM
  split
  . rename_i h
    simp only [Bool.and_eq_true] at h
    obtain ⟨⟨⟨h1, h2⟩, h3⟩, h4⟩ := h
    have ex := of_decide_eq_true h2
    subst ex
    cases tg <;> first | (cases h1; done) | skip
    exact pi_items (hw.E F _) h3 h4
  . exact a0C it_G (hw.E F _)
theorem wI_ok (hw : Snd w) (F : Fits CX k X C) {tg : Expr} : ∀ it, PI2 X tg it (wI w C tg it) := λ it => by
  cases it with
  | Call f es kw pos =>
    cases kw with
    | cons a b => cases f <;> first | exact a0C it_G (hw.E F _) | (cases es <;> exact a0C it_G (hw.E F _))
    | nil =>
      cases es with
      | nil => cases f <;> first | exact wIM_ok hw F | exact a0C it_G (hw.E F _)
      | cons e es => cases f <;> first | exact wIN_ok hw F | exact a0C it_G (hw.E F _)
  | Set _ _ _ => exact pi2_x
  | _ => exact a0C it_G (hw.E F _)
theorem ep_thaw {pins : List (Addr × Obj)} {σ : St} {Q : VK} {v : Value} {s : Shared} (h : EP X pins σ (anyQ X Q) v s) : EP X pins σ Q v s := by
  obtain ⟨x, H, I, r, q | ⟨a, o, u, nf, e, q⟩⟩ := h
  . exact ⟨x, H, I, r, q⟩
  . exact ⟨x, _, N6 I e nf, r, q⟩
theorem ifsG_ok (hw : Snd w) (F : Fits CX k X C) : ∀ ifs, PIfs X ifs (ifsG w C ifs)
  | [] => pif_nil
  | [c] => pif_one (hw.T F c)
  | _ :: _ :: _ => λ _ _ _ _ _ _ h => h.elim
theorem block_tg {scope : Scope} {tn : List Str} {fr : List (Str × Nat)} (hb : E2 tn fr scope.names = true) {x : Str} (hx : x ∈ tn) : (relN C scope.names).lookup x = some .local := by
  simp only [E2, Bool.and_eq_true] at hb
  have := List.all_eq_true.mp hb.2 x hx
  rw [Y0 (kd := .local) (by simpa using this)]
  rfl
theorem tg_in {tg : Expr} {tn : List Str} (h : a2N tg = some tn) : (∀ x pos, tg = .Name x pos -> x ∈ tn) /\ ∀ ts j pos, tg = .Tuple ts j pos -> ∀ x p, Expr.Name x p ∈ ts -> x ∈ tn := by
  refine ⟨λ x pos e => ?_, λ ts j pos e x p hx => ?_⟩
  . subst e
    cases h
    simp
  . subst e
    exact a3Y h hx rfl
theorem tg_ok {scope : Scope} {tn : List Str} {fr : List (Str × Nat)} {tg : Expr} (F : Fits CX k X C) (hk : scope.kind = .function) (hb : E2 tn fr scope.names = true) (ht : a2N tg = some tn) (cl : List (Str × Addr)) :
    (∀ d, PG (i6 X tn fr scope cl d) tg (wG (M1 C tn fr scope.names) tg)) /\ Q9 tn.length (wG (M1 C tn fr scope.names) tg) := by
  obtain ⟨t1, t2⟩ := tg_in ht
  have nc : ∀ x, x ∈ tn -> (M1 C tn fr scope.names).names.lookup x = some .cell -> False := λ x hx h => by
    rw [show (M1 C tn fr scope.names).names.lookup x = some .local from block_tg hb hx] at h
    cases h
  cases tg with
  | Name x pos => exact ⟨λ d => gNm_ok (P2 F hk hb cl d) λ h => (nc x (t1 x pos rfl) h).elim, kg_Nm (t1 x pos rfl)⟩
  | Tuple ts j pos => exact ⟨λ d => gTup_ok (P2 F hk hb cl d) λ x p hx h => (nc x (t2 ts j pos rfl x p hx) h).elim, kg_tup (kg_Nms (t2 ts j pos rfl))⟩
  | _ => cases ht
theorem compG_ok (hw : Snd w) (F : Fits CX k X C) {elt : Expr} {gens : List Comprehension} {scope : Scope} {pos : Pos} : PE X (.ListComp elt gens scope pos) (compG w C elt gens scope) := by
  unfold compG
  split
  . rename_i tg it ifs
    split
    . rename_i tn fr e1 e2 e3 e4
      split
      . rename_i hb
        intro pins s σ H Q I h
        obtain ⟨g1, g2⟩ := tg_ok F e3 hb e1 (N0 X.env scope.names [])
        exact thn (pe_comp F.calm (a1T F I.ok e2 e3 hb) g2 (pi_old (wI_ok hw F it)) g1 (λ d => ifsG_ok hw (P2 F e3 hb _ d) ifs) (λ d => hw.E (P2 F e3 hb _ d) elt) (W2 e4) pins s σ H (anyQ X Q) I (a1H h)) λ _ _ z => ep_thaw z
      . exact l5
    . exact l5
  . exact l5
theorem ps_setC {x : Str} {pos' pos cpos : Pos} {elt tg it : Expr} {ifs : List Expr} {scope : Scope} {tn : List Str} {fr : List (Str × Nat)} {wi : TI} {g : TG} {tt : TT} {te : TE} {cl : List (Str × Addr)} {i : Nat}
    (hc : X.calm = true) (ok : CompOk X scope tn fr cl) (kg : Q9 tn.length g) (hi : PI X tg it wi)
    (hg : ∀ d, PG (i6 X tn fr scope cl d) tg g) (ht : ∀ d, PIfs (i6 X tn fr scope cl d) ifs tt) (he : ∀ d, PE (i6 X tn fr scope cl d) elt te) (hs : ∀ x, foldedSetIterable it X.env x = pure x)
    (hN : X.N.Nodup) (hx : X.N[i]? = some x) (hl : Loc X.env.scope x) (hf : X.fn x = true) (sw : swapsWith (.ListComp elt [⟨tg, it, ifs, 0⟩] scope cpos) (some (.Name x pos')) pos.line X.env = pure true)
    {pins : List (Addr × Obj)} {s : Shared} {σ : St} {H : Hp} {D : Ends} (I : Inv X pins σ H s) (h : tComp wi tn fr g tt te σ H λ v H1 => D.nx (σ.set i (some v)) H1) :
    wpAny (model X.prog X.w) X.A (exec (.Assign [.Name x pos'] (.ListComp elt [⟨tg, it, ifs, 0⟩] scope cpos) pos) X.env) (SP X pins D) X.xe s := by
  rw [exec_Assign_Name_used x pos' _ pos sw]
  refine wpAny_bind (wpAny_standAt ?_)
  show wpAny _ _ (evalThenUse (.ListComp elt [⟨tg, it, ifs, 0⟩] scope cpos) X.env (assign (.Name x pos') X.env) >>= λ _ => pure Flow.next) _ _ _
  refine wpAny_bind ?_
  show wpAny _ _ (comprehension (.ListComp elt [⟨tg, it, ifs, 0⟩] scope cpos) scope X.env _ (newList []) false (eval it X.env) (some (assign (.Name x pos') X.env)) >>= λ _ => pure ()) _ _ _
  refine wpAny_bind ?_
  refine wpAny_comprehension_free (use := some (assign (.Name x pos') X.env)) rfl hs ok.clos ok.kind ok.names (a1G (RR := λ acc Cc => compPost (model X.prog X.w) X.A X.xe (some (assign (.Name x pos') X.env)) _ acc Cc) hc ok kg hi hg ht he I h ?_)
  intro p Cc G s' I' f m q
  obtain ⟨m, hm⟩ := m
  show wpAny _ _ (assign (.Name x pos') X.env (.ref p)) _ _ _
  show wpAny _ _ (do standAt pos'; bindName X.env x (.ref p)) _ _ _
  refine wpAny_bind (wpAny_standAt ?_)
  refine bindName_ ?_
  refine a1n I' hN hx hl (v := .ref p) rfl (λ s'' I'' ⟨a, sb, ha⟩ => ?_) (.inl hf)
  have hne : Cc ≠ a := by
    rcases ha with rfl | ha
    . exact f.2.1
    . exact λ e => f.2.2.2.2.1 _ _ ha e.symm
  refine ⟨m, hm.sameBut sb hne, λ h' hs' => ?_⟩
  refine wpAny_pure (wpAny_pure ?_)
  refine ⟨_, G, ?_, q⟩
  exact I''.turned (it := Cc) (h' := h') (t' := s''.toks) (λ b o hb e => hs'.extBut b o hb e) f.1 f.2.1 f.2.2.2.1 f.2.2.2.2.1 f.2.2.2.2.2
end
section
variable {CX : CXT} {k : Nat} {X : Cx} {C : Cfg} {w : W}
theorem B6 {e : Expr} {t : Option Expr} {n : Nat} {env : Env} (h : R4 e = false) : swapsWith e t n env = pure false := by
  cases e <;> first | rfl | cases h
theorem sole_not {e t : Expr} {n : Nat} {env : Env} (h : R4 e = false) : swapsWithSole [t] e n env = pure false := by
  show swapsWith e (some t) n env = pure false
  exact B6 h
theorem a3Z {b : Expr} (h : a2L b = false) : PlainIx b := λ o i => by
  cases b <;> first | rfl | cases h
theorem sl_scr : SlR X (rSlS X.K) := λ pins s σ H x v vl vu lo hi sl Q I rx hs pl pu ⟨a, xs, e, h, q⟩ => sl_list pins s σ H x v vl vu lo hi sl Q I rx hs pl pu ⟨a, xs, e, h, q.at⟩
theorem W3 (hw : Snd w) (F : Fits CX k X C) {pos : Pos} : ∀ {ks : List (Option Expr)} {vs : List Expr} {l : List (TE × TE)}, a2O w C ks vs = some l -> PPs X pos ks vs l /\ ks.all (·.isSome) = true /\ ks.length = vs.length /\ ks.length = l.length
  | [], [], l, h => by cases h; exact ⟨pps_nil, rfl, rfl, rfl⟩
  | [], _ :: _, l, h => by cases h
  | none :: _, [], l, h => by cases h
  | none :: _, _ :: _, l, h => by cases h
  | some _ :: _, [], l, h => by cases h
  | some e :: ks, v :: vs, l, h => by
    unfold a2O at h
    split at h
    . rename_i r er
      cases h
      obtain ⟨i1, i2, i3, i4⟩ := W3 hw F (pos := pos) er
      exact ⟨pps_cons (hw.E F e) (hw.E F v) i1, by simpa using i2, by simp [i3], by simp [i4]⟩
    . cases h
theorem pe_dnew {pos : Pos} : PE X (.Dict [] [] pos) a1R := λ pins s σ H Q I h => h.elim (λ h => pe_dnewK pins s σ H Q I h.at) (λ h => pe_dnewT pins s σ H Q I h.at)
theorem dispG_ok (hw : Snd w) (F : Fits CX k X C) {ks : List (Option Expr)} {vs : List Expr} {pos : Pos} : PE X (.Dict ks vs pos) (dispG w C ks vs) := by
  unfold dispG
  split
  . rename_i h
    obtain ⟨i1, i2, i3, i4⟩ := W3 hw F (pos := pos) h
    have : ks = [] := List.length_eq_zero_iff.mp (by rw [i4]; rfl)
    subst this
    have : vs = [] := List.length_eq_zero_iff.mp (by rw [<- i3]; rfl)
    subst this
    exact pe_dnew
  . rename_i l hl h1 h2
    obtain ⟨i1, i2, i3, i4⟩ := W3 hw F (pos := pos) h1
    refine pe_disp i1 i2 i3 (λ e => ?_) (of_decide_eq_true h2)
    subst e
    have : l = [] := List.length_eq_zero_iff.mp (by rw [<- i4]; rfl)
    subst this
    exact hl rfl
  . exact l5
theorem pe_fmtG {e : Expr} {t : TE} {pos : Pos} (h : PE X e t) : PE X (.FormattedValue e (-1) none pos) (fmtG t) := λ pins s σ H Q I q =>
  FormattedValue_plain (thn (h pins s σ H _ I q) λ v s1 ⟨x, H1, I1, r1, q1⟩ => by
    cases x <;> first | exact q1.elim | skip
    obtain ⟨t, rfl⟩ := r1
    exact formatField_str (λ t' tk => ⟨.str _, H1, I1.tok tk, ⟨t', rfl⟩, q1.2⟩) q1.1)
theorem jpG_ok (hw : Snd w) (F : Fits CX k X C) : ∀ (es : List Expr) (out : Str) (pins : List (Addr × Obj)) (s : Shared) (σ : St) (H : Hp) (Q : VK), out.length <= sizeLine -> Inv X pins σ H s -> jpG (eachG w C es) out σ H Q →
    wpAny (model X.prog X.w) X.A (joinParts out (evalEach es X.env)) (EP X pins σ Q) X.xe s
  | [], out, pins, s, σ, H, Q, ho, I, q => joinParts_nil ⟨.str out, H, I.tok _, ⟨_, rfl⟩, q⟩ ho
  | e :: es, out, pins, s, σ, H, Q, ho, I, q => joinParts_cons (x := eval e X.env) (rest := evalEach es X.env) (thn (hw.E F e pins s σ H _ I q) λ v s1 ⟨x, H1, I1, r1, q1⟩ => by
    cases x <;> first | exact q1.elim | skip
    obtain ⟨t, rfl⟩ := r1
    exact ⟨q1.1, jpG_ok hw F es _ pins s1 σ H1 Q q1.1 I1 q1.2⟩)
theorem fstrG_ok (hw : Snd w) (F : Fits CX k X C) {pos : Pos} : ∀ vs, PE X (.JoinedStr vs pos) (fstrG w C vs)
  | [] => l5
  | [v] => λ pins s σ H Q I q => JoinedStr_one (hw.E F v pins s σ H Q I q)
  | v :: u :: r => λ pins s σ H Q I q => JoinedStr_many (jpG_ok hw F (v :: u :: r) Str.empty pins s σ H Q (by decide) I q)
theorem ps_tryG {body : List Stmt} {h₀ : ExceptHandler} {hs : List ExceptHandler} {pos : Pos} {t : TS} (hb : PSs X.nox body t) : PS X (.Try body (h₀ :: hs) [] [] pos) t := λ pins s σ H D I h =>
  wpAny_Try_except (wpAny_mono (hb pins s σ H D (I.wish _) h) (λ f s1 q => by
    have q := q.unwish
    cases f with
    | next => exact wpAny_execs_nil q
    | _ => exact q) λ _ _ z => False.elim z)
theorem a0I (F : Fits CX k X C) : Fits CX k X.nox { C with E := E0 } where
  K := F.K
  N := F.N
  nd := F.nd
  names := F.names
  kind := F.kind
  calm := F.calm
  room := F.room
  pass := λ pins σ H s e s' I h => (F.no _ _ _ _ _ h).elim
  no := F.no
  fns := F.fns
  mks := F.mks
  mts := F.mts
  fld := F.fld
  glo := F.glo
  nog := F.nog
  fvs := F.fvs
  ics := F.ics
  exs := F.exs
  kit := F.kit
  hit := F.hit
  cxe := F.cxe
  rse := λ _ _ _ _ _ _ _ _ _ _ h => False.elim h
  rsf := λ z => ⟨(F.rsf z).1, λ _ _ _ _ _ _ _ h => False.elim h⟩
theorem slX_ok (hw : Snd w) (F : Fits CX k X C) {a : Expr} {lo hi : Option Expr} {p2 pos : Pos} : PE X (.Subscript a (.Slice lo hi none p2) pos) (slX w C a lo hi) := by
  unfold slX
  split
  . rw [<- F.K]
    exact a3t sl_scr (hw.E F _) (a2R hw F _) (a2R hw F _)
  . exact a3t sl_G (hw.E F _) (a2R hw F _) (a2R hw F _)
theorem subX_ok (hw : Snd w) (F : Fits CX k X C) {a b : Expr} {pos : Pos} : PE X (.Subscript a b pos) (subX w C a b) := by
  unfold subX
  split
  . rename_i h1 h2
    rw [<- F.K]
    exact pe_ix ix_list (hw.E F _) (hw.E F _) (a3Z h1)
  . rename_i h1 h2
    exact pe_ix (ix_getG (hu_of F.room)) (hw.E F _) (hw.E F _) (a3Z h1)
  . exact l5
theorem attX_ok (hw : Snd w) (F : Fits CX k X C) {o : Expr} {f : Str} {pos : Pos} : PE X (.Attribute o f pos) (attX w C o f) := by
  unfold attX
  split
  . rename_i cl e1 e2
    obtain ⟨c, n⟩ := F.fld _ cl e1
    exact pe_fldG c n (hw.E F _) (B2 e2)
  . exact l5
theorem fmtX_ok (hw : Snd w) (F : Fits CX k X C) {v : Expr} {c : Int} {f : Option Expr} {p : Pos} : PE X (.FormattedValue v c f p) (fmtX w C v c f) := by
  unfold fmtX
  split
  . rename_i h
    have h := of_decide_eq_true h
    subst h
    exact pe_fmtG (hw.E F _)
  . exact l5
theorem a0J (hw : Snd w) (F : Fits CX k X C) : ∀ e, PE X e (stepE w C e) := λ e => by
  cases e with
  | Constant c j p => exact a1S _
  | Name x p => exact pe_nameG F _ _
  | BinOp a op b p => exact pe_op (op_binG _) (hw.E F _) (hw.E F _)
  | UnaryOp op a p => cases op <;> first | exact pe_notG (hw.E F _) | (show PE X _ (tUn negG (w.E C a)); exact pe_un un_negG (hw.E F _)) | exact l5
  | BoolOp op es p => cases op <;> first | exact andG_ok hw F _ | exact orG_ok hw F _
  | Compare a ops bs p => exact cmpE_ok hw F
  | IfExp c a b p => exact pe_ifG (hw.T F _) (hw.E F _) (hw.E F _)
  | List es p => exact PE.imp (pe_lst (PA.mo (B1 hw F _))) λ σ H Q h => ⟨_, h, λ xs H1 q => ⟨q.1, q.2.at⟩⟩
  | Tuple es j p => exact PE.imp (pe_tup (PA.mo (B1 hw F _))) λ σ H Q h => ⟨_, h, λ xs H1 q => ⟨q.1, q.2.at⟩⟩
  | Dict ks vs p => exact dispG_ok hw F
  | Subscript a b p =>
    cases b with
    | Slice lo hi st p2 =>
      cases st with
      | none => exact slX_ok hw F
      | some st => exact subX_ok hw F
    | _ => exact subX_ok hw F
  | Attribute o f p => exact attX_ok hw F
  | Call f es kw p =>
    cases kw with
    | nil => cases f <;> first | exact a3U hw F | exact methG_ok hw F | exact l5
    | cons a b => cases f <;> exact l5
  | ListComp elt gens scope p => exact compG_ok hw F
  | JoinedStr vs p => exact fstrG_ok hw F _
  | FormattedValue v c f p => exact fmtX_ok hw F
  | _ => exact l5
theorem stepT_ok (hw : Snd w) (F : Fits CX k X C) : ∀ e, PT X e (stepT w C e) := λ e => by
  cases e with
  | UnaryOp op a pos => cases op <;> first | exact pt_not (hw.T F a) | exact pt_x
  | BoolOp op es pos => cases op <;> first | exact (andB_ok hw F es).pt | exact (orB_ok hw F es).pt
  | IfExp a b c pos => exact pt_x
  | Compare a ops bs pos => exact cmpT_ok hw F
  | _ => exact pt_G (a0J hw F _) λ _ => rfl
theorem stepA_ok (hw : Snd w) (F : Fits CX k X C) (hf : ∀ x, X.fn x = true) (x : Str) (i : Nat) (pos' pos : Pos) (e : Expr) (ei : y6 C x = some i) : PS X (.Assign [.Name x pos'] e pos) (e9 (stepE w C e) (b9 i)) := by
  obtain ⟨h1, h2, h3⟩ := a3V F ei
  have plain : ∀ {e : Expr}, swapsWith e (some (.Name x pos')) pos.line X.env = pure false -> PS X (.Assign [.Name x pos'] e pos) (e9 (stepE w C e) (b9 i)) := λ {e} h => ps_set (V9 F) h1 h2 (a0J hw F e) h (.inl (hf x))
  cases e with
  | ListComp elt gens scope cpos =>
    cases hb : (X.env.blockKind == .function && X.env.kindOf x == some .local && pos'.line == (Expr.ListComp elt gens scope cpos).pos.line && !(scope.names.any λ (n, k) => n == x && (k == .local || k == .cell))) with
    | false => exact plain (by show pure _ = _; rw [hb])
    | true =>
      show PS X _ (e9 (compG w C elt gens scope) (b9 i))
      unfold compG
      split
      . rename_i tg it ifs
        split
        . rename_i tn fr e1 e2 e3 e4
          split
          . rename_i hb2
            intro pins s σ H D I h
            obtain ⟨g1, g2⟩ := tg_ok F e3 hb2 e1 (N0 X.env scope.names [])
            exact thn (ps_setC (D := anyD X D) F.calm (a1T F I.ok e2 e3 hb2) g2 (pi_old (wI_ok hw F it)) g1 (λ d => ifsG_ok hw (P2 F e3 hb2 _ d) ifs) (λ d => hw.E (P2 F e3 hb2 _ d) elt) (W2 e4) (V9 F) h1 h2 (hf x) (by show pure _ = _; rw [hb]) I (a1H h)) λ _ _ z => SP.thaw z
          . exact λ _ _ _ _ _ _ h => h.elim
        . exact λ _ _ _ _ _ _ h => h.elim
      . exact λ _ _ _ _ _ _ h => h.elim
  | SetComp a g sc p => exact λ _ _ _ _ _ _ h => h.elim
  | DictComp a b g sc p => exact λ _ _ _ _ _ _ h => h.elim
  | _ => exact plain (B6 rfl)
theorem ps_ifG {c : Expr} {a b : List Stmt} {tc : TT} {t u : TS} {pos : Pos} (hc : PT X c tc) (ha : PSs X a t) (hb : PSs X b u) : PS X (.If c a b pos) (sIf tc t u) := λ pins s σ H D I h =>
  ps_if (PT.mo hc) ha hb pins s σ H D I ⟨_, h, λ d H1 q => N3 q⟩
theorem F2 (hw : ∀ s, PS X s (w.S C s)) : ∀ ss, PSs X ss (wSs w C ss)
  | [] => pss_nil
  | [s] => pss_one (hw s)
  | s :: t :: r => pss_cons (hw s) (F2 hw (t :: r))
theorem ps_fldG {cl : Addr} {f : Str} {o e : Expr} {to te : TE} {pos pos' : Pos} (c : Cls X.K cl) (n : NoAttr X.K cl f) (ho : PE X o to) (he : PE X e te) (hs : R4 e = false) : PS X (.Assign [.Attribute o f pos'] e pos) (sFldG cl f to te) := λ pins s σ H D I h =>
  ps_fld (PE.mo ho) (PE.mo he) (B6 hs) pins s σ H D I ⟨_, h, λ y H1 q => ⟨_, q, λ x H2 q2 => by
    split at q2
    . unfold sfH at q2
      split at q2
      . obtain ⟨rfl, q3, q4⟩ := q2
        exact ⟨_, _, _, _, rfl, by assumption, c, n, q3, q4⟩
      . exact q2.elim
    . exact q2.elim⟩⟩
theorem asgG_ok (hw : Snd w) (F : Fits CX k X C) (hf : ∀ x, X.fn x = true) {tg e : Expr} {pos : Pos} : PS X (.Assign [tg] e pos) (asgG w C tg e) := by
  cases tg with
  | Name x p =>
    show PS X _ (asgN w C x e)
    unfold asgN
    split
    . exact hw.A F hf _ _ _ _ _ (by assumption)
    . exact A1
  | Subscript o i p =>
    show PS X _ (asgS w C o i e)
    unfold asgS
    split
    . rename_i h1 h2
      exact ps_asg (hw.E F _) (pg_sub (hw.E F _) (hw.E F _) (set_G F.room) (by intro v; cases i <;> first | rfl | cases h1)) (sole_not h2) (by cases e <;> rfl) rfl
    . exact A1
  | Attribute o f p =>
    show PS X _ (asgF w C o f e)
    unfold asgF
    split
    . rename_i cl e1 e2
      obtain ⟨c, n⟩ := F.fld f cl e1
      exact ps_fldG c n (hw.E F _) (hw.E F _) e2
    . exact A1
  | _ => exact A1
theorem wG_ok (F : Fits CX k X C) (hf : ∀ x, X.fn x = true) : ∀ tg, PG X tg (wG C tg) := λ tg => by
  cases tg with
  | Name x pos => exact gNm_ok F λ _ => hf x
  | Tuple ts j pos => exact gTup_ok F λ x _ _ _ => hf x
  | _ => exact pg_x
theorem raiseG_ok (hw : Snd w) (F : Fits CX k X C) {x : Str} {es : List Expr} {np cpos pos : Pos} : PS X (.Raise (some (.Call (.Name x np) es [] cpos)) none pos) (raiseG w C x es) := by
  unfold raiseG
  split
  . rename_i cl e r ok hn hx hs
    simp only [t7, Bool.and_eq_true, Bool.not_eq_true'] at ok
    obtain ⟨hm, c⟩ := F.exs x cl hx
    exact ps_raise (X9 F hn) hm c F.calm (B1 hw F _) hs ok.1 λ pins σ H s a vs h1 I hx' q => F.rse pins σ H s a cl vs h1 I hx' q
  . exact A1
structure SndQ (w : W) : Prop where
  E : ∀ {X : Cx} {C : Cfg}, FitsN X C -> ∀ e, PE X e (w.E C e)
  T : ∀ {X : Cx} {C : Cfg}, FitsN X C -> ∀ e, PT X e (w.T C e)
  S : ∀ {X : Cx} {C : Cfg}, FitsN X C -> ∀ s, PS X s (w.S C s)
theorem wA_q (hw : SndQ w) (F : FitsN X C) : ∀ es, PA X es (wA w C es)
  | [] => pa_nil
  | e :: es => by
    unfold wA
    split
    . exact pa_x
    . rename_i h
      exact pa_cons (hw.E F e) (wA_q hw F es) (e8 h)
theorem andG_q (hw : SndQ w) (F : FitsN X C) {pos : Pos} : ∀ es, PE X (.BoolOp .And es pos) (andG w C es)
  | [] => l5
  | [a] => a2o (hw.E F a)
  | a :: b :: r => pe_andG (hw.E F a) (andG_q hw F (b :: r))
theorem orG_q (hw : SndQ w) (F : FitsN X C) {pos : Pos} : ∀ es, PE X (.BoolOp .Or es pos) (orG w C es)
  | [] => l5
  | [a] => a2o (hw.E F a)
  | a :: b :: r => pe_orG (hw.E F a) (orG_q hw F (b :: r))
theorem andB_q (hw : SndQ w) (F : FitsN X C) {pos : Pos} : ∀ es, PW X (.BoolOp .And es pos) (andB w C es)
  | [] => pw_x
  | [a] => pw_and1 (hw.T F a)
  | a :: b :: r => pw_andB (hw.T F a) (andB_q hw F (b :: r))
theorem orB_q (hw : SndQ w) (F : FitsN X C) {pos : Pos} : ∀ es, PW X (.BoolOp .Or es pos) (orB w C es)
  | [] => pw_x
  | [a] => pw_or1 (hw.T F a)
  | a :: b :: r => pw_orB (hw.T F a) (orB_q hw F (b :: r))
theorem qIsi_ok (hw : SndQ w) (F : FitsN X C) {x : Str} {es : List Expr} {p pos : Pos} : PE X (.Call (.Name x p) es [] pos) (qIsi w C x es) := by
  unfold qIsi
  split
  . rename_i e r ok hn hx hg hs
    have hx : x = "isinstance" := of_decide_eq_true hx
    subst hx
    simp only [t7, Bool.and_eq_true, Bool.not_eq_true'] at ok
    have hs' := hs
    rw [List.any_cons, Bool.or_eq_false_iff] at hs'
    have hgl : Gl X "isinstance" := by
      show X.env.scope.names.lookup _ = _
      rw [F.names]
      exact hn
    split
    . exact N1 (call_isiT F.kit) hgl (F.nog _ (by simpa using hg)) (by decide +kernel) (wA_q hw F _) (by decide +kernel) (by decide +kernel) (e8 hs'.1) (d9 hs'.2).1
    . exact N1 (call_isiX F.kit) hgl (F.nog _ (by simpa using hg)) (by decide +kernel) (wA_q hw F _) (by decide +kernel) (by decide +kernel) (e8 hs'.1) (d9 hs'.2).1
  . exact l5
theorem a1U (hw : SndQ w) (F : FitsN X C) : ∀ e, PE X e (a2P w C e) := λ e => by
  unfold a2P
  split
  . exact a1S _
  . exact a3O F _ _
  . exact pe_op op_addG (hw.E F _) (hw.E F _)
  . exact pe_notG (hw.E F _)
  . exact andG_q hw F _
  . exact orG_q hw F _
  . exact PE.imp (pe_lst (PA.mo (wA_q hw F _))) λ σ H Q h => ⟨_, h, λ xs H1 q => ⟨q.1, q.2.at⟩⟩
  . exact PE.imp (pe_tup (PA.mo (wA_q hw F _))) λ σ H Q h => ⟨_, h, λ xs H1 q => ⟨q.1, q.2.at⟩⟩
  . exact qIsi_ok hw F
  . exact l5
theorem stepQT_ok (hw : SndQ w) (F : FitsN X C) : ∀ e, PT X e (stepQT w C e) := λ e => by
  cases e with
  | UnaryOp op a pos => cases op <;> first | exact pt_not (hw.T F a) | exact pt_x
  | BoolOp op es pos => cases op <;> first | exact (andB_q hw F es).pt | exact (orB_q hw F es).pt
  | IfExp a b c pos => exact pt_x
  | Compare a ops bs pos => exact pt_x
  | _ => exact pt_G (a1U hw F _) λ _ => rfl
theorem stepQS_ok (hw : SndQ w) (F : FitsN X C) : ∀ s, PS X s (stepQS w C s) := λ s => by
  unfold stepQS
  split
  . rename_i x p0 e0 q0
    split
    . rename_i i ei hl hc
      have e1 : j8 C.N x = some i := by
        unfold y6 at ei
        rw [hl] at ei
        exact ei
      have hl' : X.env.scope.names.lookup x = some .local := by
        rw [F.names]
        exact hl
      exact ps_set (by rw [F.N]; exact F.nd) (by rw [F.N]; exact i7 e1) (.inl hl') (hw.E F _) (B6 hc) (.inr hl')
    . exact A1
  . exact ps_ret (hw.E F _)
  . exact ps_pass
  . exact ps_ifG (hw.T F _) (F2 (hw.S F) _) (F2 (hw.S F) _)
  . exact A1
theorem wq_ok : ∀ n, SndQ (wq n)
  | 0 => ⟨λ _ _ => l5, λ _ _ => pt_x, λ _ _ => A1⟩
  | n + 1 => ⟨a1U (wq_ok n), stepQT_ok (wq_ok n), stepQS_ok (wq_ok n)⟩
theorem px_x {e : Expr} : PX X e (λ _ => xE) := λ _ _ _ _ _ _ _ h => False.elim h
theorem a2T (hw : Snd w) (F : Fits CX k X C) (hc : CX = CXE X.prog X.w) {f : Str} {es : List Expr} {p pos : Pos} : PX X (.Call (.Name f p) es [] pos) (tryC w C f es) := by
  subst hc
  unfold tryC
  split
  . rename_i e r ok hn hs
    simp only [t7, Bool.and_eq_true, Bool.not_eq_true'] at ok
    have hg := X9 F hn
    split
    . rename_i sp ef
      obtain ⟨fa, fd, ps, G, hm, hk, hb⟩ := F.fns f sp ef
      exact px_call G (F.room.mono (Nat.le_succ _)) hg hm hk hb (B1 hw (a0I F) _) ok.1 hs
    . split
      . rename_i cl sp ef
        obtain ⟨fa, fd, ps, M, G, hm, hb⟩ := F.mks f cl sp ef
        exact px_make M G F.room hg hm hb (B1 hw (a0I F) _) ok.1 hs
      . exact px_x
  . exact px_x
theorem psx_x {st : Stmt} : PSX X st (λ _ => xS) := λ _ _ _ _ _ _ _ h => False.elim h
theorem I0 {e : Expr} {f : Str} {es : List Expr} (h : R5 e = some (f, es)) : ∃ p pos, e = .Call (.Name f p) es [] pos := by
  unfold R5 at h
  split at h
  . cases h
    exact ⟨_, _, rfl⟩
  . cases h
theorem hOf_eq {hs : List ExceptHandler} {x n : Str} {su : List Stmt} (h : hOf hs = some (x, n, su)) : ∃ xp hp, hs = [.ExceptHandler (some (.Name x xp)) (some n) su hp] := by
  unfold hOf at h
  split at h
  . cases h
    exact ⟨_, _, rfl⟩
  . cases h
theorem a1V {tg : List Expr} {y : Str} (h : a2Q tg = some y) : ∃ p, tg = [.Name y p] := by
  unfold a2Q at h
  split at h
  . cases h
    exact ⟨_, rfl⟩
  . cases h
theorem tryB_ok (hw : Snd w) (F : Fits CX k X C) (hc : CX = CXE X.prog X.w) {st : Stmt} : PSX X st (tryB w C st) := by
  unfold tryB
  split
  . split
    . rename_i f es h
      obtain ⟨p, pos, rfl⟩ := I0 h
      exact psx_expr (a2T hw F hc) rfl
    . exact psx_x
  . split
    . rename_i f es y h hy
      obtain ⟨p, pos, rfl⟩ := I0 h
      obtain ⟨p', rfl⟩ := a1V hy
      split
      . rename_i i ei hl
        have e1 : j8 C.N y = some i := by
          unfold y6 at ei
          rw [hl] at ei
          exact ei
        exact psx_set (V9 F) (by rw [F.N]; exact i7 e1) (by rw [F.names]; exact hl) (a2T hw F hc) (B6 rfl)
      . exact psx_x
    . exact psx_x
  . split
    . rename_i f es h
      obtain ⟨p, pos, rfl⟩ := I0 h
      exact psx_ret (a2T hw F hc)
    . exact psx_x
  . exact psx_x
theorem tryT_ok (hw : Snd w) (F : Fits CX k X C) {st : Stmt} {x n : Str} {su : List Stmt} {xp hp pos : Pos} : PS X (.Try [st] [.ExceptHandler (some (.Name x xp)) (some n) su hp] [] [] pos) (tryT w C st x n su) := by
  unfold tryT
  split
  . rename_i cx i b0 r ok hx ex ei hl ht
    simp only [t7, Bool.and_eq_true, Bool.not_eq_true'] at ok
    obtain ⟨c1, c2, c3⟩ := F.cxe ht
    obtain ⟨hm, _⟩ := F.exs x cx ex
    have e1 : j8 C.N n = some i := by
      unfold y6 at ei
      rw [hl] at ei
      exact ei
    exact ps_tryS (tryB_ok hw F c1) c2 c3 (X9 F hx) hm ok.1 (V9 F) (by rw [F.N]; exact i7 e1) (by rw [F.names]; exact hl) F.hit λ a => F2 ((wq_ok 20).S (X := suX X a) ⟨F.N, F.nd, F.names, F.glo, F.nog, F.kit⟩) _
  . exact A1
theorem fromOf_eq {su : List Stmt} {e m : Expr} (h : fromOf su = some (e, m)) : ∃ p, su = [.Raise (some e) (some m) p] := by
  unfold fromOf at h
  split at h
  . cases h
    exact ⟨_, rfl⟩
  . cases h
theorem tryR_ok (hw : Snd w) (F : Fits CX k X C) {st : Stmt} {x n y : Str} {es : List Expr} {xp hp pos yp cp np rp : Pos} : PS X (.Try [st] [.ExceptHandler (some (.Name x xp)) (some n) [.Raise (some (.Call (.Name y yp) es [] cp)) (some (.Name n np)) rp] hp] [] [] pos) (tryR w C st x n y es) := by
  unfold tryR
  split
  . rename_i cx i ok hx ex ei hl ht
    split
    . rename_i cl e r oky hy ey okn hs
      simp only [t7, Bool.and_eq_true, Bool.not_eq_true'] at ok oky okn
      obtain ⟨c1, c2, c3⟩ := F.cxe ht
      obtain ⟨f1, f2⟩ := F.rsf ht
      obtain ⟨hm, _⟩ := F.exs x cx ex
      obtain ⟨my, cy⟩ := F.exs y cl ey
      have e1 : j8 C.N n = some i := by
        unfold y6 at ei
        rw [hl] at ei
        exact ei
      exact ps_tryR (tryB_ok hw F c1) f1 c2 c3 (X9 F hx) hm ok.1 (V9 F) (by rw [F.N]; exact i7 e1) (by rw [F.names]; exact hl) okn.1 F.hit (X9 F hy) my cy oky.1 hs (λ z d hz => (F.exs z d hz).2) (λ a => wA_q (X := suX X a) (wq_ok 20) ⟨F.N, F.nd, F.names, F.glo, F.nog, F.kit⟩ _) f2
    . exact A1
  . exact A1
theorem tryF_ok (hw : Snd w) (F : Fits CX k X C) {st : Stmt} {x n : Str} {su : List Stmt} {xp hp pos : Pos} : PS X (.Try [st] [.ExceptHandler (some (.Name x xp)) (some n) su hp] [] [] pos) (tryF w C st x n su) := by
  unfold tryF
  split
  . rename_i e m h
    obtain ⟨rp, rfl⟩ := fromOf_eq h
    split
    . rename_i y es m' h1 h2
      obtain ⟨yp, cp, rfl⟩ := I0 h1
      obtain ⟨np, hm⟩ := a1V h2
      have hm : m = .Name m' np := by simpa using hm
      subst hm
      split
      . rename_i hd
        have hd := of_decide_eq_true hd
        subst hd
        exact tryR_ok hw F
      . exact A1
    . exact A1
  . exact tryT_ok hw F
theorem raiseA_ok (hw : Snd w) (F : Fits CX k X C) {e : Expr} {pos : Pos} : PS X (.Raise (some e) none pos) (raiseA w C e) := by
  unfold raiseA
  split
  . rename_i x es h
    obtain ⟨p, pos, rfl⟩ := I0 h
    exact raiseG_ok hw F
  . exact A1
theorem tryA_ok (hw : Snd w) (F : Fits CX k X C) (hf : ∀ x, X.fn x = true) {body : List Stmt} {hs : List ExceptHandler} {pos : Pos} : PS X (.Try body hs [] [] pos) (tryA w C body hs) := by
  unfold tryA
  split
  . exact A1
  . split
    . rename_i h _
      obtain ⟨xp, hp, e⟩ := hOf_eq h
      rw [e]
      exact tryF_ok hw F
    . exact ps_tryG (F2 (hw.S (a0I F) PassesOwn.never hf) _)
theorem exX_ok (hw : Snd w) (F : Fits CX k X C) {e : Expr} {p : Pos} : PS X (.Expr e p) (exX w C e) := by
  unfold exX
  split
  . rename_i h
    cases e with
    | Constant c j q => cases c <;> first | exact ps_doc | cases h
    | _ => cases h
  . rename_i h1 h2
    exact ps_expr (hw.E F _) (B6 h2)
  . exact A1
theorem stepS_ok (hw : Snd w) (F : Fits CX k X C) (hp : PassesOwn (model X.prog X.w) X.A X.env X.xe) (hf : ∀ x, X.fn x = true) : ∀ s, PS X s (stepS w C s) := λ s => by
  cases s with
  | Expr e p => exact exX_ok hw F
  | Return o p =>
    cases o with
    | some e => exact ps_ret (hw.E F _)
    | none => exact ps_retN
  | Pass p => exact ps_pass
  | If c a b p => exact ps_ifG (hw.T F _) (F2 (hw.S F hp hf) _) (F2 (hw.S F hp hf) _)
  | For tg it body els p =>
    cases els with
    | nil =>
      show PS X _ (forX w C tg it body)
      unfold forX
      split
      . rename_i h
        exact ps_for2 hp F.calm (wI_ok hw F _) (wG_ok F hf _) (F2 (hw.S F hp hf) _) (W2 h)
      . exact A1
    | cons a b => exact A1
  | Assign ts e p =>
    cases ts with
    | nil => exact A1
    | cons tg r =>
      cases r with
      | nil => exact asgG_ok hw F hf
      | cons a b => exact A1
  | Raise e c p =>
    cases e with
    | none => exact A1
    | some e =>
      cases c with
      | none => exact raiseA_ok hw F
      | some c => exact A1
  | Try body hs els fi p =>
    cases els with
    | nil =>
      cases fi with
      | nil => exact tryA_ok hw F hf
      | cons a b => exact A1
    | cons a b => exact A1
  | _ => exact A1
theorem a1W : ∀ n, Snd (wp n)
  | 0 => ⟨λ _ _ => l5, λ _ _ => pt_x, λ _ _ _ _ _ _ _ _ _ _ _ _ _ _ h => h.elim, λ _ _ _ _ => A1⟩
  | n + 1 => ⟨a0J (a1W n), stepT_ok (a1W n), stepA_ok (a1W n), stepS_ok (a1W n)⟩
end
structure Tabs where
  fns : List (Str × Sp) := []
  mks : List (Str × Addr × Sp) := []
  mts : List (Str × Addr × Sp) := []
  fld : List (Str × Addr) := []
  glo : List (Str × V) := []
  nog : List Str := []
  scr : List Str := []
  fvs : List (Addr × Sp) := []
  ics : List Addr := []
  exs : List (Str × Addr) := []
  kit : List (Addr × V × Bool) := []
  hit : List (Addr × Addr) := []
  top : Bool := false
def cfg (T : Tabs) (K : PySem.W.Frag) (N : List Str) (names : List (Str × NameKind)) (E : XK) : Cfg := ⟨K, N, names, T.fns, T.mks, T.mts, T.fld, T.glo, T.nog, T.scr, E, T.fvs, T.ics, T.exs, T.kit, T.hit, T.top⟩
structure Lib (P : Program) (w : World) (K : PySem.W.Frag) (mg : Str -> Option Value) (base : Heap) (CX : CXT) (k : Nat) (T : Tabs) : Prop where
  fns : ∀ x sp, T.fns.lookup x = some sp -> ∃ f fd ps, FnOk P w K mg base CX k f fd ps sp /\ mg x = some (.ref f) /\ PySem.W.keepIn K (.ref f) = true /\ Binds K fd ps []
  mks : ∀ x cl sp, T.mks.lookup x = some (cl, sp) -> ∃ f fd ps, Mk K cl f /\ FnOk P w K mg base CX k f fd ps sp /\ mg x = some (.ref cl) /\ Binds K fd ps []
  mts : ∀ m cl sp, T.mts.lookup m = some (cl, sp) -> ∃ f fd ps, Cls K cl /\ Meth K cl m f /\ FnOk P w K mg base CX k f fd ps sp /\ Binds K fd ps []
  fld : ∀ f cl, T.fld.lookup f = some cl -> Cls K cl /\ NoAttr K cl f
  glo : ∀ x v, T.glo.lookup x = some v -> ∃ u, mg x = some u /\ RelV v u
  nog : ∀ x ∈ T.nog, mg x = none
  fvs : ∀ p ∈ T.fvs, ∃ fd ps, FnOk P w K mg base CX k p.1 fd ps p.2 /\ PySem.W.keepIn K (.ref p.1) = true /\ Binds K fd ps []
  ics : ∀ c ∈ T.ics, IsC K c
  exs : ∀ x cl, T.exs.lookup x = some cl -> mg x = some (.ref cl) /\ ExcC K cl
  kit : a0D K T.kit
  hit : ∀ p ∈ T.hit, PySem.W.exmOne K (.ref p.1) (.ref p.2) = some true
section
variable {P : Program} {w : World} {K : PySem.W.Frag} {mg : Str -> Option Value} {base : Heap} {CX : CXT} {k : Nat} {T : Tabs}
theorem fn_wp (n : Nat) {x qual : Str} {st : Stmt} {f : Addr} {fd : FuncData} {N ps : List Str} {sp : Sp} (F : Fun K x qual st f fd) (S : FnScope N ps (a9 st)) (L : Lib P w K mg base CX0 k T)
    (len : ∀ vs H Q E, sp vs H Q E -> vs.length = ps.length) {t : TS} (ht : wSs (wp n) (cfg T K N (a9 st).names E0) (b5 st) = t)
    (hb : ∀ vs H Q E, sp vs H Q E -> t { nx := λ _ H' => Q .non H', rt := Q } (D8 N vs) H) (htop : T.top = false := by rfl) : FnOk P w K mg base CX0 (k + 2) f fd ps sp := by
  refine F.ok (k := k + 1) S len λ cdv A outer s H vs Q E hr h => ⟨t, ?_, hb vs H Q E h⟩
  rw [<- ht]
  have Ft : Fits CX0 k (cxOf CX0 P w K mg base N qual (a9 st) f cdv A outer s H E).nox (cfg T K N (a9 st).names E0) := {
    K := rfl, N := rfl, nd := S.nd, names := rfl, kind := S.kind, calm := rfl, room := hr, pass := pass0, no := λ _ _ _ _ _ h => h,
    fns := L.fns, mks := L.mks, mts := L.mts, fld := L.fld, glo := L.glo, nog := L.nog, fvs := L.fvs, ics := L.ics, exs := L.exs, kit := L.kit, hit := L.hit, cxe := λ z => (by rw [show (cfg T K N (a9 st).names E0).top = T.top from rfl, htop] at z; cases z), rse := λ _ _ _ _ _ _ _ _ _ _ h => False.elim h, rsf := λ z => (by rw [show (cfg T K N (a9 st).names E0).top = T.top from rfl, htop] at z; cases z) }
  exact F2 (λ s => (a1W n).S Ft PassesOwn.never (λ _ => rfl) s) _
theorem FnOk.lift {f : Addr} {fd : FuncData} {ps : List Str} {sp : Sp} {k : Nat} (F : FnOk P w K mg base CX0 k f fd ps sp) : FnOk P w K mg base (CXE P w) k f fd ps sp :=
  ⟨F.len, λ A outer s H args us vs Q E hr he hb hv hs => codeAny_mono (F.run A outer s H args us vs Q E hr he hb hv hs) λ r s' h => by
    cases r with
    | error e => exact False.elim h
    | ok fl => cases fl <;> exact h⟩
theorem pass_E {N : List Str} {qual : Str} {scope : Scope} {f : Addr} {cd : Value} {A : Around} {outer : List Env} {s : Shared} {H : Hp} {E : XK} : y8 (CXE P w) (cxOf (CXE P w) P w K mg base N qual scope f cd A outer s H E) E :=
  λ pins σ H1 s1 e s2 I h => fly_on I rfl rfl rfl h
theorem fn_wpE (n : Nat) {x qual : Str} {st : Stmt} {f : Addr} {fd : FuncData} {N ps : List Str} {sp : Sp} (F : Fun K x qual st f fd) (S : FnScope N ps (a9 st)) (L : Lib P w K mg base (CXE P w) k T)
    (len : ∀ vs H Q E, sp vs H Q E -> vs.length = ps.length) {t : XK -> TS} (ht : ∀ E, wSs (wp n) (cfg T K N (a9 st).names E) (b5 st) = t E)
    (hb : ∀ vs H Q E, sp vs H Q E -> t E { nx := λ _ H' => Q .non H', rt := Q } (D8 N vs) H) : FnOk P w K mg base (CXE P w) (k + 2) f fd ps sp := by
  obtain ⟨oc, od, kV, doc, pm, an, cdv, ct, osl, rfl, lk, hcd⟩ := F.ex
  refine fn_of (k := k + 1) lk hcd S len λ A outer s H vs Q E hr hsp => ⟨t E, ?_, hb vs H Q E hsp⟩
  rw [<- ht E]
  have Ft : Fits (CXE P w) k (cxOf (CXE P w) P w K mg base N qual (a9 st) f cdv A outer s H E) (cfg T K N (a9 st).names E) := {
    K := rfl, N := rfl, nd := S.nd, names := rfl, kind := S.kind, calm := rfl, room := hr, pass := pass_E, no := λ _ _ _ _ _ ⟨_, _, _, _, _, _, _, _, _, _, h⟩ => h,
    fns := L.fns, mks := L.mks, mts := L.mts, fld := L.fld, glo := L.glo, nog := L.nog, fvs := L.fvs, ics := L.ics, exs := L.exs, kit := L.kit, hit := L.hit, cxe := λ _ => ⟨rfl, rfl, rfl⟩, rse := λ pins σ H1 s1 a cl vs h1 I hx q => fly_new I rfl rfl rfl hx q, rsf := λ _ => ⟨rfl, λ σ H1 s1 e cl c R q => rai_out (c := c) rfl rfl rfl R q⟩ }
  exact F2 (λ s => (a1W n).S Ft PassesOwn.leaving (λ _ => rfl) s) _
end
theorem a0K {a : Addr} {xs : List V} {g : TG} {tb : TS} {D : Ends} {σ : St} {H : Hp} (Pv : Nat -> St -> Hp -> Prop) (h0 : Pv 0 σ H) (hl : ∀ i σ H, i <= xs.length -> Pv i σ H -> H a = some (.lst xs))
    (hs : ∀ i x σ H, xs[i]? = some x -> Pv i σ H -> g x σ H λ σ2 H2 => tb { D with nx := Pv (i + 1), ct := Pv (i + 1), bk := D.nx } σ2 H2) (hd : ∀ σ H, Pv xs.length σ H -> D.nx σ H) : B8 (Itl0 a) g tb D σ H := by
  unfold B8
  exact for_list0 Pv h0 (λ i σ H hi p => .inl (hl i σ H hi p)) hs hd
theorem a4c {lo : Int} {n : Nat} {g : TG} {tb : TS} {D : Ends} {σ : St} {H : Hp} (Pv : Nat -> St -> Hp -> Prop) (h0 : Pv 0 σ H)
    (hs : ∀ i σ H, i < n -> Pv i σ H -> g (.int (lo + i)) σ H λ σ2 H2 => tb { D with nx := Pv (i + 1), ct := Pv (i + 1), bk := D.nx } σ2 H2) (hd : ∀ σ H, Pv n σ H -> D.nx σ H) : B8 (Itr lo n) g tb D σ H := by
  unfold B8
  exact for_range Pv h0 hs hd
theorem loop_str {z : Str} {g : TG} {tb : TS} {D : Ends} {σ : St} {H : Hp} (Pv : Nat -> St -> Hp -> Prop) (h0 : Pv 0 σ H)
    (hs : ∀ i c σ H, z.cps[i]? = some c -> Pv i σ H -> g (.str ⟨#[c]⟩) σ H λ σ2 H2 => tb { D with nx := Pv (i + 1), ct := Pv (i + 1), bk := D.nx } σ2 H2) (hd : ∀ σ H, Pv z.length σ H -> D.nx σ H) : B8 (Its z) g tb D σ H := by
  unfold B8
  exact for_str Pv h0 hs hd
theorem a4d {z : Str} {tn : List Str} {fr : List (Str × Nat)} {g : TG} {tt : TT} {te : TE} {σ : St} {H : Hp} {Q : VK} (f : Nat -> Option V) (hz : z.length < sizeLine)
    (turn : ∀ (i c : Nat), z.cps[i]? = some c -> ∀ (G : Hp) (k : Option V -> Hp -> Prop), k (f c) G -> g (.str ⟨#[c]⟩) (inn tn fr σ) G λ σ2 G2 => tt σ2 G2 λ b G3 => br b (te σ2 G3 λ y G4 => k (some y) G4) (k none G3))
    (fin : ∀ p, H p = none -> Q (.ref p) (upd H p (.lst (z.cps.toList.filterMap f)))) : X7 (Its z) tn fr g tt te σ H Q := by
  unfold X7
  intro p hp
  exact comp_str f hz turn (fin p hp)
theorem one_lt (a b : Nat) : (([b] : List Nat) < [a]) ↔ b < a := by
  rw [List.cons_lt_cons_iff]
  constructor
  . rintro (h | ⟨_, h⟩)
    . exact h
    . exact absurd h (List.not_lt_nil _)
  . exact .inl
theorem a2U (a b : Nat) : (!decide (([b] : List Nat) < [a])) = decide (a <= b) := by
  by_cases h : a <= b
  . rw [decide_eq_true h, decide_eq_false (by rw [one_lt]; omega)]
    rfl
  . rw [decide_eq_false h, decide_eq_true (by rw [one_lt]; omega)]
    rfl
theorem all_i {p : Addr} {ys : List V} {bs : List Bool} {H : Hp} {Q : VK} (h : H p = some (.lst ys)) (hb : X8 ys = some bs) (q : Q (.bl (bs.all id)) H) : allG [.ref p] H Q := by
  unfold allG
  simp only [h, hb]
  exact q
theorem a2V {α : Type} (f : α -> Bool) : ∀ l : List α, X8 (l.map λ c => V.bl (f c)) = some (l.map f)
  | [] => rfl
  | a :: r => by
    rw [List.map_cons, List.map_cons]
    show (X8 (r.map λ c => V.bl (f c))).map (f a :: ·) = _
    rw [a2V f r]
    rfl
def lowB (c : Nat) : Bool := decide (97 <= c) && decide (c <= 122)
def Q3 (z : Str) : Bool := decide (1 <= z.length) && decide (z.length <= 8) && !(z == ("all" : Str)) && z.cps.toList.all lowB
def Y1 : V -> Bool
  | .str z => Q3 z
  | _ => false
theorem kind_str {H : Hp} {x : V} (h : v7 H x = some "str") : ∃ z, x = .str z := by
  cases x with
  | str z => exact ⟨z, rfl⟩
  | ref a =>
    unfold v7 at h
    simp only at h
    split at h <;> first | (cases h; done) | (simp at h)
  | _ => first | (cases h; done) | (simp [v7] at h)
theorem E3 {T S : String} {x : V} {H : Hp} {Q : VK} (hT : okTy T = true) (hk : v7 H x = some S) (q : Q (.bl (K1 S T)) H) : V3 [x, .ty T] H Q := by
  unfold V3
  refine ⟨hT, ?_⟩
  rw [hk]
  exact q
theorem a2W {z : Str} {H : Hp} {R : It -> Hp -> Th -> Prop} (q : R (Its z) H none) : w5 (.str z) H R := by
  unfold w5
  exact q
theorem a0M {H : Hp} {p : Addr} {xs : List V} (h : H p = some (.lst xs)) : v7 H (.ref p) = some "list" := by
  unfold v7
  simp only [h]
theorem a4e {H : Hp} {p : Addr} {xs : List V} (h : H p = some (.tup xs)) : v7 H (.ref p) = some "tuple" := by
  unfold v7
  simp only [h]
theorem kind_dK {H : Hp} {p : Addr} {xs : List (Key × V)} (h : H p = some (.dK xs)) : v7 H (.ref p) = some "dict" := by
  unfold v7
  simp only [h]
theorem kind_dT {H : Hp} {p : Addr} {xs : List (List Key × V)} (h : H p = some (.dT xs)) : v7 H (.ref p) = some "dict" := by
  unfold v7
  simp only [h]
def a1X : TS :=
  (c8 (sIf (V1 (J7 (ptG (tCB V3 (a8 (gv 0) (a8 (tC (.ty "str")) b7))))) (J7 (bT (K4 leG leG (tC (.int 1)) (tCB x4 (a8 (gv 0) b7)) (tC (.int 8))))))
    (g8 (tC (.bl false)))
    g0)
  (g8 (tAndG (tOp neG (gv 0) (tC (.str "all"))) (tCB allG (a8 (N8 (iOf w5 (gv 0)) ["sign"] [] (b9 0) tYes (K4 leG leG (tC (.str "a")) (gv 0) (tC (.str "z")))) b7)))))
theorem r_is_name {x : V} {S : String} {H : Hp} {D : Ends} (hk : v7 H x = some S) (hz : ∀ z, x = .str z -> z.length < sizeLine) (q : ∀ H', Same H H' -> D.rt (.bl (Y1 x)) H') : a1X D [some x] H := by
  refine E3 rfl hk ?_
  have q0 := q H (Same.refl H)
  by_cases hS : S = "str"
  . subst hS
    obtain ⟨z, rfl⟩ := kind_str hk
    have hz := hz z rfl
    have hn : Y1 (.str z) = (decide (1 <= z.length) && decide (z.length <= 8) && !(z == ("all" : Str)) && z.cps.toList.all lowB) := rfl
    refine y9 rfl ⟨Nat.le_of_lt hz, ?_⟩
    refine N4 (λ h1 => ?_) (λ h1 => ?_)
    . refine a2B (N4 (λ h2 => ?_) (λ h2 => ?_))
      . refine a2B (i9 (λ h3 => ?_) (λ h3 => ?_))
        . rw [hn, show (z == ("all" : Str)) = true from h3] at q0
          have q0 : D.rt (.bl false) H := by simpa using q0
          exact q0
        . refine comp_i (a2W (a4d (λ c => some (.bl (lowB c))) hz ?_ ?_))
          . intro i c hc G k' hk'
            refine u0 rfl ?_
            have e1 : (!decide (([c] : List Nat) < ("a" : Str).cps.toList)) = decide (97 <= c) := a2U 97 c
            have e2 : (!decide (("z" : Str).cps.toList < ([c] : List Nat))) = decide (c <= 122) := a2U c 122
            refine i9 (λ h4 => ?_) (λ h4 => ?_)
            . have h4 : decide (97 <= c) = true := e1 ▸ h4
              have e3 : lowB c = decide (c <= 122) := by
                unfold lowB
                rw [h4, Bool.true_and]
              rw [e3, <- e2] at hk'
              exact hk'
            . have h4 : decide (97 <= c) = false := e1 ▸ h4
              have e3 : lowB c = false := by
                unfold lowB
                rw [h4, Bool.false_and]
              rw [e3] at hk'
              exact hk'
          . intro p hp
            have q1 := q (upd H p (.lst (z.cps.toList.filterMap λ c => some (V.bl (lowB c))))) (z9 hp)
            refine all_i b6 (bs := z.cps.toList.map lowB) ?_ ?_
            . rw [List.filterMap_eq_map']
              exact a2V lowB _
            . rw [hn, decide_eq_true (show 1 <= z.length by omega), decide_eq_true (show z.length <= 8 by omega), show (z == ("all" : Str)) = false from h3] at q1
              rw [List.all_map]
              simpa using q1
      . rw [hn, decide_eq_false (show ¬ z.length <= 8 by omega)] at q0
        have q0 : D.rt (.bl false) H := by simpa using q0
        exact q0
    . rw [hn, decide_eq_false (show ¬ 1 <= z.length by omega)] at q0
      have q0 : D.rt (.bl false) H := by simpa using q0
      exact u0 rfl q0
  . have e : Y1 x = false := by
      cases x with
      | str z => exact absurd (by cases hk; rfl) hS
      | _ => rfl
    rw [e] at q0
    have hi : K1 S "str" = false := by
      unfold K1
      simp [hS]
    exact u0 (by rw [hi]; rfl) (u0 rfl q0)
theorem getS_i {z : Str} {i : Int} {c : Nat} {H : Hp} {Q : VK} (hc : atI z.cps.toList i = some c) (hz : z.length <= sizeLine) (q : Q (.str ⟨#[c]⟩) H) : j9 (.str z) (.int i) H Q := by
  unfold j9
  simp only [hc]
  exact ⟨hz, q⟩
theorem j6 {p : Addr} {xs : List V} {i : Int} {v : V} {H : Hp} {Q : VK} (h : H p = some (.lst xs)) (hv : atI xs i = some v) (q : Q v H) : j9 (.ref p) (.int i) H Q := by
  unfold j9
  simp only [h, hv]
  exact q
theorem getT_i {p : Addr} {xs : List V} {i : Int} {v : V} {H : Hp} {Q : VK} (h : H p = some (.tup xs)) (hv : atI xs i = some v) (q : Q v H) : j9 (.ref p) (.int i) H Q := by
  unfold j9
  simp only [h, hv]
  exact q
theorem k7 {p : Addr} {xs : List V} {H : Hp} {Q : VK} (h : H p = some (.lst xs)) (q : Q (.int xs.length) H) : lenH p H Q := by
  unfold lenH
  simp only [h]
  exact q
theorem A9 {l b : Addr} {xs ys : List V} {H : Hp} {Q : VK} (hl : H l = some (.lst xs)) (hb : H b = some (.lst ys)) (hz : xs.length + ys.length <= sizeLine) (q : newO H (.lst (xs ++ ys)) Q) : addH l b H Q := by
  unfold addH
  simp only [hl, hb]
  exact ⟨hz, q⟩
theorem Z8 {a : Addr} {xs : List V} {H : Hp} {R : It -> Hp -> Th -> Prop} (h : H a = some (.lst xs)) (q : R (Itl0 a) H none) : w5 (.ref a) H R := by
  unfold w5
  simp only [h]
  exact q
theorem eq_i {x y : V} {d e : PyData} {H : Hp} {Q : VK} (hx : rdD 8 H x = some d) (hy : rdD 8 H y = some e) (q : Q (.bl (PyData.eqv d e)) H) : eqH x y H Q := by
  unfold eqH eqD
  refine .inl ?_
  simp only [hx, hy]
  exact q
theorem few {n : Nat} (h : Nat.ble n 1000 = true) : n <= sizeLine := Nat.le_of_lt (small1000 (Nat.le_of_ble_eq_true h))
end Tv
namespace Tv
open PySem PySem.Spec PyProof.Rows L2
def FnE (P : Program) (w : World) (K : PySem.W.Frag) (mg : Str -> Option Value) (base : Heap) (CX : CXT) (k : Nat) (x : Str) (sp : Sp) : Prop :=
  ∃ f fd ps, FnOk P w K mg base CX k f fd ps sp /\ mg x = some (.ref f) /\ PySem.W.keepIn K (.ref f) = true /\ Binds K fd ps []
section
variable {P : Program} {w : World} {K : PySem.W.Frag} {mg : Str -> Option Value} {base : Heap} {CX : CXT} {j k : Nat} {T : Tabs} {x : Str} {sp : Sp}
theorem FnE.mono (h : FnE P w K mg base CX j x sp) (hj : j <= k) : FnE P w K mg base CX k x sp := by
  obtain ⟨f, fd, ps, F, r⟩ := h
  exact ⟨f, fd, ps, F.mono hj, r⟩
inductive Ents {α : Type} (R : Str -> α -> Prop) : List (Str × α) -> Prop where
  | nil : Ents R []
  | cons {x : Str} {a : α} {r : List (Str × α)} (h : R x a) (t : Ents R r) : Ents R ((x, a) :: r)
theorem Ents.get {α : Type} {R : Str -> α -> Prop} : ∀ {l : List (Str × α)}, Ents R l -> ∀ x a, l.lookup x = some a -> R x a
  | _, .nil, x, a, h => by cases h
  | _, .cons h t, x, a, e => by
    rw [List.lookup_cons] at e
    split at e
    . rename_i q
      cases e
      have := eq_of_beq q
      subst this
      exact h
    . exact t.get x a e
structure DefAt (K : PySem.W.Frag) (mg : Str -> Option Value) (x : Str) (st : Stmt) (ps : List Str) (f : Addr) (fd : FuncData) : Prop where
  fn : Fun K x x st f fd
  b : Binds K fd ps []
  m : mg x = some (.ref f)
theorem r6 {h : Heap} {st : Stmt} {ps : List Str} {f : Addr} {oc : Value} {od an : Option Addr} {osl : Array (Option Value)} {kV doc pm cdv ct : Value} (X : K.In h) (G : h.Ns mainGlobals mg)
    (a : PySem.W.nsIn K mainGlobals x = some (some (.ref f))) (l : K.lookup f = some ⟨oc, od, .func (PySem.W.fnOf x x (c9 st) (b5 st) (a9 st) .none kV doc pm an cdv ct), osl⟩) (c : PySem.W.codeIn K cdv x = true) (k : PySem.W.keepIn K (.ref f) = true)
    (hb : ∀ (kV doc pm : Value) (an : Option Addr) (cdv ct : Value) (us : List Value), us.length = ps.length -> bindArgs (PySem.W.fnOf x x (c9 st) (b5 st) (a9 st) .none kV doc pm an cdv ct) ⟨us, []⟩ = pure (ps.zip us)) :
    ∃ fd, DefAt K mg x st ps f fd := by
  have F := a0o (st := st) l c k
  exact ⟨_, F, F.binds hb, PySem.W.mg_of X G a⟩
theorem DefAt.ok {st : Stmt} {N ps : List Str} {f : Addr} {fd : FuncData} (A : DefAt K mg x st ps f fd) (n : Nat) (S : FnScope N ps (a9 st)) (L : Lib P w K mg base CX0 k T)
    (len : ∀ vs H Q E, sp vs H Q E -> vs.length = ps.length) {t : TS} (ht : wSs (wp n) (cfg T K N (a9 st).names E0) (b5 st) = t)
    (hb : ∀ vs H Q E, sp vs H Q E -> t { nx := λ _ H' => Q .non H', rt := Q } (D8 N vs) H) (htop : T.top = false := by rfl) : FnE P w K mg base CX0 (k + 2) x sp :=
  ⟨f, fd, ps, fn_wp n A.fn S L len ht hb htop, A.m, A.fn.kp, A.b⟩
def MtE (P : Program) (w : World) (K : PySem.W.Frag) (mg : Str -> Option Value) (base : Heap) (CX : CXT) (k : Nat) (m : Str) (p : Addr × Sp) : Prop :=
  ∃ f fd ps, Meth K p.1 m f /\ FnOk P w K mg base CX k f fd ps p.2 /\ Binds K fd ps []
def MkE (P : Program) (w : World) (K : PySem.W.Frag) (mg : Str -> Option Value) (base : Heap) (CX : CXT) (k : Nat) (x : Str) (p : Addr × Sp) : Prop :=
  ∃ f fd ps, Mk K p.1 f /\ FnOk P w K mg base CX k f fd ps p.2 /\ mg x = some (.ref p.1) /\ Binds K fd ps []
theorem MtE.mono {p : Addr × Sp} (h : MtE P w K mg base CX j x p) (hj : j <= k) : MtE P w K mg base CX k x p := by
  obtain ⟨f, fd, ps, M, F, r⟩ := h
  exact ⟨f, fd, ps, M, F.mono hj, r⟩
theorem MkE.mono {p : Addr × Sp} (h : MkE P w K mg base CX j x p) (hj : j <= k) : MkE P w K mg base CX k x p := by
  obtain ⟨f, fd, ps, M, F, r⟩ := h
  exact ⟨f, fd, ps, M, F.mono hj, r⟩
theorem MtE.mk {cl : Addr} {m qual : Str} {st : Stmt} {N ps : List Str} {f : Addr} {fd : FuncData} (M : Meth K cl m f) (F : Fun K m qual st f fd) (b : Binds K fd ps []) (n : Nat) (S : FnScope N ps (a9 st)) (L : Lib P w K mg base CX0 k T)
    (len : ∀ vs H Q E, sp vs H Q E -> vs.length = ps.length) {t : TS} (ht : wSs (wp n) (cfg T K N (a9 st).names E0) (b5 st) = t)
    (hb : ∀ vs H Q E, sp vs H Q E -> t { nx := λ _ H' => Q .non H', rt := Q } (D8 N vs) H) (htop : T.top = false := by rfl) : MtE P w K mg base CX0 (k + 2) m (cl, sp) :=
  ⟨f, fd, ps, M, fn_wp n F S L len ht hb htop, b⟩
theorem MkE.mk {cl : Addr} {m qual : Str} {st : Stmt} {N ps : List Str} {f : Addr} {fd : FuncData} (M : Mk K cl f) (hx : mg x = some (.ref cl)) (F : Fun K m qual st f fd) (b : Binds K fd ps []) (n : Nat) (S : FnScope N ps (a9 st)) (L : Lib P w K mg base CX0 k T)
    (len : ∀ vs H Q E, sp vs H Q E -> vs.length = ps.length) {t : TS} (ht : wSs (wp n) (cfg T K N (a9 st).names E0) (b5 st) = t)
    (hb : ∀ vs H Q E, sp vs H Q E -> t { nx := λ _ H' => Q .non H', rt := Q } (D8 N vs) H) (htop : T.top = false := by rfl) : MkE P w K mg base CX0 (k + 2) x (cl, sp) :=
  ⟨f, fd, ps, M, fn_wp n F S L len ht hb htop, hx, b⟩
theorem DefAt.okE {st : Stmt} {N ps : List Str} {f : Addr} {fd : FuncData} (A : DefAt K mg x st ps f fd) (n : Nat) (S : FnScope N ps (a9 st)) (L : Lib P w K mg base (CXE P w) k T)
    (len : ∀ vs H Q E, sp vs H Q E -> vs.length = ps.length) {t : XK -> TS} (ht : ∀ E, wSs (wp n) (cfg T K N (a9 st).names E) (b5 st) = t E)
    (hb : ∀ vs H Q E, sp vs H Q E -> t E { nx := λ _ H' => Q .non H', rt := Q } (D8 N vs) H) : FnE P w K mg base (CXE P w) (k + 2) x sp :=
  ⟨f, fd, ps, fn_wpE n A.fn S L len ht hb, A.m, A.fn.kp, A.b⟩
def FvE (P : Program) (w : World) (K : PySem.W.Frag) (mg : Str -> Option Value) (base : Heap) (CX : CXT) (k : Nat) (p : Addr × Sp) : Prop :=
  ∃ fd ps, FnOk P w K mg base CX k p.1 fd ps p.2 /\ PySem.W.keepIn K (.ref p.1) = true /\ Binds K fd ps []
theorem lib_cls {C : Addr} (c : Cls K C) (h : Ents (FnE P w K mg base CX k) T.fns) (hm : Ents (MkE P w K mg base CX k) T.mks) (ht : Ents (λ m p => p.1 = C /\ MtE P w K mg base CX k m p) T.mts) (hf : Ents (λ f cl => cl = C /\ NoAttr K cl f) T.fld)
    (hg : ∀ x v, T.glo.lookup x = some v -> ∃ u, mg x = some u /\ RelV v u) (hn : ∀ x ∈ T.nog, mg x = none) (hv : ∀ p ∈ T.fvs, FvE P w K mg base CX k p := by intro p hp; cases hp) (hi : ∀ c ∈ T.ics, IsC K c := by intro c hc; cases hc) (he : ∀ x cl, T.exs.lookup x = some cl -> mg x = some (.ref cl) /\ ExcC K cl := by intro x cl e; cases e) (hk : a0D K T.kit := by intro p hp; cases hp) (hh : ∀ p ∈ T.hit, PySem.W.exmOne K (.ref p.1) (.ref p.2) = some true := by intro p hp; cases hp) : Lib P w K mg base CX k T where
  ics := hi
  exs := he
  kit := hk
  hit := hh
  fvs := hv
  fns := h.get
  mks := λ x cl sp e => hm.get x (cl, sp) e
  mts := λ x cl sp e => by
    obtain ⟨e, f, fd, ps, M, F, b⟩ := ht.get x (cl, sp) e
    have e : cl = C := e
    subst e
    exact ⟨f, fd, ps, c, M, F, b⟩
  fld := λ x cl e => by
    obtain ⟨e, n⟩ := hf.get x cl e
    subst e
    exact ⟨c, n⟩
  glo := hg
  nog := hn
end
section
variable {K : PySem.W.Frag}
def O1 (ns : List Int) (k : Int) : Int := if k < ns.length then ns.getD k.toNat 0 else 0
def d6 (K : PySem.W.Frag) : Sp := λ vs H Q _ => ∃ (a : Addr) (ns : List Int) (k : Int), vs = [.ref a, .int k] /\ SqL K H a (ns.map V.int) /\ 0 <= k /\ Q (.int (O1 ns k)) H
def Q4 (K : PySem.W.Frag) : TS :=
  (c8 (sIf (bT (tOp ltG (gv 1) (tCB (lenS K) (a8 (gv 0) b7))))
    (g8 (tOp (rIxL K) (gv 0) (gv 1)))
    g0)
  (g8 (tC (.int 0))))
theorem a1i {a : Addr} {ns : List Int} {k : Int} {H : Hp} {D : Ends} (hS : SqL K H a (ns.map V.int)) (hk : 0 <= k) (q : D.rt (.int (O1 ns k)) H) : Q4 K D [some (.ref a), some (.int k)] H := by
  refine ⟨a, _, rfl, hS, ?_⟩
  unfold O1 at q
  refine N4 (λ h => ?_) (λ h => ?_)
  . rw [List.length_map] at h
    rw [if_pos h] at q
    obtain ⟨j, rfl⟩ : ∃ j : Nat, k = j := ⟨k.toNat, by omega⟩
    have hj : j < ns.length := by omega
    refine ⟨a, _, j, .int ns[j], rfl, rfl, hS, K0 (by simp [hj]), ?_⟩
    simpa [List.getD, hj] using q
  . rw [List.length_map] at h
    rw [if_neg h] at q
    exact q
end
theorem sz : sizeLine = 16777216 := sizeLine_eq
def K6 : Sp := λ vs H Q _ => ∃ x S, vs = [x] /\ v7 H x = some S /\ (∀ z, x = .str z -> z.length < sizeLine) /\ ∀ H', Same H H' -> Q (.bl (Y1 x)) H'
theorem a1Y {l : Addr} {xs : List V} {t : TA} {σ : St} {Q : VK} {H : Hp} (h : H l = some (.lst xs)) (q : t σ H λ vs H2 => K5 (.ref l) vs H2 Q) : bmK "append" t σ Q (.ref l) H := by
  unfold bmK
  have : tyB H (.ref l) = some "list" := by unfold tyB; simp only [h]
  rw [this]
  exact q
theorem a2X {l : Addr} {xs : List V} {y : V} {Q : VK} {H : Hp} (h : H l = some (.lst xs)) (hz : xs.length < sizeLine) (q : Q .non (upd H l (.lst (xs ++ [y])))) : K5 (.ref l) [y] H Q := by
  unfold K5
  simp only [h]
  exact ⟨hz, q⟩
theorem B0 {z : Str} {t : TA} {σ : St} {Q : VK} {H : Hp} (q : t σ H λ vs H2 => a0x (.str z) vs H2 Q) : bmK "join" t σ Q (.str z) H := by
  unfold bmK
  exact q
theorem z7 {z : Str} {l : Addr} {xs : List V} {ys : List Str} {Q : VK} {H : Hp} (h : H l = some (.lst xs)) (hy : R1 xs = some ys) (hz : (ys.map (·.length)).sum + ys.length * z.length <= 16777216) (q : Q (.str (Txt.join z ys)) H) : a0x (.str z) [.ref l] H Q := by
  unfold a0x
  simp only [h, hy]
  exact ⟨hz, q⟩
theorem fld_i {cl : Addr} {f : Str} {p dx : Addr} {fs : List (Str × V)} {v : V} {H : Hp} {Q : VK} (h : H p = some (.ins cl dx fs)) (hf : fs.lookup f = some v) (q : Q v H) : fldK cl f (.ref p) H Q := by
  unfold fldK
  simp only [h, hf]
  exact ⟨trivial, q⟩
theorem meth_i {cl : Addr} {m : Str} {p dx : Addr} {fs : List (Str × V)} {H : Hp} {R : Prop} (h : H p = some (.ins cl dx fs)) (hf : fs.lookup m = none) (q : R) : methK cl m (.ref p) H R := by
  unfold methK
  simp only [h]
  exact ⟨trivial, hf, q⟩
theorem sfl_i {cl : Addr} {f : Str} {p dx : Addr} {y : V} {fs : List (Str × V)} {σ : St} {H : Hp} {N : St -> Hp -> Prop} (h : H p = some (.ins cl dx fs)) (hz : Nat.blt fs.length 1000 = true) (q : N σ (upd H p (.ins cl dx (F4 f y fs)))) : sfH cl f p y σ H N := by
  unfold sfH
  simp only [h]
  exact ⟨trivial, by simpa using hz, q⟩
theorem dispL_i {tk : TE} {σ : St} {H : Hp} {Q : VK} {x : V} {k : Key} (h1 : ∀ G R, R x G -> tk σ G R) (hk : x = kV k) (h : ∀ p b G, H p = none -> H b = none -> b ≠ p -> Same H G -> G p = some (.dK [(k, .ref b)]) -> G b = some (.lst []) -> Q (.ref p) G) : a1A [(tk, u4 b7)] σ H Q := by
  intro p hp
  refine h1 _ _ ⟨few rfl, new_u λ b hb => ⟨?_, [(k, .ref b)], by rw [hk]; rfl, by show 1 <= 15; decide, ?_⟩⟩
  . rw [b4 λ z => by rw [<- z, b6] at hb; cases hb]
    exact b6
  have nb : b ≠ p := λ z => by
    rw [z, b6] at hb
    cases hb
  have hb' : H b = none := by
    rw [b4 nb] at hb
    exact hb
  have e : U8 [] [(k, V.ref b)] = [(k, V.ref b)] := by
    show y0 [] k _ = _
    rw [a0k _ rfl]
    rfl
  rw [e]
  refine h p b _ hp hb' nb (λ c o q => ?_) b6 ?_
  . rw [b4 (b8 q hp), b4 (b8 q hb'), b4 (b8 q hp)]
    exact q
  . rw [b4 nb]
    exact b6
theorem getK_i {p : Addr} {y v : V} {k : Key} {kvs : List (Key × V)} {H : Hp} {Q : VK} (h : Rd H p (.dK kvs)) (hk : N5 y = some k) (hv : A6 kvs k = some v) (q : Q v H) : j9 (.ref p) y H Q := by
  unfold j9
  rcases h with h | ⟨o, h⟩
  . have : X6 H p y = some (some v) := by
      unfold X6
      simp only [h, hk, Option.map_some, hv]
    simp only [h, this]
    exact q
  . have : X6 H p y = some (some v) := by
      unfold X6
      simp only [h, hk, Option.map_some, hv]
    simp only [h, this]
    exact q
theorem setK_i {p : Addr} {i v : V} {k : Key} {kvs : List (Key × V)} {H : Hp} {Q : Hp -> Prop} (h : H p = some (.dK kvs)) (hk : N5 i = some k) (hz : kvs.length < sizeLine) (q : Q (upd H p (.dK (y0 kvs k v)))) : T4 (.ref p) i v H Q := by
  unfold T4
  simp only [h, hk]
  exact ⟨hz, q⟩
theorem setL_i {p : Addr} {i : Int} {v : V} {j : Nat} {xs : List V} {H : Hp} {Q : Hp -> Prop} (h : H p = some (.lst xs)) (hj : ixN xs.length i = some j) (q : Q (upd H p (.lst (xs.set j v)))) : T4 (.ref p) (.int i) v H Q := by
  unfold T4
  simp only [h, hj]
  exact q
theorem iterD_i {a : Addr} {kvs : List (Key × V)} {H : Hp} {R : It -> Hp -> Th -> Prop} (h : H a = some (.dK kvs)) (q : ∀ o, R (Itd a o kvs) (upd H a (.frz o (.dK kvs))) (some (a, .dK kvs))) : w5 (.ref a) H R := by
  unfold w5
  simp only [h]
  exact q
theorem items_i {a : Addr} {kvs : List (Key × V)} {H : Hp} {R : It -> Hp -> Th -> Prop} (h : H a = some (.dK kvs)) (q : ∀ o, R (Itp a o kvs) (upd H a (.frz o (.dK kvs))) (some (a, .dK kvs))) : R3 (.ref a) H R := by
  unfold R3
  simp only [h]
  exact q
theorem listL_i {p : Addr} {ys : List V} {H : Hp} {Q : VK} (h : H p = some (.lst ys)) (q : newO H (.lst ys) Q) : C0 [.ref p] H Q := by
  unfold C0
  simp only [h]
  exact q
theorem a2Y {p : Addr} {kvs : List (Key × V)} {H : Hp} {Q : VK} (h : Rd H p (.dK kvs)) (q : newO H (.lst (kvs.map λ kv => kV kv.1)) Q) : C0 [.ref p] H Q := by
  unfold C0
  rcases h with h | ⟨o, h⟩
  . simp only [h]
    exact q
  . simp only [h]
    exact q
theorem listS_i {z : Str} {H : Hp} {Q : VK} (hz : z.length <= sizeLine) (q : newO H (.lst (z.cps.toList.map λ c => V.str ⟨#[c]⟩)) Q) : C0 [.str z] H Q := by
  unfold C0
  exact ⟨hz, q⟩
theorem lenT_i {p : Addr} {xs : List V} {H : Hp} {Q : VK} (h : H p = some (.tup xs)) (q : Q (.int xs.length) H) : lenH p H Q := by
  unfold lenH
  simp only [h]
  exact q
theorem inL_i {neg : Bool} {p : Addr} {x : V} {ys : List V} {es : List PyData} {d : PyData} {H : Hp} {Q : VK} (h : H p = some (.lst ys)) (he : rdAll H ys = some es) (hd : rdD 7 H x = some d) (q : Q (.bl (neg ^^ es.any λ e => PyData.eqv e d)) H) : inG neg x (.ref p) H Q := by
  unfold inG
  simp only [h, he, hd]
  exact q
theorem E4 {a : Addr} {xs : List V} {lo hi : Option Int} {H : Hp} {Q : VK} (h : H a = some (.lst xs)) (q : newO H (.lst (J9 xs lo hi)) Q) : slH a lo hi H Q := by
  unfold slH
  simp only [h]
  exact q
theorem loop_dic {a : Addr} {o : Obj} {kvs : List (Key × V)} {g : TG} {tb : TS} {D : Ends} {σ : St} {H : Hp} (Pv : Nat -> St -> Hp -> Prop) (h0 : Pv 0 σ H) (hl : ∀ i σ H, i <= kvs.length -> Pv i σ H -> H a = some (.frz o (.dK kvs)))
    (hs : ∀ i k v σ H, kvs[i]? = some (k, v) -> Pv i σ H -> g (kV k) σ H λ σ2 H2 => tb { D with nx := Pv (i + 1), ct := Pv (i + 1), bk := D.nx } σ2 H2) (hd : ∀ σ H, Pv kvs.length σ H -> D.nx σ H) : B8 (Itd a o kvs) g tb D σ H := by
  unfold B8
  refine ⟨λ i m σ H => m = kvs.length - i /\ i <= kvs.length /\ Pv i σ H, ⟨_, rfl, Nat.zero_le _, h0⟩, ?_⟩
  rintro i m σ H ⟨rfl, hi, p⟩
  have q := hl i σ H hi p
  by_cases hlt : i < kvs.length
  . refine .inr ⟨⟨q, hlt⟩, Pv (i + 1), λ σ' H' h => ⟨_, by omega, rfl, hlt, h⟩, ?_⟩
    rintro x H' ⟨rfl, k, v, hx, rfl⟩
    exact hs i k v σ _ hx p
  . have e : i = kvs.length := by omega
    subst e
    exact .inl ⟨⟨q, Nat.le_refl _⟩, hd σ H p⟩
theorem loop_itm {a : Addr} {o : Obj} {kvs : List (Key × V)} {g : TG} {tb : TS} {D : Ends} {σ : St} {H : Hp} (Pv : Nat -> St -> Hp -> Prop) (h0 : Pv 0 σ H) (hl : ∀ i σ H, i <= kvs.length -> Pv i σ H -> H a = some (.frz o (.dK kvs)))
    (hs : ∀ i k v t σ H G, kvs[i]? = some (k, v) -> Pv i σ H -> H t = none -> Same H G -> G t = some (.tup [kV k, v]) -> G = upd H t (.tup [kV k, v]) -> g (.ref t) σ G λ σ2 H2 => tb { D with nx := Pv (i + 1), ct := Pv (i + 1), bk := D.nx } σ2 H2) (hd : ∀ σ H, Pv kvs.length σ H -> D.nx σ H) : B8 (Itp a o kvs) g tb D σ H := by
  unfold B8
  refine ⟨λ i m σ H => m = kvs.length - i /\ i <= kvs.length /\ Pv i σ H, ⟨_, rfl, Nat.zero_le _, h0⟩, ?_⟩
  rintro i m σ H ⟨rfl, hi, p⟩
  have q := hl i σ H hi p
  by_cases hlt : i < kvs.length
  . refine .inr ⟨⟨q, hlt⟩, Pv (i + 1), λ σ' H' h => ⟨_, by omega, rfl, hlt, h⟩, ?_⟩
    rintro x H' ⟨k, v, t, hx, rfl, ht, rfl⟩
    exact hs i k v t σ H _ hx p ht (z9 ht) b6 rfl
  . have e : i = kvs.length := by omega
    subst e
    exact .inl ⟨⟨q, Nat.le_refl _⟩, hd σ H p⟩
theorem a1Z {H G : Hp} {a : Addr} {u f : HO} (h : H a = some u) (s : Same (upd H a f) G) : Same H (upd G a u) := λ b o e => by
  by_cases z : b = a
  . subst z
    rw [h] at e
    cases e
    exact b6
  . rw [b4 z]
    exact s b o (by rw [b4 z]; exact e)
theorem frz_free {H : Hp} {a p : Addr} {f : HO} (h : upd H a f p = none) : H p = none /\ p ≠ a := by
  by_cases z : p = a
  . subst z
    rw [b6] at h
    cases h
  . rw [b4 z] at h
    exact ⟨h, z⟩
def SameX (x : Addr) (H G : Hp) : Prop := ∀ b o, b ≠ x -> H b = some o -> G b = some o
theorem SameX.trans {x : Addr} {H G J : Hp} (a : SameX x H G) (b : SameX x G J) : SameX x H J := λ c o n e => b c o n (a c o n e)
theorem same_x {x : Addr} {H G : Hp} (s : Same H G) : SameX x H G := λ b o _ e => s b o e
theorem W4 {x : Addr} {H : Hp} {o : HO} : SameX x H (upd H x o) := λ b u n e => by
  rw [b4 n]
  exact e
end Tv
namespace Tv
open PySem PySem.Spec PyProof.Rows L2
abbrev sts (zs : List Str) : List V := zs.map V.str
theorem i5 : ∀ zs : List Str, R1 (sts zs) = some zs
  | [] => rfl
  | z :: r => by
    rw [sts, List.map_cons]
    show (match R1 (sts r) with | some l => some (z :: l) | none => none) = _
    rw [i5 r]
theorem rd_strs (n : Nat) (H : Hp) : ∀ zs : List Str, (sts zs).mapM (rdD n H) = some (zs.map PyData.str)
  | [] => by simp
  | z :: r => by
    rw [sts, List.map_cons, mapM_cons]
    have : rdD n H (.str z) = some (.str z) := by cases n <;> rfl
    rw [this, Option.bind_some, show (r.map V.str).mapM (rdD n H) = some (r.map PyData.str) from rd_strs n H r]
    rfl
theorem any_str (zs : List Str) (z : Str) : ((zs.map PyData.str).any λ e => PyData.eqv e (.str z)) = decide (z ∈ zs) := by
  induction zs with
  | nil => simp
  | cons a r ih =>
    rw [List.map_cons, List.any_cons, ih, show PyData.eqv (.str a) (.str z) = (a == z) from rfl]
    by_cases h : a = z
    . subst h
      simp
    . have : ¬ z = a := λ e => h e.symm
      simp [h, this]
theorem inS_i {neg : Bool} {p : Addr} {z : Str} {zs : List Str} {H : Hp} {Q : VK} (h : H p = some (.lst (sts zs))) (q : Q (.bl (neg ^^ decide (z ∈ zs))) H) : inG neg (.str z) (.ref p) H Q :=
  inL_i h (rd_strs 7 H zs) rfl (by rw [any_str]; exact q)
theorem atS {zs : List Str} {j : Nat} {z : Str} (h : zs[j]? = some z) : atI (sts zs) (j : Int) = some (.str z) := K0 (by simp [h])
theorem J1 {z : Str} (h : Q3 z = true) : 1 <= z.length /\ z.length <= 8 /\ z ≠ "all" := by
  unfold Q3 at h
  simp only [Bool.and_eq_true, decide_eq_true_eq, Bool.not_eq_true', beq_eq_false_iff_ne] at h
  exact ⟨h.1.1.1, h.1.1.2, h.1.2⟩
def Nms (zs : List Str) : Prop := (∀ z ∈ zs, Q3 z = true) /\ zs.Nodup
def i8 : Sp := λ vs H Q _ => ∃ z : Str, vs = [.str z] /\ z.length <= 1000 /\ ∀ H', Same H H' -> Q (.str z) H'
def B3 : TS :=
  (g8 (y4 "join" (tC (.str "")) (a8 (tCB C0 (a8 (gv 0) b7)) b7)))
theorem a0N : ∀ l : List Nat, (Str.join "" (l.map λ c => (⟨#[c]⟩ : Str))).cps.toList = l
  | [] => rfl
  | [c] => rfl
  | c :: d :: r => by
    have ih := a0N (d :: r)
    rw [List.map_cons] at ih ⊢
    show ((⟨#[c]⟩ : Str) ++ "" ++ Str.join "" ((d :: r).map λ c => (⟨#[c]⟩ : Str))).cps.toList = _
    rw [F6, F6]
    rw [List.map_cons, ih]
    rfl
theorem T6 {a b : Str} (h : a.cps.toList = b.cps.toList) : a = b := by
  obtain ⟨⟨l⟩⟩ := a
  obtain ⟨⟨m⟩⟩ := b
  simp at h
  subst h
  rfl
theorem a4f (z : Str) : Txt.join "" (z.cps.toList.map λ c => (⟨#[c]⟩ : Str)) = z := by
  show Builtin.Str.glued _ _ = _
  rw [StrLaws.glued_eq_join]
  exact T6 (a0N _)
theorem a0O : ∀ l : List Nat, ((l.map λ c => (⟨#[c]⟩ : Str)).map (·.length)).sum = l.length
  | [] => rfl
  | c :: r => by
    rw [List.map_cons, List.map_cons, List.sum_cons, a0O r, List.length_cons]
    show 1 + _ = _
    omega
theorem a2Z {z : Str} {H : Hp} {D : Ends} (hz : z.length <= 1000) (q : ∀ H', Same H H' -> D.rt (.str z) H') : B3 D [some (.str z)] H := by
  have hs := sz
  refine B0 (listS_i (by omega) (c7 λ p G n s h => ?_))
  have e : (z.cps.toList.map λ c => V.str ⟨#[c]⟩) = sts (z.cps.toList.map λ c => (⟨#[c]⟩ : Str)) := by rw [sts, List.map_map]; rfl
  rw [e] at h
  refine z7 h (i5 _) ?_ ?_
  . rw [a0O]
    have e0 : ("" : Str).length = 0 := rfl
    have : z.cps.toList.length = z.length := by rw [Array.length_toList]; rfl
    rw [e0, Nat.mul_zero]
    omega
  . rw [a4f]
    exact q G s
def g7 : Sp := λ vs H Q _ => ∃ (z : Str) (l : Addr) (ys : List Str), vs = [.str z, .ref l] /\ H l = some (.lst (sts ys)) /\ Q3 z = true /\ z ∉ ys /\ ∀ H', Same H H' -> Q (.str z) H'
def O2 : TS :=
  (c8 (sIf (J7 (ptG (g5 K6 [] E0 (a8 (gv 0) b7))))
    xS
    g0)
  (c8 (e9 (g5 i8 [] E0 (a8 (gv 0) b7)) (b9 2))
  (c8 (sIf (bT (tOp (inG false) (gv 2) (gv 1)))
    xS
    g0)
  (g8 (gv 2)))))
theorem a0P {z : Str} {l : Addr} {ys : List Str} {H : Hp} {D : Ends} (hl : H l = some (.lst (sts ys))) (hz : Q3 z = true) (hn : z ∉ ys) (q : ∀ H', Same H H' -> D.rt (.str z) H') : O2 D [some (.str z), some (.ref l), none] H := by
  have hs := sz
  obtain ⟨h1, h8, _⟩ := J1 hz
  refine ⟨.str z, _, rfl, rfl, λ y e => (by cases e; omega), λ G1 s1 => ?_⟩
  refine y9 (by rw [show Y1 (.str z) = true from hz]; rfl) ?_
  refine ⟨z, rfl, by omega, λ G2 s2 => ?_⟩
  refine inS_i (s2 _ _ (s1 _ _ hl)) ?_
  exact y9 (by rw [decide_eq_false hn]; rfl) (q G2 (s1.trans s2))
def m5 : Sp := λ vs H Q _ => ∃ (z : Str) (l : Addr) (ys : List Str), vs = [.str z, .ref l] /\ H l = some (.lst (sts ys)) /\ z.length <= 8 /\ (z = "all" \/ z ∈ ys) /\ ∀ H', Same H H' -> Q (.str z) H'
def M2 : TS :=
  (c8 (sIf (J7 (ptG (tCB V3 (a8 (gv 0) (a8 (tC (.ty "str")) b7)))))
    xS
    g0)
  (c8 (e9 (g5 i8 [] E0 (a8 (gv 0) b7)) (b9 2))
  (c8 (sIf (tAndB (bT (tOp neG (gv 2) (tC (.str "all")))) (bT (tOp (inG true) (gv 2) (gv 1))))
    xS
    g0)
  (g8 (gv 2)))))
theorem Y8 {z : Str} {l : Addr} {ys : List Str} {H : Hp} {D : Ends} (hl : H l = some (.lst (sts ys))) (hz : z.length <= 8) (hn : z = "all" \/ z ∈ ys) (q : ∀ H', Same H H' -> D.rt (.str z) H') : M2 D [some (.str z), some (.ref l), none] H := by
  refine E3 rfl rfl (y9 rfl ?_)
  refine ⟨z, rfl, by omega, λ G2 s2 => ?_⟩
  refine i9 (λ h => ?_) (λ h => y9 rfl (q G2 s2))
  refine inS_i (s2 _ _ hl) ?_
  have h : (!(z == ("all" : Str))) = true := h
  have hm : z ∈ ys := by
    rcases hn with rfl | hn
    . simp at h
    . exact hn
  exact y9 (by rw [decide_eq_true hm]; rfl) (q G2 s2)
def j7 : Sp := λ vs H Q _ => ∃ (c : Addr) (cs : List Str), vs = [.ref c] /\ H c = some (.lst (sts cs)) /\ Nms cs /\ 1 <= cs.length /\ cs.length <= 8 /\ ∀ p H', Same H H' -> H p = none -> H' p = some (.lst (sts cs)) -> Q (.ref p) H'
def E5 : TS :=
  (c8 (sIf (V1 (J7 (ptG (tCB V3 (a8 (gv 0) (a8 (tC (.ty "list")) b7))))) (J7 (bT (K4 leG leG (tC (.int 1)) (tCB x4 (a8 (gv 0) b7)) (tC (.int 8))))))
    xS
    g0)
  (c8 (e9 (u4 b7) (b9 1))
  (c8 (N7 (iOf w5 (gv 0)) (b9 2)
    (F3 (y4 "append" (gv 1) (a8 (g5 g7 [] E0 (a8 (gv 2) (a8 (gv 1) b7))) b7))))
  (g8 (gv 1)))))
theorem Z9 {α : Type} {xs : List α} (h : xs.Nodup) {i : Nat} {x : α} (hx : xs[i]? = some x) : x ∉ xs.take i := by
  intro m
  obtain ⟨j, hj, e⟩ := List.mem_iff_getElem.mp m
  have hi := (List.getElem?_eq_some_iff.mp hx).1
  rw [List.length_take] at hj
  rw [List.getElem_take] at e
  have e2 : xs[i] = x := (List.getElem?_eq_some_iff.mp hx).2
  have hp := List.pairwise_iff_getElem.mp h j i (by omega) hi (by omega)
  exact hp (e.trans e2.symm)
theorem h7 {α : Type} {xs : List α} {i : Nat} {x : α} (hx : xs[i]? = some x) : xs.take (i + 1) = xs.take i ++ [x] := by
  rw [List.take_succ, hx]
  rfl
theorem a0a {a b : Int} (h : a <= b) : decide (a <= b) = true := decide_eq_true h
theorem K7 {zs : List Str} {i : Nat} {x : V} (h : (sts zs)[i]? = some x) : ∃ z, zs[i]? = some z /\ x = .str z := by
  rw [sts, List.getElem?_map] at h
  cases e : zs[i]? with
  | none => rw [e] at h; cases h
  | some z => rw [e] at h; cases h; exact ⟨z, rfl, rfl⟩
theorem T7 (zs : List Str) (z : Str) : sts zs ++ [.str z] = sts (zs ++ [z]) := by simp [sts]
theorem T8 {c : Addr} {cs : List Str} {H : Hp} {D : Ends} (hc : H c = some (.lst (sts cs))) (hn : Nms cs) (h1 : 1 <= cs.length) (h8 : cs.length <= 8) (q : ∀ p H', Same H H' -> H p = none -> H' p = some (.lst (sts cs)) -> D.rt (.ref p) H') : E5 D [some (.ref c), none, none] H := by
  have hs := sz
  refine E3 rfl (a0M hc) (y9 rfl ?_)
  refine k7 hc ?_
  rw [show (sts cs).length = cs.length from List.length_map ..]
  refine u0 (a0a (by omega)) ?_
  refine y9 (by rw [a0a (by omega)]; rfl) ?_
  refine ⟨few rfl, c7 λ p G1 n1 s1 t1 => ?_⟩
  refine B9 (Z8 (s1 _ _ hc) (a0K (xs := sts cs) (λ i σ G => Same H G /\ G p = some (.lst (sts (cs.take i))) /\ ∃ v, σ = [some (.ref c), some (.ref p), v]) ⟨s1, t1, _, rfl⟩ (λ i σ G _ h => h.1 _ _ hc) ?_ ?_))
  . rintro i x σ G hx ⟨sm, hg, v, rfl⟩
    obtain ⟨z, hz, rfl⟩ := K7 hx
    refine a1Y hg ⟨z, p, _, rfl, hg, hn.1 z (List.mem_of_getElem? hz), Z9 hn.2 hz, λ G2 s2 => ?_⟩
    refine a2X (s2 _ _ hg) (by simp; omega) ⟨(sm.trans s2).put n1, ?_, _, rfl⟩
    rw [b6, T7, h7 hz]
  . rintro σ G ⟨sm, hg, v, rfl⟩
    rw [show (sts cs).length = cs.length from List.length_map .., List.take_length] at hg
    exact q p G sm n1 hg
def PairsAt (H : Hp) (xs : List V) (ps : List (Str × Str)) : Prop := xs.length = ps.length /\ ∀ (i : Nat) q, ps[i]? = some q -> ∃ t, xs[i]? = some (.ref t) /\ H t = some (.tup [.str q.1, .str q.2])
theorem PairsAt.same {H G : Hp} {xs : List V} {ps : List (Str × Str)} (h : PairsAt H xs ps) (s : Same H G) : PairsAt G xs ps := ⟨h.1, λ i q e => by
  obtain ⟨t, e1, e2⟩ := h.2 i q e
  exact ⟨t, e1, s _ _ e2⟩⟩
theorem PairsAt.at {H : Hp} {xs : List V} {ps : List (Str × Str)} (h : PairsAt H xs ps) {i : Nat} {x : V} (hx : xs[i]? = some x) : ∃ q t, ps[i]? = some q /\ x = .ref t /\ H t = some (.tup [.str q.1, .str q.2]) := by
  have hi := (List.getElem?_eq_some_iff.mp hx).1
  rw [h.1] at hi
  obtain ⟨t, e1, e2⟩ := h.2 i ps[i] (by simp [hi])
  rw [hx] at e1
  cases e1
  exact ⟨ps[i], t, by simp [hi], rfl, e2⟩
structure Good (ps : List (Str × Str)) : Prop where
  one : 1 <= ps.length
  many : ps.length <= 24
  nms : Nms (ps.map (·.1))
  abv : ∀ (i : Nat) q, ps[i]? = some q -> q.2 = "all" \/ q.2 ∈ (ps.take i).map (·.1)
def C3 (ps : List (Str × Str)) : List (Key × V) := ps.map λ q => (.inr q.1, .str q.2)
theorem a0Q (ps : List (Str × Str)) : ((C3 ps).map λ kv => kV kv.1) = sts (ps.map (·.1)) := by
  unfold C3
  rw [sts, List.map_map, List.map_map]
  rfl
theorem abv_none {ps : List (Str × Str)} {n : Str} (h : n ∉ ps.map (·.1)) : A6 (C3 ps) (Sum.inr n) = none := by
  induction ps with
  | nil => rfl
  | cons a r ih =>
    unfold C3
    rw [List.map_cons] at h ⊢
    rw [F5 (λ e => h (by
      have : a.1 = n := by injection e
      rw [this]
      simp))]
    exact ih λ m => h (List.mem_cons_of_mem _ m)
theorem O3 {ps : List (Str × Str)} {i : Nat} {q : Str × Str} (h : ps[i]? = some q) : (ps.map (·.1))[i]? = some q.1 := by simp [h]
theorem Good.len2 {ps : List (Str × Str)} (g : Good ps) {i : Nat} {q : Str × Str} (h : ps[i]? = some q) : q.2.length <= 8 := by
  rcases g.abv i q h with e | m
  . rw [e]
    decide
  . have : q.2 ∈ ps.map (·.1) := by
      obtain ⟨r, hr, e⟩ := List.mem_map.mp m
      exact List.mem_map.mpr ⟨r, List.mem_of_mem_take hr, e⟩
    exact (J1 (g.nms.1 _ this)).2.1
def m6 : Sp := λ vs H Q _ => ∃ (p : Addr) (xs : List V) (ps : List (Str × Str)), vs = [.ref p] /\ H p = some (.lst xs) /\ PairsAt H xs ps /\ Good ps /\ ∀ a H', Same H H' -> H a = none -> H' a = some (.dK (C3 ps)) -> Q (.ref a) H'
def M3 : TS :=
  (c8 (sIf (V1 (J7 (ptG (tCB V3 (a8 (gv 0) (a8 (tC (.ty "list")) b7))))) (J7 (bT (K4 leG leG (tC (.int 1)) (tCB x4 (a8 (gv 0) b7)) (tC (.int 24))))))
    xS
    g0)
  (c8 (e9 a1R (b9 1))
  (c8 (N7 (iOf w5 (gv 0)) (b9 2)
    (c8 (sIf (V1 (J7 (ptG (tCB V3 (a8 (gv 2) (a8 (tC (.ty "tuple")) b7))))) (bT (tOp neG (tCB x4 (a8 (gv 2) b7)) (tC (.int 2)))))
      xS
      g0)
    (c8 (e9 (g5 g7 [] E0 (a8 (tOp j9 (gv 2) (tC (.int 0))) (a8 (tCB C0 (a8 (gv 1) b7)) b7))) (b9 3))
    (c8 (e9 (g5 m5 [] E0 (a8 (tOp j9 (gv 2) (tC (.int 1))) (a8 (tCB C0 (a8 (gv 1) b7)) b7))) (b9 4))
    (e9 (gv 4) (gSub (gv 1) (gv 3) T4))))))
  (g8 (gv 1)))))
theorem Y9 {p : Addr} {xs : List V} {ps : List (Str × Str)} {H : Hp} {D : Ends} (hp : H p = some (.lst xs)) (hx : PairsAt H xs ps) (g : Good ps) (q : ∀ a H', Same H H' -> H a = none -> H' a = some (.dK (C3 ps)) -> D.rt (.ref a) H') : M3 D [some (.ref p), none, none, none, none] H := by
  have hs := sz
  have g1 := g.one
  have g2 := g.many
  refine E3 rfl (a0M hp) (y9 rfl ?_)
  refine k7 hp ?_
  rw [hx.1]
  refine u0 (a0a (by omega)) ?_
  refine y9 (by rw [a0a (by omega)]; rfl) ?_
  refine .inl (c7 λ a G1 n1 s1 t1 => ?_)
  refine B9 (Z8 (s1 _ _ hp) (a0K (xs := xs) (λ i σ G => Same H G /\ G a = some (.dK (C3 (ps.take i))) /\ ∃ u v w, σ = [some (.ref p), some (.ref a), u, v, w]) ⟨s1, t1, _, _, _, rfl⟩ (λ i σ G _ h => h.1 _ _ hp) ?_ ?_))
  . rintro i x σ G hxi ⟨sm, hg, u, v, w, rfl⟩
    obtain ⟨r, t, hr, rfl, ht⟩ := hx.at hxi
    replace ht := sm _ _ ht
    refine E3 rfl (a4e ht) (y9 rfl ?_)
    refine lenT_i ht ?_
    refine y9 rfl ?_
    refine getT_i ht (v := .str r.1) rfl ?_
    refine a2Y (.inl hg) (c7 λ l G2 n2 s2 t2 => ?_)
    rw [a0Q] at t2
    refine ⟨r.1, l, _, rfl, t2, g.nms.1 _ (List.mem_of_getElem? (O3 hr)), ?_, λ G3 s3 => ?_⟩
    . rw [List.map_take]
      exact Z9 g.nms.2 (O3 hr)
    have s23 := s2.trans s3
    refine getT_i (s23 _ _ ht) (v := .str r.2) rfl ?_
    refine a2Y (.inl (s23 _ _ hg)) (c7 λ l' G4 n4 s4 t4 => ?_)
    rw [a0Q] at t4
    refine ⟨r.2, l', _, rfl, t4, g.len2 hr, g.abv i r hr, λ G5 s5 => ?_⟩
    have s25 := (s23.trans s4).trans s5
    have hno : A6 (C3 (ps.take i)) (Sum.inr r.1) = none := abv_none (by
      rw [List.map_take]
      exact Z9 g.nms.2 (O3 hr))
    refine setK_i (s25 _ _ hg) (k := Sum.inr r.1) rfl ?_ ⟨(sm.trans s25).put n1, ?_, _, _, _, rfl⟩
    . have : (C3 (ps.take i)).length <= ps.length := by
        unfold C3
        rw [List.length_map, List.length_take]
        omega
      omega
    . rw [b6, a0k _ hno, h7 hr]
      unfold C3
      rw [List.map_append]
      rfl
  . rintro σ G ⟨sm, hg, u, v, w, rfl⟩
    rw [hx.1, List.take_length] at hg
    exact q a G sm n1 hg
end Tv
namespace Tv
open PySem PySem.Spec PyProof.Rows L2
theorem a4g {H G : Hp} {a : Addr} {f : HO} (s : Same H G) : Same (upd H a f) (upd G a f) := λ b o e => by
  by_cases z : b = a
  . subst z
    rw [b6] at e ⊢
    exact e
  . rw [b4 z] at e ⊢
    exact s b o e
def J2 (ps : List (Str × Str)) (k : Str) : List Str := (ps.filter λ q => q.2 == k).map (·.1)
theorem a5i (ps : List (Str × Str)) (q : Str × Str) (k : Str) : J2 (ps ++ [q]) k = J2 ps k ++ if q.2 = k then [q.1] else [] := by
  unfold J2
  rw [List.filter_append, List.map_append]
  congr 1
  by_cases h : q.2 = k <;> simp [h]
def benD (ks : List Str) (bs : List Addr) : List (Key × V) := (ks.zip bs).map λ e => (Sum.inr e.1, V.ref e.2)
structure Ben (G : Hp) (b : Addr) (bs : List Addr) (ks : List Str) (f : Str -> List Str) : Prop where
  len : bs.length = ks.length
  nd : bs.Nodup
  d : G b = some (.dK (benD ks bs))
  l : ∀ (i : Nat) k a, ks[i]? = some k -> bs[i]? = some a -> G a = some (.lst (sts (f k)))
theorem val_zip : ∀ {ks : List Str} {bs : List Addr} {j : Nat} {k : Str} {c : Addr}, ks.Nodup -> ks[j]? = some k -> bs[j]? = some c -> A6 (benD ks bs) (Sum.inr k) = some (.ref c)
  | [], bs, j, k, c, _, h, _ => by simp at h
  | _ :: _, [], j, k, c, _, _, h => by simp at h
  | a :: ks, b :: bs, 0, k, c, _, h1, h2 => by
    simp at h1 h2
    subst h1 h2
    exact S5 rfl
  | a :: ks, b :: bs, j + 1, k, c, hn, h1, h2 => by
    obtain ⟨n1, n2⟩ := List.nodup_cons.mp hn
    have h1' : ks[j]? = some k := by simpa using h1
    have h2' : bs[j]? = some c := by simpa using h2
    show A6 ((Sum.inr a, V.ref b) :: benD ks bs) (Sum.inr k) = _
    rw [F5]
    . exact val_zip n2 h1' h2'
    . intro e
      have : a = k := by injection e
      subst this
      exact n1 (List.mem_of_getElem? h1')
theorem ben_none {ks : List Str} {bs : List Addr} {k : Str} (h : k ∉ ks) : A6 (benD ks bs) (Sum.inr k) = none := by
  induction ks generalizing bs with
  | nil => rfl
  | cons a r ih =>
    cases bs with
    | nil => rfl
    | cons b bs =>
      show A6 ((Sum.inr a, V.ref b) :: benD r bs) (Sum.inr k) = none
      rw [F5 (λ e => h (by
        have : a = k := by injection e
        rw [this]
        simp))]
      exact ih λ m => h (List.mem_cons_of_mem _ m)
theorem benD_len (ks : List Str) (bs : List Addr) : (benD ks bs).length <= ks.length := by
  unfold benD
  rw [List.length_map, List.length_zip]
  omega
theorem benD_snoc {ks : List Str} {bs : List Addr} (k : Str) (b : Addr) (h : bs.length = ks.length) : benD (ks ++ [k]) (bs ++ [b]) = benD ks bs ++ [(Sum.inr k, V.ref b)] := by
  unfold benD
  rw [List.zip_append h.symm, List.map_append]
  rfl
theorem Ben.to {G G' : Hp} {b : Addr} {bs : List Addr} {ks : List Str} {f : Str -> List Str} (h : Ben G b bs ks f) (hb : G' b = G b) (hl : ∀ c ∈ bs, G' c = G c) : Ben G' b bs ks f :=
  ⟨h.len, h.nd, by rw [hb]; exact h.d, λ i k a e1 e2 => by rw [hl a (List.mem_of_getElem? e2)]; exact h.l i k a e1 e2⟩
theorem Ben.same {G G' : Hp} {b : Addr} {bs : List Addr} {ks : List Str} {f : Str -> List Str} (h : Ben G b bs ks f) (s : Same G G') : Ben G' b bs ks f :=
  ⟨h.len, h.nd, s _ _ h.d, λ i k a e1 e2 => s _ _ (h.l i k a e1 e2)⟩
theorem Ben.congr {G : Hp} {b : Addr} {bs : List Addr} {ks : List Str} {f f' : Str -> List Str} (h : Ben G b bs ks f) (e : ∀ k ∈ ks, f k = f' k) : Ben G b bs ks f' :=
  ⟨h.len, h.nd, h.d, λ i k a e1 e2 => by rw [<- e k (List.mem_of_getElem? e1)]; exact h.l i k a e1 e2⟩
theorem Ben.get {G : Hp} {b : Addr} {bs : List Addr} {ks : List Str} {f : Str -> List Str} (h : Ben G b bs ks f) (hn : ks.Nodup) {k : Str} (hk : k ∈ ks) : ∃ (j : Nat) (c : Addr), ks[j]? = some k /\ bs[j]? = some c /\ A6 (benD ks bs) (Sum.inr k) = some (.ref c) /\ G c = some (.lst (sts (f k))) := by
  obtain ⟨j, hj⟩ := List.mem_iff_getElem?.mp hk
  have hl := (List.getElem?_eq_some_iff.mp hj).1
  obtain ⟨c, hc⟩ : ∃ c, bs[j]? = some c := ⟨bs[j]'(by rw [h.len]; exact hl), by simp [h.len, hl]⟩
  exact ⟨j, c, hj, hc, val_zip hn hj hc, h.l j k c hj hc⟩
theorem Ben.app {G : Hp} {b : Addr} {bs : List Addr} {ks : List Str} {f : Str -> List Str} (h : Ben G b bs ks f) (hn : ks.Nodup) {k n : Str} {j : Nat} {c : Addr} (hj : ks[j]? = some k) (hc : bs[j]? = some c) :
    Ben (upd G c (.lst (sts (f k) ++ [.str n]))) b bs ks (λ x => f x ++ if k = x then [n] else []) := by
  refine ⟨h.len, h.nd, ?_, λ i x a e1 e2 => ?_⟩
  . have hg := h.l j k c hj hc
    rw [b4 λ z => by rw [<- z, h.d] at hg; cases hg]
    exact h.d
  . by_cases hi : i = j
    . subst hi
      rw [hj] at e1
      rw [hc] at e2
      cases e1
      cases e2
      rw [b6, if_pos rfl, T7]
    . have li := (List.getElem?_eq_some_iff.mp e1).1
      have lj := (List.getElem?_eq_some_iff.mp hj).1
      have nx : k ≠ x := λ z => by
        subst z
        exact hi (nd_inj hn e1 hj)
      have na : a ≠ c := λ z => by
        subst z
        exact hi (nd_inj h.nd e2 hc)
      rw [b4 na, if_neg nx, List.append_nil]
      exact h.l i x a e1 e2
where
  nd_inj {α : Type} {xs : List α} (h : xs.Nodup) {i j : Nat} {x : α} (hi : xs[i]? = some x) (hj : xs[j]? = some x) : i = j := by
    rcases Nat.lt_trichotomy i j with l | l | l
    . have e1 := List.getElem?_eq_some_iff.mp hi
      have e2 := List.getElem?_eq_some_iff.mp hj
      exact absurd (e1.2.trans e2.2.symm) (List.pairwise_iff_getElem.mp h i j e1.1 e2.1 l)
    . exact l
    . have e1 := List.getElem?_eq_some_iff.mp hi
      have e2 := List.getElem?_eq_some_iff.mp hj
      exact absurd (e2.2.trans e1.2.symm) (List.pairwise_iff_getElem.mp h j i e2.1 e1.1 l)
def y7 (ps : List (Str × Str)) : List Str := "all" :: ps.map (·.1)
theorem Good.keys {ps : List (Str × Str)} (g : Good ps) : (y7 ps).Nodup := List.nodup_cons.mpr ⟨λ m => (J1 (g.nms.1 _ m)).2.2 rfl, g.nms.2⟩
theorem Good.abvIn {ps : List (Str × Str)} (g : Good ps) {i : Nat} {q : Str × Str} (h : ps[i]? = some q) : q.2 ∈ y7 ps := by
  rcases g.abv i q h with e | m
  . rw [e]
    exact List.mem_cons_self ..
  . obtain ⟨r, hr, e⟩ := List.mem_map.mp m
    exact List.mem_cons_of_mem _ (List.mem_map.mpr ⟨r, List.mem_of_mem_take hr, e⟩)
theorem below_len (ps : List (Str × Str)) (k : Str) : (J2 ps k).length <= ps.length := by
  unfold J2
  rw [List.length_map]
  exact List.length_filter_le ..
def v6 : Sp := λ vs H Q _ => ∃ (a : Addr) (ps : List (Str × Str)), vs = [.ref a] /\ H a = some (.dK (C3 ps)) /\ Good ps /\ ∀ b bs H', Same H H' -> H b = none -> (∀ c ∈ bs, H c = none) -> Ben H' b bs (y7 ps) (J2 ps) -> Q (.ref b) H'
def O4 : TS :=
  (c8 (e9 (a1A [((tC (.str "all")), (u4 b7))]) (b9 1))
  (c8 (N7 (iOf w5 (gv 0)) (b9 2)
    (e9 (u4 b7) (gSub (gv 1) (gv 2) T4)))
  (c8 (N7 (iOf R3 (gv 0)) (X4 2 (P6 (b9 2) (P6 (b9 3) gNil)))
    (F3 (y4 "append" (tOp j9 (gv 1) (gv 3)) (a8 (gv 2) b7))))
  (g8 (gv 1)))))
theorem abv_at {ps : List (Str × Str)} {i : Nat} {k : Key} {v : V} (h : (C3 ps)[i]? = some (k, v)) : ∃ q, ps[i]? = some q /\ k = Sum.inr q.1 /\ v = .str q.2 := by
  unfold C3 at h
  rw [List.getElem?_map] at h
  cases e : ps[i]? with
  | none => rw [e] at h; cases h
  | some q => rw [e] at h; cases h; exact ⟨q, rfl, rfl, rfl⟩
theorem abv_len (ps : List (Str × Str)) : (C3 ps).length = ps.length := List.length_map ..
theorem a0S {a : Addr} {ps : List (Str × Str)} {H : Hp} {D : Ends} (ha : H a = some (.dK (C3 ps))) (g : Good ps) (q : ∀ b bs H', Same H H' -> H b = none -> (∀ c ∈ bs, H c = none) -> Ben H' b bs (y7 ps) (J2 ps) -> D.rt (.ref b) H') : O4 D [some (.ref a), none, none, none] H := by
  have hs := sz
  have g2 := g.many
  show e9 (a1A [(tC (.str "all"), u4 b7)]) (b9 1) _ _ _
  show a1A [(tC (.str "all"), u4 b7)] _ _ _
  refine dispL_i (tk := tC (.str "all")) (x := .str "all") (λ G R r => r) (k := Sum.inr "all") rfl λ b b0 G1 nb nb0 nbb s1 tb tb0 => ?_
  have ha1 := s1 _ _ ha
  refine B9 (iterD_i ha1 λ o => ?_)
  have nab : ∀ c, H c = none -> c ≠ a := λ c n z => by rw [z, ha] at n; cases n
  refine loop_dic (λ i σ G => Same (upd H a (.frz o (.dK (C3 ps)))) G /\ (∃ bs, Ben G b bs (y7 (ps.take i)) (λ _ => []) /\ ∀ c ∈ bs, H c = none) /\ ∃ u, σ = [some (.ref a), some (.ref b), u, none]) ⟨a4g s1, ⟨[b0], ⟨rfl, by simp, ?_, ?_⟩, by simpa using nb0⟩, _, rfl⟩ (λ i σ G _ h => h.1 _ _ b6) ?_ ?_
  . rw [b4 (nab b nb)]
    exact tb
  . intro i k c e1 e2
    match i, e1, e2 with
    | 0, _, e2 =>
      cases e2
      rw [b4 (nab b0 nb0)]
      exact tb0
    | i + 1, _, e2 => simp at e2
  . rintro i k v σ G hk ⟨sm, ⟨bs, bn, fr⟩, u, rfl⟩
    obtain ⟨r, hr, rfl, rfl⟩ := abv_at hk
    have hi := (List.getElem?_eq_some_iff.mp hr).1
    refine ⟨few rfl, c7 λ c G2 n2 s2 t2 => ?_⟩
    have hc : H c = none := (frz_free (sm.free n2)).1
    have hno : r.1 ∉ y7 (ps.take i) := by
      unfold y7
      rw [List.mem_cons]
      rintro (e | m)
      . exact (J1 (g.nms.1 _ (List.mem_of_getElem? (O3 hr)))).2.2 e
      . rw [List.map_take] at m
        exact Z9 g.nms.2 (O3 hr) m
    have hd := s2 _ _ bn.d
    have ncb : c ≠ b := λ z => by
      rw [z, bn.d] at n2
      cases n2
    refine setK_i hd (k := Sum.inr r.1) rfl ?_ ⟨?_, ⟨bs ++ [c], ⟨?_, ?_, ?_, ?_⟩, ?_⟩, _, rfl⟩
    . have := benD_len (y7 (ps.take i)) bs
      have e : (y7 (ps.take i)).length = (ps.take i).length + 1 := by
        unfold y7
        rw [List.length_cons, List.length_map]
      rw [List.length_take] at e
      omega
    . exact (sm.trans s2).put (by rw [b4 (nab b nb)]; exact nb)
    . unfold y7
      rw [h7 hr, List.map_append, List.length_append, bn.len]
      simp [y7]
    . refine nd_snoc bn.nd λ m => ?_
      obtain ⟨j, hj⟩ := List.mem_iff_getElem?.mp m
      have hl := (List.getElem?_eq_some_iff.mp hj).1
      rw [bn.len] at hl
      have := bn.l j _ c (by simp [hl]; rfl) hj
      rw [n2] at this
      cases this
    . rw [b6, a0k _ (ben_none hno), h7 hr]
      unfold y7
      rw [List.map_append, <- List.cons_append]
      exact congrArg (λ z => some (HO.dK z)) (benD_snoc r.1 c bn.len).symm
    . intro j k' c' e1 e2
      rw [h7 hr] at e1
      unfold y7 at e1
      rw [List.map_append, <- List.cons_append] at e1
      by_cases hj : j < bs.length
      . rw [List.getElem?_append_left hj] at e2
        rw [List.getElem?_append_left (by have := bn.len; unfold y7 at this; rw [<- this]; exact hj)] at e1
        have := bn.l j k' c' e1 e2
        have nb' : c' ≠ b := λ z => by
          rw [z, bn.d] at this
          cases this
        rw [b4 nb']
        exact s2 _ _ this
      . have hl := (List.getElem?_eq_some_iff.mp e2).1
        rw [List.length_append] at hl
        have : j = bs.length := by simp at hl; omega
        subst this
        simp at e2
        subst e2
        rw [b4 ncb]
        exact t2
    . intro c' m
      rcases List.mem_append.mp m with m | m
      . exact fr c' m
      . rw [List.mem_singleton.mp m]
        exact hc
  . rintro σ G ⟨sm, ⟨bs, bn, fr⟩, u, rfl⟩
    rw [abv_len, List.take_length] at bn
    refine ⟨⟨o, sm _ _ b6⟩, ?_⟩
    have bnT : ∀ x : HO, Ben (upd G a x) b bs (y7 ps) (λ _ => []) := λ x => bn.to (b4 (nab b nb)) λ c hc => b4 (nab c (fr c hc))
    refine B9 (items_i b6 λ o2 => ?_)
    rw [a2m]
    have sm0 : Same (upd H a (.frz o2 (.dK (C3 ps)))) (upd G a (.frz o2 (.dK (C3 ps)))) := by
      have := a4g (a := a) (f := .frz o2 (.dK (C3 ps))) (a1Z ha sm)
      rw [a2m] at this
      exact this
    refine loop_itm (λ i σ G => Same (upd H a (.frz o2 (.dK (C3 ps)))) G /\ Ben G b bs (y7 ps) (J2 (ps.take i)) /\ ∃ u v, σ = [some (.ref a), some (.ref b), u, v]) ⟨sm0, (bnT _).congr λ k _ => rfl, _, _, rfl⟩ (λ i σ G _ h => h.1 _ _ b6) ?_ ?_
    . rintro i k v t σ G3 G4 hk ⟨sm3, bn3, u, v, rfl⟩ nt s4 ht _
      obtain ⟨r, hr, rfl, rfl⟩ := abv_at hk
      replace bn3 := bn3.same s4
      replace sm3 := sm3.trans s4
      obtain ⟨j, c, hj, hc, hv, hl⟩ := bn3.get g.keys (g.abvIn hr)
      refine ⟨t, _, rfl, .inl ht, rfl, _, _, rfl, _, _, rfl, rfl, ?_⟩
      refine getK_i (.inl bn3.d) (k := Sum.inr r.2) rfl hv ?_
      refine a1Y hl (a2X hl ?_ ⟨sm3.put ?_, ?_, _, _, rfl⟩)
      . have := below_len (ps.take i) r.2
        rw [List.length_take] at this
        simp
        omega
      . have nc := fr c (List.mem_of_getElem? hc)
        rw [b4 (nab c nc)]
        exact nc
      . exact (bn3.app g.keys hj hc).congr λ k _ => by rw [h7 hr, a5i]
    . rintro σ G5 ⟨sm5, bn5, u, v, rfl⟩
      rw [abv_len, List.take_length] at bn5
      refine ⟨⟨o2, sm5 _ _ b6⟩, ?_⟩
      exact q b bs _ (a1Z ha sm5) nb fr (bn5.to (b4 (nab b nb)) λ c hc => b4 (nab c (fr c hc)))
def fsH (a c b : Addr) : List (Str × V) := [("above_of", .ref a), ("column_names", .ref c), ("beneath_of", .ref b)]
structure HouseAt (cl : Addr) (H : Hp) (x : Addr) (ps : List (Str × Str)) (cs : List Str) : Prop where
  mk ::
  good : Good ps
  nms : Nms cs
  one : 1 <= cs.length
  many : cs.length <= 8
  at' : ∃ dx a c b bs, H x = some (.ins cl dx (fsH a c b)) /\ H a = some (.dK (C3 ps)) /\ H c = some (.lst (sts cs)) /\ Ben H b bs (y7 ps) (J2 ps)
theorem HouseAt.same {cl : Addr} {H G : Hp} {x : Addr} {ps : List (Str × Str)} {cs : List Str} (h : HouseAt cl H x ps cs) (s : Same H G) : HouseAt cl G x ps cs := by
  obtain ⟨h1, h2, h3, h4, dx, a, c, b, bs, e1, e2, e3, e4⟩ := h
  exact ⟨h1, h2, h3, h4, dx, a, c, b, bs, s _ _ e1, s _ _ e2, s _ _ e3, e4.same s⟩
section
variable {cl : Addr}
def v0 (cl : Addr) : Sp := λ vs H Q _ => ∃ (x dx p c : Addr) (xs : List V) (ps : List (Str × Str)) (cs : List Str), vs = [.ref x, .ref p, .ref c] /\ H x = some (.ins cl dx []) /\ H p = some (.lst xs) /\ PairsAt H xs ps /\ Good ps ∧
  H c = some (.lst (sts cs)) /\ Nms cs /\ 1 <= cs.length /\ cs.length <= 8 /\ ∀ H', SameX x H H' -> (∀ G : Hp, (∀ b o, H b = none \/ b = x -> H' b = some o -> G b = some o) -> HouseAt cl G x ps cs) -> Q .non H'
def T9 (cl : Addr) : TS :=
  (c8 (sFldG cl "above_of" (gv 0) (g5 m6 [] E0 (a8 (gv 1) b7)))
  (c8 (sFldG cl "column_names" (gv 0) (g5 j7 [] E0 (a8 (gv 2) b7)))
  (sFldG cl "beneath_of" (gv 0) (g5 v6 [] E0 (a8 (tFldG cl "above_of" (gv 0)) b7)))))
theorem nx_of {H : Hp} {a x : Addr} {o u : HO} (h : H a = some o) (hx : H x = some u) (n : o ≠ u) : a ≠ x := λ z => by
  rw [z, hx] at h
  cases h
  exact n rfl
theorem a3a {x dx p c : Addr} {xs : List V} {ps : List (Str × Str)} {cs : List Str} {H : Hp} {Q : VK} (hx : H x = some (.ins cl dx [])) (hp : H p = some (.lst xs)) (pa : PairsAt H xs ps) (g : Good ps) (hc : H c = some (.lst (sts cs))) (hn : Nms cs) (h1 : 1 <= cs.length) (h8 : cs.length <= 8)
    (q : ∀ H', SameX x H H' -> (∀ G : Hp, (∀ b o, H b = none \/ b = x -> H' b = some o -> G b = some o) -> HouseAt cl G x ps cs) -> Q .non H') : T9 cl { nx := λ _ H' => Q .non H', rt := Q } [some (.ref x), some (.ref p), some (.ref c)] H := by
  refine ⟨p, xs, ps, rfl, hp, pa, g, λ a G1 s1 n1 t1 => ?_⟩
  refine sfl_i (s1 _ _ hx) rfl ?_
  have ncx := nx_of hc hx (by simp)
  have nax : a ≠ x := λ z => by rw [z, hx] at n1; cases n1
  refine ⟨c, cs, rfl, by rw [b4 ncx]; exact s1 _ _ hc, hn, h1, h8, λ d G2 s2 n2 t2 => ?_⟩
  have hx2 := s2 _ _ b6
  have ndx : d ≠ x := λ z => by rw [z, b6] at n2; cases n2
  refine sfl_i hx2 rfl ?_
  refine fld_i b6 (v := .ref a) rfl ?_
  have ha2 : G2 a = some (.dK (C3 ps)) := s2 _ _ (by rw [b4 nax]; exact t1)
  refine ⟨a, ps, rfl, by rw [b4 nax]; exact ha2, g, λ b bs G3 s3 n3 nbs bn => ?_⟩
  have hx3 := s3 _ _ b6
  have nbx : b ≠ x := λ z => by rw [z, b6] at n3; cases n3
  refine sfl_i hx3 rfl ?_
  have sx : SameX x H G3 := ((((same_x s1).trans W4).trans (same_x s2)).trans W4).trans (same_x s3)
  have nod : H d = none := s1.free (by rw [b4 ndx] at n2; exact n2)
  have up : ∀ c, c ≠ x -> upd G2 x (.ins cl dx (F4 "column_names" (.ref d) (F4 "above_of" (.ref a) []))) c = none -> H c = none := λ c nc e => by
    rw [b4 nc] at e
    have e := s2.free e
    rw [b4 nc] at e
    exact s1.free e
  have nob : H b = none := up b nbx n3
  refine q _ (sx.trans W4) λ G hG => ⟨g, hn, h1, h8, dx, a, d, b, bs, hG x _ (.inr rfl) b6, hG a _ (.inl n1) ?_, hG d _ (.inl nod) ?_, ?_⟩
  . rw [b4 nax]
    exact s3 _ _ (by rw [b4 nax]; exact ha2)
  . rw [b4 ndx]
    exact s3 _ _ (by rw [b4 ndx]; exact t2)
  . have nex : ∀ e ∈ bs, e ≠ x := λ e he z => by
      have := nbs e he
      rw [z, b6] at this
      cases this
    exact ⟨bn.len, bn.nd, hG b _ (.inl nob) (by rw [b4 nbx]; exact bn.d), λ i k e e1 e2 => by
      have hm := List.mem_of_getElem? e2
      refine hG e _ (.inl (up e (nex e hm) (nbs e hm))) ?_
      rw [b4 (nex e hm)]
      exact bn.l i k e e1 e2⟩
def E6 (ps : List (Str × Str)) : List Str := ps.map (·.1)
def a4h (cl : Addr) (f : List (Str × Str) -> List Str -> List Str) : Sp := λ vs H Q _ => ∃ x ps cs, vs = [.ref x] /\ HouseAt cl H x ps cs /\ ∀ p H', Same H H' -> H p = none -> H' p = some (.lst (sts (f ps cs))) -> Q (.ref p) H'
def U0 (cl : Addr) : Sp := a4h cl λ ps _ => E6 ps
def K8 (cl : Addr) : Sp := a4h cl λ _ cs => cs
def Q5 (cl : Addr) : TS :=
  (g8 (tCB C0 (a8 (tFldG cl "above_of" (gv 0)) b7)))
theorem a1j {x : Addr} {ps : List (Str × Str)} {cs : List Str} {H : Hp} {D : Ends} (h : HouseAt cl H x ps cs) (q : ∀ p H', Same H H' -> H p = none -> H' p = some (.lst (sts (E6 ps))) -> D.rt (.ref p) H') : Q5 cl D [some (.ref x)] H := by
  obtain ⟨g, hn, h1, h8, dx, a, c, b, bs, e1, e2, e3, e4⟩ := h
  refine fld_i e1 (v := .ref a) rfl ?_
  refine a2Y (.inl e2) (c7 λ p G n s t => ?_)
  rw [a0Q] at t
  exact q p G s n t
def M4 (cl : Addr) : TS :=
  (g8 (tCB C0 (a8 (tFldG cl "column_names" (gv 0)) b7)))
theorem Z0 {x : Addr} {ps : List (Str × Str)} {cs : List Str} {H : Hp} {D : Ends} (h : HouseAt cl H x ps cs) (q : ∀ p H', Same H H' -> H p = none -> H' p = some (.lst (sts cs)) -> D.rt (.ref p) H') : M4 cl D [some (.ref x)] H := by
  obtain ⟨g, hn, h1, h8, dx, a, c, b, bs, e1, e2, e3, e4⟩ := h
  refine fld_i e1 (v := .ref c) rfl ?_
  exact listL_i e3 (c7 λ p G n s t => q p G s n t)
end
section
variable {K : PySem.W.Frag}
theorem a0T (y : Str) : y.cps.toList.length = y.length := by rw [Array.length_toList]; rfl
end
theorem same_make {H G : Hp} {x dx cl : Addr} (hx : H x = none) (hdx : H dx = none) (s : SameX x (upd (upd H dx (.own x)) x (.ins cl dx [])) G) : Same H G := λ b o e => by
  have n1 := b8 e hx
  have n2 := b8 e hdx
  exact s b o n1 (by rw [b4 n1, b4 n2]; exact e)
end Tv
namespace Tv
open PySem PySem.Spec PyProof.Rows L2
section
variable {cl : Addr}
theorem make_i {pl pc x dx : Addr} {xs : List V} {ps : List (Str × Str)} {cs : List Str} {H : Hp} {Q : VK} {E : XK} (g : Good ps) (hn : Nms cs) (h1 : 1 <= cs.length) (h8 : cs.length <= 8) (hl : H pl = some (.lst xs)) (pa : PairsAt H xs ps) (hc : H pc = some (.lst (sts cs))) (nx : H x = none) (ndx : H dx = none)
    (q : ∀ G, Same H G -> (∀ J : Hp, (∀ b o, H b = none -> G b = some o -> J b = some o) -> HouseAt cl J x ps cs) -> Q .non G) : v0 cl [.ref x, .ref pl, .ref pc] (upd (upd H dx (.own x)) x (.ins cl dx [])) Q E := by
  have ne : ∀ b o, H b = some o -> upd (upd H dx (.own x)) x (.ins cl dx []) b = some o := λ b o e => by rw [b4 (b8 e nx), b4 (b8 e ndx)]; exact e
  refine ⟨x, dx, pl, pc, xs, ps, cs, rfl, b6, ne _ _ hl, ⟨pa.1, λ i r hr => ?_⟩, g, ne _ _ hc, hn, h1, h8, λ G sx hf => q G (same_make nx ndx sx) λ J hJ => hf J λ b o hb e => hJ b o ?_ e⟩
  . obtain ⟨t, e1, e2⟩ := pa.2 i r hr
    exact ⟨t, e1, ne _ _ e2⟩
  . rcases hb with hb | rfl
    . by_cases z1 : b = x
      . rw [z1]
        exact nx
      . rw [b4 z1] at hb
        by_cases z2 : b = dx
        . rw [z2]
          exact ndx
        . rw [b4 z2] at hb
          exact hb
    . exact nx
end
theorem U1 {z : Str} {t : TA} {σ : St} {Q : VK} {H : Hp} (q : t σ H λ vs H2 => V5 (.str z) vs H2 Q) : bmK "split" t σ Q (.str z) H := by
  unfold bmK
  exact q
theorem O5 {z y : Str} {Q : VK} {H : Hp} (hz : z.length + 2 <= sizeLine) (hy : (y.length == 0) = false) (q : newO H (.lst (sts (Txt.split z y))) Q) : V5 (.str z) [.str y] H Q := by
  unfold V5
  exact ⟨hz, hy, q⟩
def TupsAt (H : Hp) (xs : List V) (ls : List (List Str)) : Prop := xs.length = ls.length /\ ∀ (i : Nat) l, ls[i]? = some l -> ∃ t, xs[i]? = some (.ref t) /\ H t = some (.tup (sts l))
theorem TupsAt.same {H G : Hp} {xs : List V} {ls : List (List Str)} (h : TupsAt H xs ls) (s : Same H G) : TupsAt G xs ls := ⟨h.1, λ i q e => by
  obtain ⟨t, e1, e2⟩ := h.2 i q e
  exact ⟨t, e1, s _ _ e2⟩⟩
theorem TupsAt.put {H : Hp} {xs ys : List V} {ls : List (List Str)} {l : Addr} {o : HO} (h : TupsAt H xs ls) (hl : H l = some (.lst ys)) : TupsAt (upd H l o) xs ls := ⟨h.1, λ i q e => by
  obtain ⟨t, e1, e2⟩ := h.2 i q e
  refine ⟨t, e1, ?_⟩
  rw [b4 λ z => by rw [z, hl] at e2; cases e2]
  exact e2⟩
theorem TupsAt.nil {H : Hp} : TupsAt H [] [] := ⟨rfl, λ i q e => by simp at e⟩
theorem TupsAt.append {H : Hp} {xs ys : List V} {ls ms : List (List Str)} (h : TupsAt H xs ls) (k : TupsAt H ys ms) : TupsAt H (xs ++ ys) (ls ++ ms) := by
  refine ⟨by simp [h.1, k.1], λ i r e => ?_⟩
  by_cases hi : i < ls.length
  . rw [List.getElem?_append_left hi] at e
    rw [List.getElem?_append_left (by rw [h.1]; exact hi)]
    exact h.2 i r e
  . rw [List.getElem?_append_right (by omega)] at e
    rw [List.getElem?_append_right (by rw [h.1]; omega), h.1]
    exact k.2 _ r e
theorem TupsAt.one {H : Hp} {t : Addr} {l : List Str} (ht : H t = some (.tup (sts l))) : TupsAt H [.ref t] [l] := ⟨rfl, λ i r e => by
  cases i with
  | zero => simp at e; subst e; exact ⟨t, rfl, ht⟩
  | succ i => simp at e⟩
theorem TupsAt.snoc {H : Hp} {xs : List V} {ls : List (List Str)} {t : Addr} {l : List Str} (h : TupsAt H xs ls) (ht : H t = some (.tup (sts l))) : TupsAt H (xs ++ [.ref t]) (ls ++ [l]) := h.append (.one ht)
theorem comp_tups {J : It} {ys : List V} (f : V -> Option (List Str)) {tn : List Str} {fr : List (Str × Nat)} {g : TG} {tt : TT} {te : TE} {σ : St} {H : Hp} {Q : VK} (hz : ys.length < sizeLine)
    (hJ : ∀ G, Same H G -> (∀ i, i < ys.length -> J.go i G) /\ J.stop ys.length G /\ ∀ i x G', i < ys.length -> J.yld i G x G' -> G' = G /\ ys[i]? = some x)
    (turn : ∀ (i : Nat) (x : V), ys[i]? = some x -> ∀ (G : Hp) (k : VK) (B : Hp -> Prop), Same H G -> (∀ l, f x = some l -> ∀ t G', Same G G' -> G' t = some (.tup (sts l)) -> k (.ref t) G') -> (f x = none -> B G) -> g x (inn tn fr σ) G λ σ2 G2 => tt σ2 G2 λ b G3 => br b (te σ2 G3 k) (B G3))
    (fin : ∀ p zs G, H p = none -> Same H G -> G p = some (.lst zs) -> TupsAt G zs (ys.filterMap f) -> Q (.ref p) G) : X7 J tn fr g tt te σ H Q := by
  unfold X7
  intro p hp
  refine ⟨λ i m G => m = ys.length - i /\ i <= ys.length /\ Same H G /\ ∃ zs, G p = some (.lst zs) /\ TupsAt G zs ((ys.take i).filterMap f), ⟨_, rfl, Nat.zero_le _, z9 hp, [], b6, .nil⟩, ?_⟩
  rintro i m G ⟨rfl, hi, sm, zs, hg, pz⟩
  obtain ⟨j1, j2, j3⟩ := hJ G sm
  by_cases hlt : i < ys.length
  . refine .inr ⟨j1 i hlt, λ G' => Same H G' /\ ∃ zs, G' p = some (.lst zs) /\ TupsAt G' zs ((ys.take (i + 1)).filterMap f), λ G' h => ⟨_, by omega, rfl, hlt, h⟩, λ x G' y => ?_⟩
    obtain ⟨rfl, hx⟩ := j3 i x G' hlt y
    refine turn i x hx _ _ _ sm (λ l hl t G2 s2 t2 => ⟨zs, s2 _ _ hg, ?_, (sm.trans s2).put hp, _, b6, ?_⟩) (λ hn => ⟨sm, zs, hg, ?_⟩)
    . rw [pz.1]
      have := List.length_filterMap_le f (ys.take i)
      have h2 := List.length_take_le i ys
      omega
    . rw [h7 hx, List.filterMap_append, List.filterMap_cons, hl]
      exact ((pz.same s2).snoc t2).put (s2 _ _ hg)
    . rw [h7 hx, List.filterMap_append, List.filterMap_cons, hn]
      simpa using pz
  . have e : i = ys.length := by omega
    subst e
    rw [List.take_length] at pz
    exact .inl ⟨j2, fin p zs G hp sm hg pz⟩
theorem comp_lt {a : Addr} {ys : List V} (f : V -> Option (List Str)) {tn : List Str} {fr : List (Str × Nat)} {g : TG} {tt : TT} {te : TE} {σ : St} {H : Hp} {Q : VK} (ha : H a = some (.lst ys)) (hz : ys.length < sizeLine)
    (turn : ∀ (i : Nat) (x : V), ys[i]? = some x -> ∀ (G : Hp) (k : VK) (B : Hp -> Prop), Same H G -> (∀ l, f x = some l -> ∀ t G', Same G G' -> G' t = some (.tup (sts l)) -> k (.ref t) G') -> (f x = none -> B G) -> g x (inn tn fr σ) G λ σ2 G2 => tt σ2 G2 λ b G3 => br b (te σ2 G3 k) (B G3))
    (fin : ∀ p zs G, H p = none -> Same H G -> G p = some (.lst zs) -> TupsAt G zs (ys.filterMap f) -> Q (.ref p) G) : X7 (Itl0 a) tn fr g tt te σ H Q := by
  refine comp_tups f hz (λ G sm => ?_) turn fin
  refine ⟨λ i hi => ⟨ys, ys[i], .inl (sm _ _ ha), by simp [hi]⟩, ⟨ys, .inl (sm _ _ ha), Nat.le_refl _⟩, ?_⟩
  rintro i x G' hi ⟨rfl, h⟩
  exact ⟨rfl, h ys (.inl (sm _ _ ha))⟩
def tupF (f : Str -> List Str) : V -> Option (List Str)
  | .str z => some (f z)
  | _ => none
theorem fm_tup (f : Str -> List Str) : ∀ l : List Str, (sts l).filterMap (tupF f) = l.map f
  | [] => rfl
  | a :: r => by
    rw [sts, List.map_cons, List.filterMap_cons]
    show f a :: (sts r).filterMap (tupF f) = _
    rw [fm_tup f r]
    rfl
theorem putK_len {κ : Type} [DecidableEq κ] (kvs : List (κ × V)) (k : κ) (v : V) : (y0 kvs k v).length <= kvs.length + 1 := by
  unfold y0
  split
  . rw [List.length_map]
    omega
  . simp
end Tv
namespace Tv
open PySem PySem.Spec PyProof.Rows L2
theorem a4i {α : Type} {c : α} : ∀ {a b x y : List α}, c ∉ a -> c ∉ b -> a ++ c :: x = b ++ c :: y -> a = b /\ x = y
  | [], [], x, y, _, _, e => by
    simp at e
    exact ⟨rfl, e⟩
  | [], b :: bs, x, y, _, hb, e => by
    simp at e
    exact absurd (e.1 ▸ List.mem_cons_self ..) hb
  | a :: as, [], x, y, ha, _, e => by
    simp at e
    exact absurd (e.1 ▸ List.mem_cons_self ..) ha
  | a :: as, b :: bs, x, y, ha, hb, e => by
    simp at e
    obtain ⟨h1, h2⟩ := a4i (λ m => ha (List.mem_cons_of_mem _ m)) (λ m => hb (List.mem_cons_of_mem _ m)) e.2
    exact ⟨by rw [e.1, h1], h2⟩
theorem v5 (s a b : Str) (r : List Str) : (Str.join s (a :: b :: r)).cps.toList = a.cps.toList ++ (s.cps.toList ++ (Str.join s (b :: r)).cps.toList) := by
  show (a ++ s ++ Str.join s (b :: r)).cps.toList = _
  rw [F6, F6, List.append_assoc]
theorem a2a {c : Nat} : ∀ {ls ms : List Str}, ls ≠ [] -> ms ≠ [] -> (∀ p ∈ ls, c ∉ p.cps.toList) -> (∀ p ∈ ms, c ∉ p.cps.toList) -> (Str.join ⟨#[c]⟩ ls).cps.toList = (Str.join ⟨#[c]⟩ ms).cps.toList -> ls = ms
  | [], _, h, _, _, _, _ => (h rfl).elim
  | _, [], _, h, _, _, _ => (h rfl).elim
  | [a], [b], _, _, _, _, e => by rw [T6 (a := a) (b := b) e]
  | [a], b :: b' :: r, _, _, ha, _, e => by
    rw [v5] at e
    have e : a.cps.toList = b.cps.toList ++ ([c] ++ (Str.join ⟨#[c]⟩ (b' :: r)).cps.toList) := e
    exact absurd (by rw [e]; simp) (ha a (by simp))
  | a :: a' :: r, [b], _, _, _, hb, e => by
    rw [v5] at e
    have e : a.cps.toList ++ ([c] ++ (Str.join ⟨#[c]⟩ (a' :: r)).cps.toList) = b.cps.toList := e
    exact absurd (by rw [<- e]; simp) (hb b (by simp))
  | a :: a' :: r, b :: b' :: r', _, _, ha, hb, e => by
    rw [v5, v5] at e
    have e : a.cps.toList ++ c :: (Str.join ⟨#[c]⟩ (a' :: r)).cps.toList = b.cps.toList ++ c :: (Str.join ⟨#[c]⟩ (b' :: r')).cps.toList := e
    obtain ⟨h1, h2⟩ := a4i (ha a (by simp)) (hb b (by simp)) e
    rw [T6 h1, a2a (by simp) (by simp) (λ p hp => ha p (List.mem_cons_of_mem _ hp)) (λ p hp => hb p (List.mem_cons_of_mem _ hp)) h2]
theorem a0U {c : Nat} {ls : List Str} (hn : ls ≠ []) (hf : ∀ p ∈ ls, c ∉ p.cps.toList) : Txt.split (Str.join ⟨#[c]⟩ ls) ⟨#[c]⟩ = ls := by
  refine (a2a hn ?_ hf (StrLaws.split_free _ c) ?_).symm
  . intro e
    have := split_pos (Str.join ⟨#[c]⟩ ls) ⟨#[c]⟩
    rw [e] at this
    simp at this
  . rw [StrLaws.join_split]
theorem C4 (s : Str) (ls : List Str) : Txt.join s ls = Str.join s ls := by
  show Builtin.Str.glued _ _ = _
  rw [StrLaws.glued_eq_join]
theorem nm_low {z : Str} (h : Q3 z = true) {c : Nat} (hc : c ∈ z.cps.toList) : 97 <= c := by
  unfold Q3 at h
  simp only [Bool.and_eq_true] at h
  have := List.all_eq_true.mp h.2 c hc
  unfold lowB at this
  simp at this
  exact this.1
theorem nl_eq : ("\n" : Str) = ⟨#[10]⟩ := by decide +kernel
theorem bl_eq : (" " : Str) = ⟨#[32]⟩ := by decide +kernel
def Word (z : Str) : Prop := ∀ c ∈ z.cps.toList, 97 <= c
theorem word_nm {z : Str} (h : Q3 z = true) : Word z := λ _ hc => nm_low h hc
theorem J3 (s : Str) : ∀ ls : List Str, (Str.join s ls).length <= (ls.map (·.length)).sum + ls.length * s.length
  | [] => by
    have : (Str.join s []).length = 0 := rfl
    omega
  | [a] => by
    show a.length <= _
    simp
  | a :: b :: r => by
    have ih := J3 s (b :: r)
    show (a ++ s ++ Str.join s (b :: r)).length <= _
    rw [Str.length_append, Str.length_append]
    simp only [List.map_cons, List.sum_cons, List.length_cons, Nat.succ_mul] at ih ⊢
    omega
section
variable {cl : Addr}
end
inductive Thing (H : Hp) : V -> Prop where
  | non : Thing H .non
  | bl (b : Bool) : Thing H (.bl b)
  | int (i : Int) : Thing H (.int i)
  | str {z : Str} (h : z.length <= 1000) : Thing H (.str z)
  | lst {p : Addr} {xs : List V} (e : H p = some (.lst xs)) : Thing H (.ref p)
  | tup {p : Addr} {xs : List V} (e : H p = some (.tup xs)) : Thing H (.ref p)
  | dK {p : Addr} {xs : List (Key × V)} (e : H p = some (.dK xs)) : Thing H (.ref p)
theorem Thing.same {H G : Hp} {x : V} (h : Thing H x) (s : Same H G) : Thing G x := by
  cases h with
  | non => exact .non
  | bl b => exact .bl b
  | int i => exact .int i
  | str h => exact .str h
  | lst e => exact .lst (s _ _ e)
  | tup e => exact .tup (s _ _ e)
  | dK e => exact .dK (s _ _ e)
section
variable {cl NH : Addr}
end
def d8 (r : Str) : List Str := Txt.split r " "
theorem a5j (r : Str) : Str.join " " (d8 r) = r := StrLaws.join_split r " "
def d7 (t : Str) : List Str := Txt.split t "\n"
theorem a3b (s : Str) : ∀ ls : List Str, (ls.map (·.length)).sum + (ls.length - 1) * s.length <= (Str.join s ls).length
  | [] => by simp
  | [a] => by
    show _ <= a.length
    simp
  | a :: b :: r => by
    have ih := a3b s (b :: r)
    show _ <= (a ++ s ++ Str.join s (b :: r)).length
    rw [Str.length_append, Str.length_append]
    simp only [List.map_cons, List.sum_cons, List.length_cons, Nat.add_sub_cancel, Nat.succ_mul] at ih ⊢
    omega
theorem sum_ge : ∀ (ls : List Str) (p : Str), p ∈ ls -> p.length <= (ls.map (·.length)).sum
  | a :: r, p, h => by
    rcases List.mem_cons.mp h with rfl | h
    . simp
    . have := sum_ge r p h
      simp
      omega
theorem a0V (t s : Str) (hs : s.length = 1) : (Txt.split t s).length <= t.length + 1 /\ ∀ p ∈ Txt.split t s, p.length <= t.length := by
  have h := a3b s (Txt.split t s)
  rw [StrLaws.join_split, hs] at h
  refine ⟨by omega, λ p hp => ?_⟩
  have := sum_ge _ p hp
  omega
theorem a2b (t : Str) : (d7 t).length <= t.length + 1 /\ ∀ p ∈ d7 t, p.length <= t.length := a0V t "\n" (by decide +kernel)
theorem K9 (t : Str) : (d8 t).length <= t.length + 1 /\ ∀ p ∈ d8 t, p.length <= t.length := a0V t " " (by decide +kernel)
theorem a5k (r : Str) : ∃ w rest, d8 r = w :: rest := by
  have := split_pos r " "
  cases e : d8 r with
  | nil =>
    unfold d8 at e
    rw [e] at this
    simp at this
  | cons w rest => exact ⟨w, rest, rfl⟩
end Tv
namespace Tv
open PySem PySem.Spec PyProof.Rows L2
section
variable {K : PySem.W.Frag}
end
namespace R
section
variable {K : PySem.W.Frag} {cl NH VE NT NX NP : Addr}
theorem cut_pre (xs : List V) {k : Nat} (h : k <= xs.length) : J9 xs none (some (k : Int)) = xs.take k := by
  unfold J9
  rw [HT.S9, HT.a2u, List.drop_zero, Nat.min_eq_left h, Nat.sub_zero]
theorem cut_suf (xs : List V) {k : Nat} (h : k <= xs.length) : J9 xs (some (k : Int)) none = xs.drop k := by
  unfold J9
  rw [HT.S9, HT.a2u, Nat.min_eq_left h, List.take_of_length_le (by rw [List.length_drop]; exact Nat.le_refl _)]
theorem tupleL_i {p : Addr} {ys : List V} {H : Hp} {Q : VK} (h : H p = some (.lst ys)) (q : newO H (.tup ys) Q) : V4 [.ref p] H Q := by
  unfold V4
  simp only [h]
  exact q
theorem isiX_i {kit : List (Addr × V × Bool)} {a d : Addr} {c : V} {b : Bool} {H : Hp} {Q : VK} (h : H a = some (.ext (TyAt a d))) (hm : (d, c, b) ∈ kit) (q : Q (.bl b) H) : isiX kit [.ref a, c] H Q := by
  unfold isiX
  exact ⟨a, d, c, b, rfl, h, hm, q⟩
end
end R
end Tv
namespace Tv
open PySem PySem.Spec PyProof.Rows L2
namespace R
section
variable {K : PySem.W.Frag} {cl NH VE NT NX NP : Addr}
end
end R
end Tv
namespace Tv
open PySem PySem.Spec PyProof.Rows L2
namespace R
section
variable {K : PySem.W.Frag} {cl NH VE NT NX NP : Addr}
end
end R
end Tv
namespace Tv
open PySem PySem.Spec PyProof.Rows L2
namespace R
section
variable {K : PySem.W.Frag} {cl NH VE NT NX NP : Addr}
end
end R
end Tv
namespace Tv
open PySem PySem.Spec PyProof.Rows L2
namespace R
section
variable {K : PySem.W.Frag} {cl NH VE NT NX NP : Addr}
end
end R
end Tv
namespace Tv
open PySem PySem.Spec PyProof.Rows L2
section
variable {cl NH NX : Addr}
end
namespace Nu
def numT (m : Nat) : Str := toString (m : Int)
theorem a3c (m : Nat) : (numT m).cps.toList = (Nat.toDigits 10 m).map Char.toNat := PySem.W.KIN.signs_num m
theorem a4k {m : Nat} (h : ¬ m < 10) : Nat.toDigits 10 m = Nat.toDigits 10 (m / 10) ++ [Nat.digitChar (m % 10)] := by
  have hm : m % 10 < 10 := Nat.mod_lt m (by decide)
  have t : Nat.toDigits 10 (m / 10) ++ Nat.toDigits 10 (m % 10) = Nat.toDigits 10 (10 * (m / 10) + m % 10) := Nat.toDigits_append_toDigits (by decide) (by omega) hm
  rw [Nat.div_add_mod, Nat.toDigits_of_lt_base hm] at t
  exact t.symm
theorem dig_len : ∀ (k m : Nat), m < 10 ^ (k + 1) -> 1 <= (Nat.toDigits 10 m).length /\ (Nat.toDigits 10 m).length <= k + 1
  | 0, m, h => by
    rw [Nat.toDigits_of_lt_base (by omega)]
    simp
  | k + 1, m, h => by
    by_cases h9 : m < 10
    . rw [Nat.toDigits_of_lt_base h9]
      simp
    . rw [a4k h9, List.length_append]
      have := dig_len k (m / 10) (by rw [Nat.pow_succ] at h; omega)
      simp
      omega
theorem dig_head : ∀ (m : Nat), 0 < m -> ∃ c r, Nat.toDigits 10 m = c :: r /\ c.toNat ≠ 48 := λ m => by
  induction m using Nat.strongRecOn with
  | _ m ih =>
    intro h
    by_cases h9 : m < 10
    . refine ⟨Nat.digitChar m, [], Nat.toDigits_of_lt_base h9, ?_⟩
      have : ∀ d : Fin 10, 0 < d.val -> (Nat.digitChar d.val).toNat ≠ 48 := by decide
      exact this ⟨m, h9⟩ h
    . obtain ⟨c, r, e, hc⟩ := ih (m / 10) (by omega) (by omega)
      exact ⟨c, r ++ [Nat.digitChar (m % 10)], by rw [a4k h9, e]; rfl, hc⟩
def J4 (c : Nat) : Bool := decide (48 <= c) && decide (c <= 57)
def m7 (z : Str) : Bool := decide (1 <= z.length) && decide (z.length <= 40) && z.cps.toList.all J4 && ((z == ("0" : Str)) || !(z.cps.toList.head? == some 48))
theorem num_dig {m c : Nat} (hc : c ∈ (numT m).cps.toList) : 48 <= c /\ c <= 57 := by
  rw [a3c] at hc
  obtain ⟨ch, h1, rfl⟩ := List.mem_map.mp hc
  exact digit_range (Nat.isDigit_of_mem_toDigits (by decide) (by decide) h1)
theorem num_len {m : Nat} (h : m < 10 ^ 40) : 1 <= (numT m).length /\ (numT m).length <= 40 := by
  have e : (numT m).length = (Nat.toDigits 10 m).length := by
    show (numT m).cps.size = _
    rw [<- Array.length_toList, a3c, List.length_map]
  rw [e]
  exact dig_len 39 m h
theorem num_fig {m : Nat} (h : m < 10 ^ 40) : m7 (numT m) = true := by
  obtain ⟨l1, l2⟩ := num_len h
  unfold m7
  rw [decide_eq_true l1, decide_eq_true l2, List.all_eq_true.mpr λ c hc => by
    obtain ⟨a, b⟩ := num_dig hc
    unfold J4
    rw [decide_eq_true a, decide_eq_true b]
    rfl]
  by_cases h0 : m = 0
  . subst h0
    decide +kernel
  . obtain ⟨c, r, e, hc⟩ := dig_head m (by omega)
    rw [a3c, e]
    have : (some c.toNat == some 48) = false := by simpa using hc
    simp [this, hc]
def z8 : Sp := λ vs H Q _ => ∃ z : Str, vs = [.str z] /\ z.length < sizeLine /\ ∀ H', Same H H' -> Q (.bl (m7 z)) H'
def U2 : TS :=
  (c8 (sIf (J7 (bT (K4 leG leG (tC (.int 1)) (tCB x4 (a8 (gv 0) b7)) (tC (.int 40)))))
    (g8 (tC (.bl false)))
    g0)
  (c8 (sIf (J7 (ptG (tCB allG (a8 (N8 (iOf w5 (gv 0)) ["sign"] [] (b9 0) tYes (K4 leG leG (tC (.str "0")) (gv 0) (tC (.str "9")))) b7))))
    (g8 (tC (.bl false)))
    g0)
  (g8 (tOrG (tOp eqG (gv 0) (tC (.str "0"))) (tOp neG (tOp j9 (gv 0) (tC (.int 0))) (tC (.str "0")))))))
theorem a3d {z : Str} {H : Hp} {D : Ends} (hz : z.length < sizeLine) (q : ∀ H', Same H H' -> D.rt (.bl (m7 z)) H') : U2 D [some (.str z)] H := by
  have q0 := q H (Same.refl H)
  refine ⟨Nat.le_of_lt hz, ?_⟩
  refine N4 (λ h1 => ?_) (λ h1 => ?_)
  . refine a2B (N4 (λ h2 => ?_) (λ h2 => ?_))
    . refine comp_i (a2W (a4d (λ c => some (.bl (J4 c))) hz ?_ ?_))
      . intro i c hc G k' hk'
        refine u0 rfl ?_
        have e1 : (!decide (([c] : List Nat) < ("0" : Str).cps.toList)) = decide (48 <= c) := a2U 48 c
        have e2 : (!decide (("9" : Str).cps.toList < ([c] : List Nat))) = decide (c <= 57) := a2U c 57
        refine i9 (λ h4 => ?_) (λ h4 => ?_)
        . have h4 : decide (48 <= c) = true := e1 ▸ h4
          have e3 : J4 c = decide (c <= 57) := by
            unfold J4
            rw [h4, Bool.true_and]
          rw [e3, <- e2] at hk'
          exact hk'
        . have h4 : decide (48 <= c) = false := e1 ▸ h4
          have e3 : J4 c = false := by
            unfold J4
            rw [h4, Bool.false_and]
          rw [e3] at hk'
          exact hk'
      . intro p hp
        have q1 := q (upd H p (.lst (z.cps.toList.filterMap λ c => some (V.bl (J4 c))))) (z9 hp)
        refine all_i b6 (bs := z.cps.toList.map J4) ?_ ?_
        . rw [List.filterMap_eq_map']
          exact a2V J4 _
        . have hb : (z.cps.toList.map J4).all id = z.cps.toList.all J4 := by
            rw [List.all_map]
            rfl
          have hl1 : decide (1 <= z.length) = true := decide_eq_true (by omega)
          have hl2 : decide (z.length <= 40) = true := decide_eq_true (by omega)
          rw [hb]
          refine a2B (i9 (λ h3 => ?_) (λ h3 => ?_))
          . obtain ⟨c, hc⟩ : ∃ c, z.cps.toList.head? = some c := by
              cases hh : z.cps.toList with
              | nil =>
                have : z.length = 0 := by
                  show z.cps.size = 0
                  rw [<- Array.length_toList, hh]
                  rfl
                omega
              | cons c r => exact ⟨c, rfl⟩
            have h0 : atI z.cps.toList 0 = some c := by
              rw [List.head?_eq_getElem?] at hc
              exact K0 (j := 0) hc
            refine i9 (λ h4 => ?_) (λ h4 => ?_)
            . have e : m7 z = true := by
                unfold m7
                rw [hl1, hl2, h3, show (z == ("0" : Str)) = true from h4]
                rfl
              rw [e] at q1
              exact (show (z == ("0" : Str)) = true from h4) ▸ q1
            . refine getS_i h0 (Nat.le_of_lt hz) ?_
              have e : m7 z = !((⟨#[c]⟩ : Str) == ("0" : Str)) := by
                unfold m7
                rw [hl1, hl2, h3, show (z == ("0" : Str)) = false from h4, hc]
                by_cases hz0 : c = 48
                . subst hz0
                  decide +kernel
                . have n1 : ((⟨#[c]⟩ : Str) == ("0" : Str)) = false := beq_eq_false_iff_ne.mpr λ hx => hz0 (by
                    have hx2 := congrArg (λ (y : Str) => y.cps.toList) hx
                    have h00 : ("0" : Str).cps.toList = [48] := by decide +kernel
                    rw [h00] at hx2
                    simpa using hx2)
                  rw [n1]
                  simp [hz0]
              rw [e] at q1
              exact q1
          . have e : m7 z = false := by
              unfold m7
              rw [h3]
              simp
            rw [e] at q1
            exact q1
    . have e : m7 z = false := by
        unfold m7
        rw [decide_eq_false (show ¬ z.length <= 40 by omega)]
        simp
      rw [e] at q0
      exact q0
  . have e : m7 z = false := by
      unfold m7
      rw [decide_eq_false (show ¬ 1 <= z.length by omega)]
      simp
    rw [e] at q0
    exact u0 rfl q0
def plK (a b : Str) : List Key := [Sum.inr a, Sum.inr b]
theorem keys_pl (a b : Str) : K3 [.str a, .str b] = some (plK a b) := rfl
theorem O8 {m : Nat} (h : m < 10 ^ 40) : ((m : Int).natAbs).log2 < 1920 := by
  rw [Int.natAbs_natCast]
  by_cases h0 : m = 0
  . subst h0; decide
  . rw [Nat.log2_lt h0]
    exact Nat.lt_trans h (by decide +kernel)
theorem atI_neg2 {α : Type} {xs : List α} {n : Nat} {v : α} (hl : xs.length = n + 2) (h : xs[n]? = some v) : atI xs (-2) = some v := by
  have e : ixN xs.length (-2) = some n := by
    unfold ixN
    rw [if_neg (by decide), hl, if_pos (by omega)]
    congr 1
    omega
  unfold atI
  rw [e]
  exact h
theorem cut_mid (x e t : V) (ws : List V) : J9 (x :: (ws ++ [e, t])) (some 1) (some (-2)) = ws := by
  unfold J9
  have l : (x :: (ws ++ [e, t])).length = ws.length + 3 := by simp
  have e1 : HT.sIx (x :: (ws ++ [e, t])).length 0 (some 1) = 1 := by
    rw [l]
    exact (HT.a2u _ 0 1).trans (by omega)
  have e2 : HT.sIx (x :: (ws ++ [e, t])).length (x :: (ws ++ [e, t])).length (some (-2)) = ws.length + 1 := by
    rw [l]
    show (if (-2 : Int) < 0 then ((-2 : Int) + ((ws.length + 3 : Nat) : Int)).toNat else min (-2 : Int).toNat (ws.length + 3)) = _
    rw [if_pos (by decide)]
    omega
  rw [e1, e2]
  simp
theorem cut_last (x e t : V) (ws : List V) : J9 (x :: (ws ++ [e, t])) (some (-1)) none = [t] := by
  unfold J9
  have l : (x :: (ws ++ [e, t])).length = ws.length + 3 := by simp
  have e1 : HT.sIx (x :: (ws ++ [e, t])).length 0 (some (-1)) = ws.length + 2 := by
    rw [l]
    show (if (-1 : Int) < 0 then ((-1 : Int) + ((ws.length + 3 : Nat) : Int)).toNat else min (-1 : Int).toNat (ws.length + 3)) = _
    rw [if_pos (by decide)]
    omega
  rw [e1, HT.S9, l]
  have e2 : (x :: (ws ++ [e, t])).drop (ws.length + 2) = [t] := by
    rw [List.drop_succ_cons, List.drop_append, List.drop_eq_nil_of_le (Nat.le_succ _)]
    simp
  rw [e2]
  simp
theorem w6 {H G : Hp} {p : Addr} (s : Same H G) (n : G p = none) : H p = none := by
  cases e : H p with
  | none => rfl
  | some o => rw [s _ _ e] at n; cases n
section
variable {cl : Addr}
end
theorem zip_i {a b : Addr} {xs ys : List V} {H : Hp} {R : It -> Hp -> Th -> Prop} (ha : H a = some (.lst xs)) (hb : H b = some (.lst ys)) (q : R (Itz a b) H none) : zipG [.ref a, .ref b] H R := by
  unfold zipG
  simp only [ha, hb]
  exact q
theorem a0W {a b : Addr} {xs ys : List V} {g : TG} {tb : TS} {D : Ends} {σ : St} {H : Hp} (hn : xs.length = ys.length) (Pv : Nat -> St -> Hp -> Prop) (h0 : Pv 0 σ H) (hl : ∀ i σ H, i <= xs.length -> Pv i σ H -> H a = some (.lst xs) /\ H b = some (.lst ys))
    (hs : ∀ i x y t σ H G, xs[i]? = some x -> ys[i]? = some y -> Pv i σ H -> H t = none -> Same H G -> G t = some (.tup [x, y]) -> g (.ref t) σ G λ σ2 H2 => tb { D with nx := Pv (i + 1), ct := Pv (i + 1), bk := D.nx } σ2 H2) (hd : ∀ σ H, Pv xs.length σ H -> D.nx σ H) : B8 (Itz a b) g tb D σ H := by
  unfold B8
  refine ⟨λ i m σ H => m = xs.length - i /\ i <= xs.length /\ Pv i σ H, ⟨_, rfl, Nat.zero_le _, h0⟩, ?_⟩
  rintro i m σ H ⟨rfl, hi, p⟩
  obtain ⟨qa, qb⟩ := hl i σ H hi p
  by_cases hlt : i < xs.length
  . refine .inr ⟨⟨xs, ys, xs[i], ys[i]'(by omega), qa, qb, by simp [hlt], by simp [hn ▸ hlt]⟩, Pv (i + 1), λ σ' H' h => ⟨_, by omega, rfl, hlt, h⟩, ?_⟩
    rintro v H' ⟨xs', ys', x, y, t, h1, h2, h3, h4, rfl, h6, rfl⟩
    rw [qa] at h1
    rw [qb] at h2
    cases h1
    cases h2
    exact hs i x y t σ H _ h3 h4 p h6 (z9 h6) b6
  . have e : i = xs.length := by omega
    subst e
    exact .inl ⟨⟨xs, ys, qa, qb, .inl (Nat.le_refl _)⟩, hd σ H p⟩
def x6 : Sp := λ vs H Q _ => ∃ z : Str, vs = [.str z] /\ z.length <= 100000 /\ ∀ H', Same H H' -> Q (.str z) H'
theorem a1l {z : Str} {H : Hp} {D : Ends} (hz : z.length <= 100000) (q : ∀ H', Same H H' -> D.rt (.str z) H') : B3 D [some (.str z)] H := by
  have hs := sz
  refine B0 (listS_i (by omega) (c7 λ p G n s h => ?_))
  have e : (z.cps.toList.map λ c => V.str ⟨#[c]⟩) = sts (z.cps.toList.map λ c => (⟨#[c]⟩ : Str)) := by rw [sts, List.map_map]; rfl
  rw [e] at h
  refine z7 h (i5 _) ?_ (by rw [a4f]; exact q G s)
  have e0 : ("" : Str).length = 0 := rfl
  have : z.cps.toList.length = z.length := by rw [Array.length_toList]; rfl
  rw [a0O, e0, Nat.mul_zero]
  omega
theorem setT_i {p b : Addr} {x y : Str} {v : V} {kvs : List (List Key × V)} {H : Hp} {Q : Hp -> Prop} (h : H p = some (.dT kvs)) (hb : H b = some (.tup [.str x, .str y])) (hz : kvs.length < sizeLine) (q : Q (upd H p (.dT (y0 kvs (plK x y) v)))) : T4 (.ref p) (.ref b) v H Q := by
  unfold T4
  simp only [h, hb, keys_pl]
  exact ⟨hz, q⟩
section
variable {cl : Addr}
end
end Nu
end Tv
namespace Tv
open PySem PySem.Spec PyProof.Rows L2
namespace Tw
open Nu
def val (z : Str) : Int := (PySem.intText? z).getD 0
theorem P3 {z : Str} (h : m7 z = true) : 1 <= z.length /\ z.length <= 40 /\ ∀ c ∈ z.cps.toList, 48 <= c /\ c <= 57 := by
  unfold m7 at h
  simp only [Bool.and_eq_true, decide_eq_true_eq] at h
  refine ⟨h.1.1.1, h.1.1.2, λ c hc => ?_⟩
  have := List.all_eq_true.mp h.1.2 c hc
  unfold J4 at this
  simpa using this
theorem a2c {z : Str} (h : m7 z = true) : PySem.intText? z = some (val z) := by
  obtain ⟨l1, l2, hd⟩ := P3 h
  have e := PySem.intText_digits (x := z) hd (λ e => by
    have : z.length = 0 := by
      show z.cps.size = 0
      rw [<- Array.length_toList, e]
      rfl
    omega) (by omega)
  unfold val
  rw [e]
  rfl
def nW (p : Str) (m : Nat) (W : List Str) : Option (List Str) := if W.length = m + 2 /\ W[0]? = some (p ++ ":") /\ W[m]? = some "=" then some ((W.drop 1).take (m - 1) ++ W.drop (m + 1)) else none
abbrev Dct := List (List Key × V)
def k8 (p : Str) (d : Dct) (cw : Str × Str) : Option Dct := if cw.2 = "*" then some d else if m7 cw.2 = true then some (y0 d (plK p cw.1) (.int (val cw.2))) else none
def D6 (C : List Str) (d : Dct) (pr : Str × Str) : Option Dct := match nW pr.1 C.length (d8 pr.2) with
  | some ws => (C.zip ws).foldlM (k8 pr.1) d
  | none => none
def j5 (L C rows : List Str) : Option Dct := if rows.length = L.length then (L.zip rows).foldlM (D6 C) [] else none
theorem fold_none {α β : Type} {f : α -> β -> Option α} {z : α} {a : List β} (h : a.foldlM f z = none) (b : List β) : (a ++ b).foldlM f z = none := by
  rw [List.foldlM_append, h]
  rfl
theorem P4 {α β : Type} (f : α -> β -> Option α) (z : α) (a : List β) (x : β) : (a ++ [x]).foldlM f z = (a.foldlM f z).bind λ d => f d x := by
  rw [List.foldlM_append]
  cases a.foldlM f z with
  | none => rfl
  | some d =>
    show List.foldlM f d [x] = f d x
    rw [List.foldlM_cons]
    cases f d x <;> rfl
theorem a3e {p w0 e t : Str} {ws : List Str} (h0 : w0 = p ++ ":") (he : e = "=") : nW p (ws.length + 1) (w0 :: (ws ++ [e, t])) = some (ws ++ [t]) := by
  subst h0 he
  unfold nW
  rw [if_pos ⟨by simp, by simp, by simp⟩]
  congr 1
  simp
theorem a0b {p w0 e t : Str} {ws : List Str} (h : w0 ≠ p ++ ":" \/ e ≠ "=") : nW p (ws.length + 1) (w0 :: (ws ++ [e, t])) = none := by
  unfold nW
  refine if_neg λ z => ?_
  rcases h with h | h
  . exact h (by simpa using z.2.1)
  . exact h (by simpa using z.2.2)
theorem a2d {W : List Str} {m : Nat} (h : W.length = m + 3) : ∃ w0 ws e t, W = w0 :: (ws ++ [e, t]) /\ ws.length = m := by
  cases W with
  | nil => simp at h
  | cons w0 r =>
    have hr : r.length = m + 2 := by simpa using h
    refine ⟨w0, r.take m, r[m]'(by omega), r[m + 1]'(by omega), ?_, by simp; omega⟩
    congr 1
    conv => lhs; rw [<- List.take_append_drop m r]
    congr 1
    rw [List.drop_eq_getElem_cons (by omega), List.drop_eq_getElem_cons (by omega), List.drop_eq_nil_of_le (by omega)]
section
variable {cl NX : Addr}
def R6 (H : Hp) (x : V) : Prop := (∃ z : Str, x = .str z /\ z.length <= 10000) \/ (Thing H x /\ ∀ z, x ≠ .str z)
def k9 (NX : Addr) : Sp := λ vs H Q E => ∃ x : V, vs = [x] /\ R6 H x /\ (∀ z, x = .str z -> ∀ H', Same H H' -> Q (.str z) H') /\ ((∀ z, x ≠ .str z) -> ∀ H', Same H H' -> E (.ref NX) none H')
def J5 (NX : Addr) (E : XK) : TS :=
  (c8 (sIf (J7 (ptG (tCB V3 (a8 (gv 0) (a8 (tC (.ty "str")) b7)))))
    (V6 E NX (a8 (tC (.str "this is no text")) b7))
    g0)
  (g8 (g5 x6 [] E (a8 (gv 0) b7))))
theorem W5 {x : V} {H : Hp} {D : Ends} {E : XK} (ht : R6 H x) (q : ∀ z, x = .str z -> ∀ H', Same H H' -> D.rt (.str z) H') (qe : (∀ z, x ≠ .str z) -> ∀ H', Same H H' -> E (.ref NX) none H') : J5 NX E D [some x] H := by
  rcases ht with ⟨z, rfl, hz⟩ | ⟨ht, no⟩
  . exact E3 rfl rfl (y9 rfl ⟨z, rfl, by omega, λ G s => q z rfl G s⟩)
  . cases ht with
    | @str z hz => exact (no z rfl).elim
    | non => exact E3 (S := "NoneType") rfl rfl (u0 rfl ⟨few rfl, qe no H (Same.refl _)⟩)
    | bl b => exact E3 (S := "bool") rfl rfl (u0 rfl ⟨few rfl, qe no H (Same.refl _)⟩)
    | int i => exact E3 (S := "int") rfl rfl (u0 rfl ⟨few rfl, qe no H (Same.refl _)⟩)
    | lst e => exact E3 rfl (a0M e) (u0 rfl ⟨few rfl, qe no H (Same.refl _)⟩)
    | tup e => exact E3 rfl (a4e e) (u0 rfl ⟨few rfl, qe no H (Same.refl _)⟩)
    | dK e => exact E3 rfl (kind_dK e) (u0 rfl ⟨few rfl, qe no H (Same.refl _)⟩)
def m9 (NX : Addr) : Sp := λ vs H Q E => ∃ (part row : Str) (m : Nat), vs = [.str part, .int (m + 1 : Nat), .str row] /\ part.length <= 8 /\ row.length <= 10000 /\ (∀ ws, nW part (m + 1) (d8 row) = some ws -> ∀ p H', Same H H' -> H p = none -> H' p = some (.lst (sts ws)) -> Q (.ref p) H') /\ (nW part (m + 1) (d8 row) = none -> ∀ H', Same H H' -> E (.ref NX) none H')
def M5 (NX : Addr) (E : XK) : TS :=
  (c8 (e9 (y4 "split" (gv 2) (a8 (tC (.str " ")) b7)) (b9 3))
  (c8 (sIf (V1 (bT (tOp neG (tCB x4 (a8 (gv 3) b7)) (tOp j0 (gv 1) (tC (.int 2))))) (V1 (bT (tOp neG (tOp j9 (gv 3) (tC (.int 0))) (jpG [(fmtG (gv 0)), (tC (.str ":"))] Str.empty))) (bT (tOp neG (tOp j9 (gv 3) (tUn negG (tC (.int 2)))) (tC (.str "="))))))
    (V6 E NX (a8 (tC (.str "a row of numbers has not the words of its part")) b7))
    g0)
  (g8 (tOp j0 (tSl slG (gv 3) (l7 (tC (.int 1))) (l7 (tUn negG (tC (.int 2))))) (tSl slG (gv 3) (l7 (tUn negG (tC (.int 1)))) g6)))))
theorem Z1 {part row : Str} {m : Nat} {u : Option V} {H : Hp} {D : Ends} {E : XK} (h8 : part.length <= 8) (hr : row.length <= 10000) (q : ∀ ws, nW part (m + 1) (d8 row) = some ws -> ∀ p H', Same H H' -> H p = none -> H' p = some (.lst (sts ws)) -> D.rt (.ref p) H') (qe : nW part (m + 1) (d8 row) = none -> ∀ H', Same H H' -> E (.ref NX) none H') :
    M5 NX E D [some (.str part), some (.int (m + 1 : Nat)), some (.str row), u] H := by
  have hz := sz
  refine U1 (O5 (by omega) (by decide +kernel) (c7 λ p G n s1 t1 => ?_))
  have t1 : G p = some (.lst (sts (d8 row))) := t1
  have sl : (sts (d8 row)).length = (d8 row).length := by simp [sts]
  refine k7 t1 ?_
  rw [sl]
  by_cases hl : (d8 row).length = m + 3
  . obtain ⟨w0, ws, e, t, eW, lw⟩ := a2d hl
    subst lw
    refine y9 ?_ ?_
    . rw [hl, show ((ws.length + 3 : Nat) : Int) = ((ws.length + 1 : Nat) : Int) + 2 by omega]
      simp [PyData.eqv]
    rw [eW] at t1 q qe
    have l2 : (w0 :: (ws ++ [e, t])).length = ws.length + 3 := by simp
    have lc : (":" : Str).length = 1 := by decide +kernel
    have hl' : (sts (w0 :: (ws ++ [e, t]))).length = ws.length + 1 + 2 := by simp [sts]
    refine j6 t1 (v := .str w0) (K0 (j := 0) (by simp [sts])) ?_
    refine ⟨by omega, by rw [Str.empty_append]; omega, by rw [Str.empty_append, Str.length_append, lc]; omega, ?_⟩
    rw [Str.empty_append]
    refine i9 (λ b => ?_) (λ b => ?_)
    . have b : (!(w0 == part ++ ":")) = true := b
      exact u0 rfl ⟨few rfl, qe (a0b (.inl (by simpa using b))) G s1⟩
    have b : (!(w0 == part ++ ":")) = false := b
    have b : w0 = part ++ ":" := by simpa using b
    refine j6 t1 (v := .str e) (atI_neg2 (n := ws.length + 1) hl' (by simp [sts])) ?_
    refine i9 (λ b2 => ?_) (λ b2 => ?_)
    . have b2 : (!(e == ("=" : Str))) = true := b2
      exact ⟨few rfl, qe (a0b (.inr (by simpa using b2))) G s1⟩
    have b2 : (!(e == ("=" : Str))) = false := b2
    have b2 : e = "=" := by simpa using b2
    have ex : sts (w0 :: (ws ++ [e, t])) = .str w0 :: (sts ws ++ [.str e, .str t]) := by simp [sts]
    rw [ex] at t1
    refine E4 t1 ?_
    rw [cut_mid]
    refine c7 λ p2 G2 n2 s2 t2 => E4 (s2 _ _ t1) ?_
    rw [cut_last]
    have lws : ws.length <= 10001 := by
      have := (K9 row).1
      omega
    refine c7 λ p3 G3 n3 s3 t3 => A9 (s3 _ _ t2) t3 (by simp [sts]; omega) (c7 λ p4 G4 n4 s4 t4 => ?_)
    refine q (ws ++ [t]) (a3e b b2) p4 G4 (((s1.trans s2).trans s3).trans s4) (w6 ((s1.trans s2).trans s3) n4) ?_
    rw [t4]
    simp [sts]
  . refine u0 ?_ (u0 rfl ⟨few rfl, qe ?_ G s1⟩)
    . have : ((d8 row).length : Int) ≠ ((m + 1 : Nat) : Int) + 2 := by omega
      simp [PyData.eqv]
      omega
    . unfold nW
      exact if_neg λ z => hl (by omega)
def p7 (NX : Addr) : Sp := λ vs H Q E => ∃ z : Str, vs = [.str z] /\ z.length <= 10000 /\ (m7 z = true -> ∀ H', Same H H' -> Q (.int (val z)) H') /\ (m7 z = false -> ∀ H', Same H H' -> E (.ref NX) none H')
def M6 (NX : Addr) (E : XK) : TS :=
  (c8 (sIf (J7 (ptG (g5 z8 [] E (a8 (gv 0) b7))))
    (V6 E NX (a8 (tC (.str "a number is not written by 1 to 40 figures without a nought ahead")) b7))
    g0)
  (g8 (tCB intG (a8 (gv 0) b7))))
theorem Z2 {z : Str} {H : Hp} {D : Ends} {E : XK} (hz : z.length <= 10000) (q : m7 z = true -> ∀ H', Same H H' -> D.rt (.int (val z)) H') (qe : m7 z = false -> ∀ H', Same H H' -> E (.ref NX) none H') : M6 NX E D [some (.str z)] H := by
  have hs := sz
  refine ⟨z, rfl, by omega, λ G s => ?_⟩
  cases h : m7 z with
  | true => exact y9 rfl ⟨by have := (P3 h).2.1; omega, _, a2c h, q h G s⟩
  | false => exact u0 rfl ⟨few rfl, qe h G s⟩
end
end Tw
end Tv
namespace Tv
open PySem PySem.Spec PyProof.Rows L2
namespace Tw
open Nu
section
variable {cl NX : Addr}
abbrev Lp (ps : List (Str × Str)) : List Str := ("all" : Str) :: E6 ps
abbrev Cc (cs : List Str) : List Str := cs ++ [("all" : Str)]
theorem nW_len {p : Str} {m : Nat} {W ws : List Str} (h : nW p (m + 1) W = some ws) : ws.length = m + 1 := by
  unfold nW at h
  split at h
  . rename_i z
    cases h
    rw [List.length_append, List.length_take, List.length_drop, List.length_drop]
    omega
  . cases h
theorem nW_lens {p : Str} {m : Nat} {W ws : List Str} {b : Nat} (hb : ∀ w ∈ W, w.length <= b) (h : nW p m W = some ws) : ∀ w ∈ ws, w.length <= b := by
  unfold nW at h
  split at h
  . cases h
    intro w hw
    rcases List.mem_append.mp hw with h | h
    . exact hb w (List.mem_of_mem_drop (List.mem_of_mem_take h))
    . exact hb w (List.mem_of_mem_drop h)
  . cases h
theorem U3 {α β : Type} {f : α -> β -> Option α} {z : α} {l : List β} {i : Nat} (h : (l.take i).foldlM f z = none) : l.foldlM f z = none := by
  have := fold_none h (l.drop i)
  rwa [List.take_append_drop] at this
theorem a2e {p : Str} {d d' : Dct} {cw : Str × Str} (h : k8 p d cw = some d') : d'.length <= d.length + 1 := by
  unfold k8 at h
  split at h
  . cases h
    omega
  . split at h
    . cases h
      exact putK_len ..
    . cases h
def p8 (cl NX : Addr) : Sp := λ vs H Q E => ∃ (x : Addr) (v : V) (ps : List (Str × Str)) (cs : List Str), vs = [.ref x, v] /\ HouseAt cl H x ps cs /\ R6 H v /\ (∀ z d, v = .str z -> j5 (Lp ps) (Cc cs) (d7 z) = some d -> ∀ pd H', Same H H' -> H pd = none -> H' pd = some (.dT d) -> Q (.ref pd) H') /\ ((∀ z, v = .str z -> j5 (Lp ps) (Cc cs) (d7 z) = none) -> ∀ H', Same H H' -> E (.ref NX) none H')
def tn_word (NX : Addr) (E : XK) : TS :=
  (sIf (bT (tOp neG (gv 9) (tC (.str "*"))))
        (e9 (g5 (p7 NX) [] E (a8 (gv 9) b7)) (gSub (gv 5) (a1Q (a8 (gv 6) (a8 (gv 8) b7))) T4))
        g0)
def tn_row (NX : Addr) (E : XK) : TS :=
  (N7 (iZipG (a8 (gv 3) (a8 (g5 (m9 NX) [] E (a8 (gv 6) (a8 (tCB x4 (a8 (gv 3) b7)) (a8 (gv 7) b7)))) b7))) (X4 2 (P6 (b9 8) (P6 (b9 9) gNil)))
      (tn_word NX E))
def tn_end (NX : Addr) (E : XK) : TS :=
  (c8 (sIf (bT (tOp neG (tCB x4 (a8 (gv 4) b7)) (tCB x4 (a8 (gv 2) b7))))
    (V6 E NX (a8 (tC (.str "there is not just one row for each part and for all")) b7))
    g0)
  (c8 (e9 a1R (b9 5))
  (c8 (N7 (iZipG (a8 (gv 2) (a8 (gv 4) b7))) (X4 2 (P6 (b9 6) (P6 (b9 7) gNil)))
    (tn_row NX E))
  (g8 (gv 5)))))
def M7 (cl NX : Addr) (E : XK) : TS :=
  (c8 (e9 (tOp j0 (u4 (a8 (tC (.str "all")) b7)) (V2 cl "parts" (U0 cl) E (gv 0) b7)) (b9 2))
  (c8 (e9 (tOp j0 (V2 cl "columns" (K8 cl) E (gv 0) b7) (u4 (a8 (tC (.str "all")) b7))) (b9 3))
  (c8 (e9 (y4 "split" (g5 (k9 NX) [] E (a8 (gv 1) b7)) (a8 (tC (.str "\n")) b7)) (b9 4))
  (tn_end NX E))))
variable {x pl pc pr pd : Addr} {v : V} {L C R : List Str} {B H : Hp} {D : Ends} {E : XK} {u6 u7 u8 u9 : Option V}
theorem r_tn_word {p c w : Str} {d : Dct} {o1 o2 o3 o4 : Option V} (hw : w.length <= 10000) (sB : Same B H) (nd : B pd = none) (hd : H pd = some (.dT d)) (ld : d.length <= 100000)
    (q : ∀ d', k8 p d (c, w) = some d' -> ∀ H', Same B H' -> (∀ b o, b ≠ pd -> H b = some o -> H' b = some o) -> H' pd = some (.dT d') -> D.nx [o1, o2, o3, o4, u6, some (.ref pd), some (.str p), u7, some (.str c), some (.str w)] H') (qe : k8 p d (c, w) = none -> ∀ H', Same B H' -> E (.ref NX) none H') :
    tn_word NX E D [o1, o2, o3, o4, u6, some (.ref pd), some (.str p), u7, some (.str c), some (.str w)] H := by
  have hs := sz
  refine i9 (λ b => ?_) (λ b => ?_)
  . have b : (!(w == ("*" : Str))) = true := b
    have b : w ≠ "*" := by simpa using b
    refine ⟨w, rfl, hw, λ hf G1 s1 => ⟨few rfl, c7 λ t G2 n2 s2 t2 => setT_i ((s1.trans s2) _ _ hd) t2 (by omega) ?_⟩, λ hf G1 s1 => qe ?_ G1 (sB.trans s1)⟩
    . refine q _ ?_ _ ((sB.trans (s1.trans s2)).put nd) (λ b o ne e => by rw [b4 ne]; exact (s1.trans s2) _ _ e) b6
      unfold k8
      rw [if_neg b, if_pos hf]
    . unfold k8
      rw [if_neg b, if_neg (by rw [hf]; exact Bool.false_ne_true)]
  . have b : (!(w == ("*" : Str))) = false := b
    have b : w = "*" := by simpa using b
    refine q d ?_ H sB (λ b o _ e => e) hd
    unfold k8
    rw [if_pos b]
theorem r_tn_row {p row : Str} {d : Dct} (h8 : p.length <= 8) (hr : row.length <= 10000) (hC : 1 <= C.length) (hC9 : C.length <= 9) (sB : Same B H) (nd : B pd = none) (hc : H pc = some (.lst (sts C))) (hd : H pd = some (.dT d)) (ld : d.length <= 1000)
    (q : ∀ d', D6 C d (p, row) = some d' -> d'.length <= d.length + 9 -> ∀ u8 u9 H', Same B H' -> (∀ b o, b ≠ pd -> H b = some o -> H' b = some o) -> H' pd = some (.dT d') -> D.nx [some (.ref x), some v, some (.ref pl), some (.ref pc), some (.ref pr), some (.ref pd), some (.str p), some (.str row), u8, u9] H') (qe : D6 C d (p, row) = none -> ∀ H', Same B H' -> E (.ref NX) none H') :
    tn_row NX E D [some (.ref x), some v, some (.ref pl), some (.ref pc), some (.ref pr), some (.ref pd), some (.str p), some (.str row), u8, u9] H := by
  have hs := sz
  have lC : (sts C).length = C.length := by simp [sts]
  have ncd : pc ≠ pd := λ z => by rw [z, hd] at hc; cases hc
  refine B9 (k7 hc ⟨p, row, C.length - 1, ?_, h8, hr, ?_, ?_⟩)
  . rw [lC, show C.length - 1 + 1 = C.length by omega]
    rfl
  . intro ws hW pw G1 s1 n1 t1
    have lw := nW_len hW
    rw [show C.length - 1 + 1 = C.length by omega] at lw hW
    have lws := nW_lens (K9 row).2 hW
    have eR : D6 C d (p, row) = (C.zip ws).foldlM (k8 p) d := by
      unfold D6
      rw [hW]
    rw [eR] at q qe
    have nwd : pw ≠ pd := λ z => by rw [z, hd] at n1; cases n1
    refine zip_i (s1 _ _ hc) t1 (a0W (xs := sts C) (ys := sts ws) (by simp [sts]; omega) (λ j σ G => Same B G /\ (∀ b o, b ≠ pd -> G1 b = some o -> G b = some o) /\ (∃ d', ((C.zip ws).take j).foldlM (k8 p) d = some d' /\ d'.length <= d.length + j /\ G pd = some (.dT d')) /\ ∃ u8 u9, σ = [some (.ref x), some v, some (.ref pl), some (.ref pc), some (.ref pr), some (.ref pd), some (.str p), some (.str row), u8, u9])
      ⟨sB.trans s1, λ b o _ e => e, ⟨d, rfl, by omega, s1 _ _ hd⟩, _, _, rfl⟩ (λ j σ G _ h => ⟨h.2.1 _ _ ncd (s1 _ _ hc), h.2.1 _ _ nwd t1⟩) ?_ ?_)
    . rintro j c0 w0 t σ G G' hc0 hw0 ⟨sm, kp, ⟨d', ef, ld', hg⟩, u8, u9, rfl⟩ nt st ht
      obtain ⟨c, hc1, rfl⟩ := K7 hc0
      obtain ⟨w, hw1, rfl⟩ := K7 hw0
      have hj := (List.getElem?_eq_some_iff.mp hc1).1
      have hz : (C.zip ws)[j]? = some (c, w) := List.getElem?_zip_eq_some.mpr ⟨hc1, hw1⟩
      have es : ((C.zip ws).take (j + 1)).foldlM (k8 p) d = k8 p d' (c, w) := by
        rw [h7 hz, P4, ef]
        rfl
      refine ⟨t, _, rfl, .inl ht, rfl, _, _, rfl, _, _, rfl, rfl, ?_⟩
      refine r_tn_word (B := B) (Nat.le_trans (lws w (List.mem_of_getElem? hw1)) hr) (sm.trans st) nd (st _ _ hg) (by omega) (λ d2 e2 G2 s2 k2 t2 => ⟨s2, λ b o ne e => k2 b o ne (st _ _ (kp b o ne e)), ⟨d2, es.trans e2, ?_, t2⟩, _, _, rfl⟩) λ e2 G2 s2 => qe (U3 (es.trans e2)) G2 s2
      have := a2e e2
      omega
    . rintro σ G ⟨sm, kp, ⟨d', ef, ld', hg⟩, u8, u9, rfl⟩
      have el : (C.zip ws).length = C.length := by rw [List.length_zip]; omega
      rw [lC, <- el, List.take_length] at ef
      exact q d' ef (by omega) _ _ G sm (λ b o ne e => kp b o ne (s1 _ _ e)) hg
  . intro hW G1 s1
    rw [show C.length - 1 + 1 = C.length by omega] at hW
    refine qe ?_ G1 (sB.trans s1)
    unfold D6
    rw [hW]
theorem r_tn_end (hL8 : ∀ p ∈ L, p.length <= 8) (lL : L.length <= 25) (hC : 1 <= C.length) (hC9 : C.length <= 9) (hR : ∀ r ∈ R, r.length <= 10000) (lR : R.length <= 100000) (hl : H pl = some (.lst (sts L))) (hc : H pc = some (.lst (sts C))) (hr : H pr = some (.lst (sts R)))
    (q : ∀ d, j5 L C R = some d -> ∀ pd H', Same H H' -> H pd = none -> H' pd = some (.dT d) -> D.rt (.ref pd) H') (qe : j5 L C R = none -> ∀ H', Same H H' -> E (.ref NX) none H') :
    tn_end NX E D [some (.ref x), some v, some (.ref pl), some (.ref pc), some (.ref pr), none, none, none, none, none] H := by
  have hs := sz
  have eL : (sts L).length = L.length := by simp [sts]
  have eR : (sts R).length = R.length := by simp [sts]
  refine k7 hr (k7 hl ?_)
  rw [eL, eR]
  by_cases hn : R.length = L.length
  . have eP : j5 L C R = (L.zip R).foldlM (D6 C) [] := by
      unfold j5
      rw [if_pos hn]
    rw [eP] at q qe
    refine y9 (by rw [hn]; simp [PyData.eqv]) (.inr (c7 λ pd G1 n1 s1 t1 => ?_))
    have nl : pl ≠ pd := λ z => by rw [z, n1] at hl; cases hl
    have nc : pc ≠ pd := λ z => by rw [z, n1] at hc; cases hc
    have nr : pr ≠ pd := λ z => by rw [z, n1] at hr; cases hr
    refine B9 (zip_i (s1 _ _ hl) (s1 _ _ hr) (a0W (xs := sts L) (ys := sts R) (by rw [eL, eR, hn]) (λ i σ G => Same H G /\ (∃ d, ((L.zip R).take i).foldlM (D6 C) [] = some d /\ d.length <= 9 * i /\ G pd = some (.dT d)) /\ ∃ u6 u7 u8 u9, σ = [some (.ref x), some v, some (.ref pl), some (.ref pc), some (.ref pr), some (.ref pd), u6, u7, u8, u9])
      ⟨s1, ⟨[], rfl, by simp, t1⟩, _, _, _, _, rfl⟩ (λ i σ G _ h => ⟨h.1 _ _ hl, h.1 _ _ hr⟩) ?_ ?_))
    . rintro i p0 r0 t σ G G' hp0 hr0 ⟨sm, ⟨d, ef, ld, hg⟩, u6, u7, u8, u9, rfl⟩ nt st ht
      obtain ⟨p, hp1, rfl⟩ := K7 hp0
      obtain ⟨row, hr1, rfl⟩ := K7 hr0
      have hi := (List.getElem?_eq_some_iff.mp hp1).1
      have hz : (L.zip R)[i]? = some (p, row) := List.getElem?_zip_eq_some.mpr ⟨hp1, hr1⟩
      have es : ((L.zip R).take (i + 1)).foldlM (D6 C) [] = D6 C d (p, row) := by
        rw [h7 hz, P4, ef]
        rfl
      refine ⟨t, _, rfl, .inl ht, rfl, _, _, rfl, _, _, rfl, rfl, ?_⟩
      have S := sm.trans st
      exact r_tn_row (B := H) (hL8 p (List.mem_of_getElem? hp1)) (hR row (List.mem_of_getElem? hr1)) hC hC9 S n1 (S _ _ hc) (st _ _ hg) (by omega) (λ d2 e2 l2 u8 u9 G2 s2 k2 t2 => ⟨s2, ⟨d2, es.trans e2, by omega, t2⟩, _, _, _, _, rfl⟩) λ e2 G2 s2 => qe (U3 (es.trans e2)) G2 s2
    . rintro σ G ⟨sm, ⟨d, ef, ld, hg⟩, u6, u7, u8, u9, rfl⟩
      have el : (L.zip R).length = L.length := by rw [List.length_zip]; omega
      rw [eL, <- el, List.take_length] at ef
      exact q d ef pd G sm n1 hg
  . refine u0 ?_ ⟨few rfl, qe ?_ H (Same.refl H)⟩
    . simp [PyData.eqv]
      omega
    . unfold j5
      rw [if_neg hn]
theorem Z3 {ps : List (Str × Str)} {cs : List Str} (h : HouseAt cl H x ps cs) (ht : R6 H v)
    (q : ∀ z d, v = .str z -> j5 (Lp ps) (Cc cs) (d7 z) = some d -> ∀ pd H', Same H H' -> H pd = none -> H' pd = some (.dT d) -> D.rt (.ref pd) H') (qe : (∀ z, v = .str z -> j5 (Lp ps) (Cc cs) (d7 z) = none) -> ∀ H', Same H H' -> E (.ref NX) none H') :
    M7 cl NX E D [some (.ref x), some v, none, none, none, none, none, none, none, none] H := by
  have hs := sz
  have g := h.good
  have g2 := g.many
  have h8 := h.many
  obtain ⟨_, _, _, _, dx, _, _, _, _, e1, _⟩ := id h
  have ln : (E6 ps).length = ps.length := List.length_map ..
  refine ⟨few rfl, c7 λ pa Ga na sa ta => ?_⟩
  refine meth_i (sa _ _ e1) rfl ⟨x, ps, cs, rfl, h.same sa, λ r1 G2 s2 n2 t2 => ?_⟩
  refine A9 (s2 _ _ ta) t2 (by simp [sts]; omega) (c7 λ pl G3 n3 s3 t3 => ?_)
  have t3 : G3 pl = some (.lst (sts (Lp ps))) := by rw [t3]; rfl
  have S3 := sa.trans (s2.trans s3)
  refine meth_i (S3 _ _ e1) rfl ⟨x, ps, cs, rfl, h.same S3, λ r2 G4 s4 n4 t4 => ?_⟩
  refine ⟨few rfl, c7 λ pb G5 n5 s5 t5 => A9 (s5 _ _ t4) t5 (by simp [sts]; omega) (c7 λ pc G6 n6 s6 t6 => ?_)⟩
  have t6 : G6 pc = some (.lst (sts (Cc cs))) := by rw [t6]; simp [sts]
  have s36 := s4.trans (s5.trans s6)
  have S6 := S3.trans s36
  refine ⟨v, rfl, ?_, λ z ez G7 s7 => ?_, λ no G7 s7 => qe (λ z e => (no z e).elim) G7 (S6.trans s7)⟩
  . rcases ht with ht | ⟨ht, no⟩
    . exact .inl ht
    . exact .inr ⟨ht.same S6, no⟩
  . subst ez
    have lz : z.length <= 10000 := by
      rcases ht with ⟨z', e, hz⟩ | ⟨_, no⟩
      . cases e
        exact hz
      . exact (no z rfl).elim
    refine U1 (O5 (by omega) (by decide +kernel) (c7 λ pr G8 n8 s8 t8 => ?_))
    have t8 : G8 pr = some (.lst (sts (d7 z))) := t8
    have S8 := S6.trans (s7.trans s8)
    obtain ⟨rl, rw'⟩ := a2b z
    refine r_tn_end (L := Lp ps) (C := Cc cs) (R := d7 z) (λ p hp => ?_) (by simp [ln]; omega) (by simp) (by simp; omega) (λ r hr => Nat.le_trans (rw' r hr) lz) (by omega) ((s36.trans (s7.trans s8)) _ _ t3) ((s7.trans s8) _ _ t6) t8 (λ d e pd G9 s9 n9 t9 => q z d rfl e pd G9 (S8.trans s9) (w6 S8 n9) t9) λ e G9 s9 => qe (λ z' ez => by cases ez; exact e) G9 (S8.trans s9)
    rcases List.mem_cons.mp hp with rfl | m
    . decide +kernel
    . exact (J1 (g.nms.1 _ m)).2.1
end
end Tw
end Tv
namespace Tv
open PySem PySem.Spec PyProof.Rows L2
namespace Tx
section
variable {K : PySem.W.Frag} {cl : Addr}
end
end Tx
end Tv
namespace Tv
open PySem PySem.Spec PyProof.Rows L2
namespace Ty
open Tx
section
variable {K : PySem.W.Frag} {cl NH NX : Addr}
end
end Ty
end Tv
namespace Tv
open PySem PySem.Spec PyProof.Rows L2
namespace Ty
open Tx
section
variable {K : PySem.W.Frag} {cl NH NX : Addr}
end
end Ty
end Tv
namespace Tv
open PySem PySem.Spec PyProof.Rows L2
namespace Ty
open Tx
section
variable {K : PySem.W.Frag} {cl NH NX : Addr}
theorem slice_len (x : Str) (l u : Option Int) : (Txt.slice x l u).length <= x.length := Txt.slice_le x l u
theorem P5 (zs : List Str) (lo hi : Option Int) : ∃ ys, J9 (sts zs) lo hi = sts ys /\ ys.length <= zs.length /\ ∀ y ∈ ys, y ∈ zs := by
  refine ⟨(zs.drop (HT.sIx zs.length 0 lo)).take (HT.sIx zs.length zs.length hi - HT.sIx zs.length 0 lo), ?_, ?_, λ y hy => List.mem_of_mem_drop (List.mem_of_mem_take hy)⟩
  . unfold J9
    rw [sts, List.length_map, sts, List.map_take, List.map_drop]
  . rw [List.length_take, List.length_drop]
    omega
theorem L0 {zs : List Str} {b n : Nat} (h : ∀ z ∈ zs, z.length <= b) (hn : zs.length <= n) : (zs.map (·.length)).sum + zs.length * ("\n" : Str).length <= n * (b + 1) /\ (Txt.join "\n" zs).length <= n * (b + 1) := by
  have e1 : ("\n" : Str).length = 1 := by decide +kernel
  have a1 : (zs.map (·.length)).sum <= zs.length * b := StrLaws.sumLen_le _ h
  have a2 := J3 "\n" zs
  rw [C4]
  rw [e1] at a2 ⊢
  have a3 : zs.length * (b + 1) <= n * (b + 1) := Nat.mul_le_mul_right _ hn
  rw [Nat.mul_add] at a3
  omega
end
end Ty
end Tv
namespace Tv
open PySem PySem.Spec PyProof.Rows L2
namespace Ty
open Tx
section
variable {K : PySem.W.Frag} {cl NH NX : Addr}
theorem a3f {a b : List Str} {x : Str} {n : Nat} (ha : ∀ y ∈ a, y.length <= n) (hb : ∀ y ∈ b, y.length <= n) (h : x ∈ a ++ b) : x.length <= n := (List.mem_append.mp h).elim (ha x) (hb x)
end
end Ty
end Tv
namespace Tv
open PySem PySem.Spec PyProof.Rows L2
namespace Ty
open Tx
section
variable {K : PySem.W.Frag} {cl NH NX : Addr}
theorem inStr_i {neg : Bool} {i j : Str} {H : Hp} {Q : VK} (q : Q (.bl (neg ^^ !(Builtin.Str.occurrences j i 0 j.length 1).isEmpty)) H) : inG neg (.str i) (.str j) H Q := by
  unfold inG
  exact q
section
variable {z r w n : Str} {rest k c : List Str} {pk pc pw : Addr} {u : Option V} {H : Hp} {D : Ends}
end
end
end Ty
end Tv
namespace Tv
open PySem PySem.Spec PyProof.Rows L2
namespace Tw
open Nu
def GW (w : Str) : Prop := w = "*" \/ m7 w = true
theorem GW.free {w : Str} (h : GW w) {c : Nat} (hc : c = 32 \/ c = 10) : c ∉ w.cps.toList := by
  rcases h with rfl | h
  . rcases hc with rfl | rfl <;> decide +kernel
  . intro m
    have := (P3 h).2.2 c m
    omega
theorem GW.len {w : Str} (h : GW w) : w.length <= 40 := by
  rcases h with rfl | h
  . decide +kernel
  . exact (P3 h).2.1
def M8 (p : Str) (ws : List Str) (t : Str) : List Str := (p ++ ":") :: (ws ++ (["=", t] : List Str))
structure GL (p : Str) (m : Nat) (z : Str) : Prop where
  mk ::
  at' : ∃ ws t, z = Str.join " " (M8 p ws t) /\ ws.length = m /\ (∀ w ∈ ws, GW w) /\ GW t
theorem a0X {p t : Str} {ws : List Str} (hp : Word p) (hw : ∀ w ∈ ws, GW w) (ht : GW t) {c : Nat} (hc : c = 32 \/ c = 10) : ∀ w ∈ M8 p ws t, c ∉ w.cps.toList := by
  intro w h
  unfold M8 at h
  rcases List.mem_cons.mp h with rfl | h
  . rw [F6]
    intro m
    rcases List.mem_append.mp m with m | m
    . have := hp c m
      omega
    . have e : (":" : Str).cps.toList = [58] := by decide +kernel
      rw [e] at m
      have := List.mem_singleton.mp m
      omega
  . rcases List.mem_append.mp h with h | h
    . exact (hw w h).free hc
    . rcases List.mem_cons.mp h with rfl | h
      . rcases hc with rfl | rfl <;> decide +kernel
      . rw [List.mem_singleton.mp h]
        exact ht.free hc
theorem GL.words {p z : Str} {m : Nat} (hp : Word p) (h : GL p m z) : ∃ ws t, d8 z = M8 p ws t /\ ws.length = m /\ (∀ w ∈ ws, GW w) /\ GW t := by
  obtain ⟨ws, t, rfl, hl, hw, ht⟩ := h.at'
  refine ⟨ws, t, ?_, hl, hw, ht⟩
  unfold d8
  rw [bl_eq]
  exact a0U (by unfold M8; simp) (a0X hp hw ht (.inl rfl))
theorem a2f {c : Nat} {s : Str} (hs : c ∉ s.cps.toList) : ∀ {ls : List Str}, (∀ p ∈ ls, c ∉ p.cps.toList) -> c ∉ (Str.join s ls).cps.toList
  | [], _ => by
    rw [show Str.join s ([] : List Str) = "" from rfl, show ("" : Str).cps.toList = [] from rfl]
    exact List.not_mem_nil
  | [a], h => by
    rw [show Str.join s [a] = a from rfl]
    exact h a (by simp)
  | a :: b :: r, h => by
    rw [v5]
    intro m
    rcases List.mem_append.mp m with m | m
    . exact h a (by simp) m
    . rcases List.mem_append.mp m with m | m
      . exact hs m
      . exact a2f hs (λ p hp => h p (List.mem_cons_of_mem _ hp)) m
theorem GL.free {p z : Str} {m : Nat} (hp : Word p) (h : GL p m z) : 10 ∉ z.cps.toList := by
  obtain ⟨ws, t, rfl, hl, hw, ht⟩ := h.at'
  exact a2f (by decide +kernel) (a0X hp hw ht (.inr rfl))
theorem GL.len {p z : Str} {m : Nat} (hp : p.length <= 8) (hm : m <= 8) (h : GL p m z) : z.length <= 500 := by
  obtain ⟨ws, t, rfl, hl, hw, ht⟩ := h.at'
  have a1 : ∀ w ∈ M8 p ws t, w.length <= 40 := λ w h => by
    unfold M8 at h
    have e1 : (":" : Str).length = 1 := by decide +kernel
    rcases List.mem_cons.mp h with rfl | h
    . rw [Str.length_append]
      omega
    . rcases List.mem_append.mp h with h | h
      . exact (hw w h).len
      . rcases List.mem_cons.mp h with rfl | h
        . decide +kernel
        . rw [List.mem_singleton.mp h]
          exact ht.len
  have a2 := StrLaws.sumLen_le _ a1
  have a3 := J3 " " (M8 p ws t)
  have e1 : (" " : Str).length = 1 := by decide +kernel
  have ll : (M8 p ws t).length = m + 3 := by unfold M8; simp; omega
  rw [ll] at a2 a3
  rw [e1] at a3
  have : (m + 3) * 40 <= 440 := by omega
  omega
theorem W6 {α β : Type} {f : α -> β -> Option α} : ∀ {l : List β}, (∀ x ∈ l, ∀ d, ∃ d', f d x = some d') -> ∀ d, ∃ d', l.foldlM f d = some d'
  | [], _, d => ⟨d, rfl⟩
  | x :: l, h, d => by
    obtain ⟨d1, e1⟩ := h x (by simp) d
    obtain ⟨d2, e2⟩ := W6 (l := l) (λ y hy => h y (by simp [hy])) d1
    exact ⟨d2, by rw [List.foldlM_cons, e1]; exact e2⟩
theorem a5l {p : Str} {d : Dct} {cw : Str × Str} (h : GW cw.2) : ∃ d', k8 p d cw = some d' := by
  unfold k8
  by_cases e : cw.2 = "*"
  . exact ⟨_, if_pos e⟩
  . rw [if_neg e]
    rcases h with h | h
    . exact (e h).elim
    . exact ⟨_, if_pos h⟩
theorem GL.row {p z : Str} {C : List Str} {m : Nat} (hC : C.length = m + 1) (hp : Word p) (h : GL p m z) (d : Dct) : ∃ d', D6 C d (p, z) = some d' := by
  obtain ⟨ws, t, ew, hl, hw, ht⟩ := h.words hp
  have e : nW p C.length (d8 z) = some (ws ++ [t]) := by
    rw [ew, hC, <- hl]
    exact a3e rfl rfl
  unfold D6
  rw [e]
  refine W6 (λ cw hcw d => a5l ?_) d
  have := (List.of_mem_zip hcw).2
  rcases List.mem_append.mp this with h | h
  . exact hw _ h
  . rw [List.mem_singleton.mp h]
    exact ht
theorem a5m {L C ls : List Str} {m : Nat} (hC : C.length = m + 1) (hl : ls.length = L.length) (hL : ∀ p ∈ L, Word p) (h : ∀ (i : Nat) p z, L[i]? = some p -> ls[i]? = some z -> GL p m z) : ∃ d, j5 L C ls = some d := by
  unfold j5
  rw [if_pos hl]
  refine W6 (λ pr hpr d => ?_) []
  obtain ⟨i, hi⟩ := List.mem_iff_getElem?.mp hpr
  obtain ⟨h1, h2⟩ := List.getElem?_zip_eq_some.mp hi
  exact GL.row hC (hL _ (List.mem_of_getElem? h1)) (h i _ _ h1 h2) d
def p9 : Sp := λ vs H Q _ => ∃ z : Str, vs = [.str z] /\ z.length <= 10000 /\ Q (.bl (m7 z)) H
def M9 : TS :=
  (c8 (sIf (V1 (bT (tOp ltG (tCB x4 (a8 (gv 0) b7)) (tC (.int 1)))) (V1 (bT (tOp gtG (tCB x4 (a8 (gv 0) b7)) (tC (.int 40)))) (tAndB (bT (tOp eqG (tOp j9 (gv 0) (tC (.int 0))) (tC (.str "0")))) (bT (tOp gtG (tCB x4 (a8 (gv 0) b7)) (tC (.int 1)))))))
    (g8 (tC (.bl false)))
    g0)
  (c8 (N7 (iOf w5 (gv 0)) (b9 1)
    (sIf (bT (tOp (inG true) (gv 1) (tC (.str "0123456789"))))
      (g8 (tC (.bl false)))
      g0))
  (g8 (tC (.bl true)))))
theorem dig_cps : ("0123456789" : Str).cps.toList = (List.range 10).map (48 + ·) := by decide +kernel
theorem in_dig (c : Nat) : (!(Builtin.Str.occurrences ("0123456789" : Str) ⟨#[c]⟩ 0 ("0123456789" : Str).length 1).isEmpty) = J4 c := by
  rw [Bool.eq_iff_iff, StrLaws.found_iff]
  simp only [StrLaws.subAt_one, dig_cps]
  unfold J4
  simp only [Bool.and_eq_true, decide_eq_true_eq]
  constructor
  . rintro ⟨i, h⟩
    rw [List.getElem?_map] at h
    cases e : (List.range 10)[i]? with
    | none => rw [e] at h; cases h
    | some j =>
      rw [e] at h
      have := List.mem_range.mp (List.mem_of_getElem? e)
      simp at h
      omega
  . intro h
    exact ⟨c - 48, by rw [List.getElem?_map, List.getElem?_range (by omega)]; simp; omega⟩
theorem a0c {z : Str} (h : z.length < 1 \/ 40 < z.length \/ (z.cps.toList.head? = some 48 /\ 1 < z.length) \/ ∃ c ∈ z.cps.toList, J4 c = false) : m7 z = false := by
  cases e : m7 z with
  | false => rfl
  | true =>
    have e1 := P3 e
    unfold m7 at e
    simp only [Bool.and_eq_true] at e
    rcases h with h | h | ⟨h, hl⟩ | ⟨c, hc, h⟩
    . omega
    . omega
    . have e2 := e.2
      rw [h] at e2
      simp only [Bool.or_eq_true, beq_iff_eq] at e2
      rcases e2 with e2 | e2
      . rw [e2] at hl
        exact absurd hl (by decide +kernel)
      . exact absurd e2 (by decide)
    . have := List.all_eq_true.mp e.1.2 c hc
      rw [h] at this
      cases this
theorem one_zero {z : Str} (hl : z.length = 1) (h : z.cps.toList.head? = some 48) : z = "0" := by
  refine T6 ?_
  have l : z.cps.toList.length = 1 := by rw [a0T]; exact hl
  rw [show ("0" : Str).cps.toList = [48] by decide +kernel]
  cases e : z.cps.toList with
  | nil => rw [e] at l; cases l
  | cons a r =>
    rw [e] at l h
    have : r = [] := List.eq_nil_of_length_eq_zero (by simpa using l)
    subst this
    simpa using h
theorem figB_yes {z : Str} (h2 : ¬ z.length < 1) (h3 : ¬ 40 < z.length) (h0 : z.cps.toList.head? = some 48 -> ¬ 1 < z.length) (h4 : z.cps.toList.all J4 = true) : m7 z = true := by
  unfold m7
  rw [h4, decide_eq_true (show 1 <= z.length by omega), decide_eq_true (show z.length <= 40 by omega)]
  by_cases h : z.cps.toList.head? = some 48
  . have := one_zero (by have := h0 h; omega) h
    rw [this]
    decide +kernel
  . have : (z.cps.toList.head? == some 48) = false := by simpa using h
    rw [this]
    simp
theorem Z4 {z : Str} {H : Hp} {D : Ends} (hz : z.length <= 10000) (q : D.rt (.bl (m7 z)) H) : M9 D [some (.str z), none] H := by
  have hs := sz
  have no : m7 z = false -> D.rt (.bl false) H := λ e => by
    rw [e] at q
    exact q
  have rest : ¬ z.length < 1 -> ¬ 40 < z.length -> (z.cps.toList.head? = some 48 -> ¬ 1 < z.length) -> (c8 (N7 (iOf w5 (gv 0)) (b9 1) (sIf (bT (tOp (inG true) (gv 1) (tC (.str "0123456789")))) (g8 (tC (.bl false))) g0)) (g8 (tC (.bl true)))) D [some (.str z), none] H := by
    intro h2 h3 h0
    refine B9 (a2W (loop_str (λ i σ G => G = H /\ (z.cps.toList.take i).all J4 = true /\ ∃ u, σ = [some (.str z), u]) ⟨rfl, rfl, _, rfl⟩ ?_ ?_))
    . rintro i c σ G hc ⟨rfl, ha, u, rfl⟩
      have hc' : z.cps.toList[i]? = some c := by rw [Array.getElem?_toList]; exact hc
      refine Ty.inStr_i ?_
      rw [in_dig, Bool.true_xor]
      refine i9 (λ b2 => ?_) (λ b2 => ?_)
      . have b2 : J4 c = false := by simpa using b2
        exact no (a0c (.inr (.inr (.inr ⟨c, List.mem_of_getElem? hc', b2⟩))))
      . have b2 : J4 c = true := by simpa using b2
        refine ⟨rfl, ?_, _, rfl⟩
        rw [h7 hc', List.all_append, ha]
        simp [b2]
    . rintro σ G ⟨rfl, ha, u, rfl⟩
      rw [List.take_of_length_le (by rw [a0T]; exact Nat.le_refl _)] at ha
      rw [figB_yes h2 h3 h0 ha] at q
      exact q
  refine ⟨by omega, N4 (λ hl => u0 rfl (no (a0c (.inl (by omega))))) (λ hl => ⟨by omega, N4 (λ hg => u0 rfl (no (a0c (.inr (.inl (by omega)))))) (λ hg => ?_)⟩)⟩
  obtain ⟨c, hc⟩ : ∃ c, z.cps.toList.head? = some c := by
    cases hh : z.cps.toList with
    | nil =>
      have : z.cps.toList.length = z.length := a0T z
      rw [hh] at this
      simp at this
      omega
    | cons c r => exact ⟨c, rfl⟩
  have h0 : atI z.cps.toList 0 = some c := by
    rw [List.head?_eq_getElem?] at hc
    exact K0 (j := 0) hc
  refine getS_i h0 (by omega) (i9 (λ b => ?_) (λ b => ?_))
  . have b : ((⟨#[c]⟩ : Str) == ("0" : Str)) = true := b
    have b := eq_of_beq b
    have b : c = 48 := by
      have := congrArg (λ y : Str => y.cps.toList) b
      rw [show (("0" : Str).cps.toList) = [48] by decide +kernel] at this
      simpa using this
    subst b
    refine ⟨by omega, N4 (λ h1 => no (a0c (.inr (.inr (.inl ⟨hc, by omega⟩))))) (λ h1 => rest (by omega) (by omega) (λ _ => by omega))⟩
  . have b : ((⟨#[c]⟩ : Str) == ("0" : Str)) = false := b
    refine y9 rfl (rest (by omega) (by omega) λ h => ?_)
    rw [hc] at h
    cases h
    exact absurd b (by decide +kernel)
end Tw
end Tv
namespace Tv
open PySem PySem.Spec PyProof.Rows L2
def U4 (ns : List Int) : Prop := ∀ n ∈ ns, Builtin.Int.intBits n <= 1048576
theorem a0Y : ∀ (ns : List Int) (n : Int), n ∈ ns -> PySem.W.WData.weight (.int n) <= PySem.W.WData.weightAll (ns.map PySem.W.WData.int)
  | [], _, h => nomatch h
  | m :: ns, n, h => by
    rw [List.map_cons, PySem.W.WData.weightAll]
    rcases List.mem_cons.mp h with rfl | h
    . omega
    . have := a0Y ns n h
      omega
theorem short_of {ns : List Int} (h : PySem.W.WData.layableAll [.list (ns.map PySem.W.WData.int)] = true) : U4 ns := λ n hn => by
  have h1 : PySem.W.WData.weightAll (ns.map PySem.W.WData.int) <= 2 ^ 20 := by
    simp only [PySem.W.WData.layableAll, List.all_cons, List.all_nil, Bool.and_true, PySem.W.WData.layable, Bool.and_eq_true, decide_eq_true_eq, PySem.W.WData.weight] at h
    exact of_decide_eq_true h.2
  have h2 := a0Y ns n hn
  rw [PySem.W.WData.weight] at h2
  refine PySem.intBits_le_iff.mpr ?_
  by_cases h0 : n = 0
  . subst h0
    exact Nat.two_pow_pos _
  . have hb : (n == 0) = false := by simpa using h0
    rw [hb] at h2
    simp only [Bool.false_eq_true, if_false] at h2
    exact (Nat.log2_lt (by omega)).mp (by omega)
theorem mul_bits {a b : Int} {m n : Nat} (ha : Builtin.Int.intBits a <= m) (hb : Builtin.Int.intBits b <= n) (h : m + n <= 134217728) : CMulW a b := .inr (PySem.IntMulOk.of_le ha hb h)
end Tv
namespace Tv
open PySem PySem.Spec PyProof.Rows L2
namespace Nu
theorem a3g {a : Int} {m : Nat} (h : a.natAbs < 2 ^ m) : Builtin.Int.intBits a <= m := PySem.intBits_le_iff.mpr h
open Tx
theorem a5n {ns : List Int} (h : U4 ns) (k : Int) : Builtin.Int.intBits (O1 ns k) <= 1048576 := by
  unfold O1
  split
  . by_cases hk : k.toNat < ns.length
    . rw [List.getD_eq_getElem?_getD, List.getElem?_eq_getElem hk]
      exact h _ (List.getElem_mem hk)
    . rw [List.getD_eq_getElem?_getD, List.getElem?_eq_none (by omega)]
      exact Nat.le_trans (a3g (m := 1) (by decide)) (by decide)
  . exact Nat.le_trans (a3g (m := 1) (by decide)) (by decide)
section
variable {K : PySem.W.Frag}
end
end Nu
end Tv
namespace Tv
open PySem PySem.Spec PyProof.Rows L2
namespace Tw
open Nu
def W9 : List Str := ["in", "part", "a", "ab", "allb", "b", "ba", "al", "z"]
def x8 : Sp := λ vs H Q _ => ∃ (c : Int) (m : Nat), vs = [.int c, .int m] /\ m <= 9 /\ ∀ p (zs : List Str) H', Same H H' -> H p = none -> H' p = some (.lst (sts zs)) -> Nms zs -> zs.length = m -> Q (.ref p) H'
def Y2 : TS :=
  (c8 (e9 (u4 (a8 (tC (.str "in")) (a8 (tC (.str "part")) (a8 (tC (.str "a")) (a8 (tC (.str "ab")) (a8 (tC (.str "allb")) (a8 (tC (.str "b")) (a8 (tC (.str "ba")) (a8 (tC (.str "al")) (a8 (tC (.str "z")) b7)))))))))) (b9 2))
  (c8 (e9 (tOp E9 (gv 0) (tC (.int 9))) (b9 3))
  (g8 (tSl slG (tOp j0 (tSl slG (gv 2) (l7 (gv 3)) g6) (tSl slG (gv 2) g6 (l7 (gv 3)))) g6 (l7 (gv 1))))))
theorem rot9 : ∀ j : Fin 9, (∀ z ∈ W9.drop j.val ++ W9.take j.val, Q3 z = true) /\ (W9.drop j.val ++ W9.take j.val).Nodup := by decide +kernel
theorem sts_drop (zs : List Str) (j : Nat) : (sts zs).drop j = sts (zs.drop j) := by simp [sts]
theorem sts_take (zs : List Str) (j : Nat) : (sts zs).take j = sts (zs.take j) := by simp [sts]
theorem a4l {c : Int} {m : Nat} {H : Hp} {D : Ends} (hm : m <= 9) (q : ∀ p (zs : List Str) H', Same H H' -> H p = none -> H' p = some (.lst (sts zs)) -> Nms zs -> zs.length = m -> D.rt (.ref p) H') : Y2 D [some (.int c), some (.int m), none, none] H := by
  have hs := sz
  refine ⟨few rfl, c7 λ p0 G0 n0 s0 t0 => ⟨by decide, ?_⟩⟩
  have w1 := Int.emod_nonneg c (show (9 : Int) ≠ 0 by decide)
  have w2 := Int.emod_lt_of_pos c (show (0 : Int) < 9 by decide)
  obtain ⟨j, hj⟩ : ∃ j : Nat, c % 9 = j := ⟨(c % 9).toNat, by omega⟩
  rw [hj] at w2 ⊢
  have t0 : G0 p0 = some (.lst (sts W9)) := t0
  have l9 : (sts W9).length = 9 := rfl
  obtain ⟨r1, r2⟩ := rot9 ⟨j, by omega⟩
  refine E4 t0 ?_
  rw [R.cut_suf _ (by omega)]
  refine c7 λ p1 G1 n1 s1 t1 => E4 (s1 _ _ t0) ?_
  rw [R.cut_pre _ (by omega)]
  refine c7 λ p2 G2 n2 s2 t2 => A9 (s2 _ _ t1) t2 (by rw [List.length_drop, List.length_take]; omega) (c7 λ p3 G3 n3 s3 t3 => E4 t3 ?_)
  have l3 : ((sts W9).drop j ++ (sts W9).take j).length = 9 := by rw [List.length_append, List.length_drop, List.length_take]; omega
  rw [R.cut_pre _ (by omega)]
  refine c7 λ p4 G4 n4 s4 t4 => ?_
  have e : ((sts W9).drop j ++ (sts W9).take j).take m = sts ((W9.drop j ++ W9.take j).take m) := by
    rw [sts_drop, sts_take]
    simp [sts]
  rw [e] at t4
  have S := s0.trans (s1.trans (s2.trans s3))
  refine q p4 _ G4 (S.trans s4) (w6 S n4) t4 ⟨λ z hz => r1 z (List.mem_of_mem_take hz), r2.sublist (List.take_sublist ..)⟩ ?_
  have : (W9.drop j ++ W9.take j).length = 9 := by
    rw [List.length_append, List.length_drop, List.length_take]
    show 9 - j + min j 9 = 9
    omega
  rw [List.length_take]
  omega
theorem cut_init (xs : List V) (t : V) : J9 (xs ++ [t]) none (some (-1)) = xs := by
  unfold J9
  have l : (xs ++ [t]).length = xs.length + 1 := by simp
  have e1 : HT.sIx (xs ++ [t]).length (xs ++ [t]).length (some (-1)) = xs.length := by
    rw [l]
    show (if (-1 : Int) < 0 then ((-1 : Int) + ((xs.length + 1 : Nat) : Int)).toNat else min (-1 : Int).toNat (xs.length + 1)) = _
    rw [if_pos (by decide)]
    omega
  rw [e1, HT.S9]
  simp
theorem atI_last {α : Type} (xs : List α) (t : α) : atI (xs ++ [t]) (-1) = some t := by
  have e : ixN (xs ++ [t]).length (-1) = some xs.length := by
    unfold ixN
    rw [if_neg (by decide), List.length_append, List.length_singleton, if_pos (by omega)]
    congr 1
    omega
  unfold atI
  rw [e]
  simp
theorem a2g (t : Str) : ∀ (ws : List Str), ws ≠ [] -> (Str.join " " (ws ++ (["=", t] : List Str))).cps.toList = (Str.join " " ws).cps.toList ++ ((" = " : Str).cps.toList ++ t.cps.toList)
  | [], h => (h rfl).elim
  | [a], _ => by
    rw [show ([a] ++ (["=", t] : List Str)) = a :: "=" :: [t] from rfl, v5, v5, show Str.join " " [t] = t from rfl, show Str.join " " [a] = a from rfl, show (" = " : Str).cps.toList = (" " : Str).cps.toList ++ (("=" : Str).cps.toList ++ (" " : Str).cps.toList) by decide +kernel]
    simp
  | a :: b :: r, _ => by
    rw [show (a :: b :: r) ++ (["=", t] : List Str) = a :: b :: (r ++ (["=", t] : List Str)) from rfl, v5, v5, show b :: (r ++ (["=", t] : List Str)) = (b :: r) ++ (["=", t] : List Str) from rfl, a2g t (b :: r) (by simp)]
    simp
theorem line_eq {p t : Str} {ws : List Str} (h : ws ≠ []) : p ++ ": " ++ Str.join " " ws ++ " = " ++ t = Str.join " " (M8 p ws t) := by
  refine T6 ?_
  unfold M8
  cases ws with
  | nil => exact (h rfl).elim
  | cons a r =>
    rw [show (p ++ ":") :: (a :: r ++ (["=", t] : List Str)) = (p ++ ":") :: a :: (r ++ (["=", t] : List Str)) from rfl, v5, show a :: (r ++ (["=", t] : List Str)) = (a :: r) ++ (["=", t] : List Str) from rfl, a2g t (a :: r) (by simp)]
    simp only [F6]
    rw [show (": " : Str).cps.toList = (":" : Str).cps.toList ++ (" " : Str).cps.toList by decide +kernel]
    simp
def tg_word (K : PySem.W.Frag) : TS :=
  (c8 (e9 (g5 (d6 K) [] E0 (a8 (gv 0) (a8 (gv 4) b7))) (b9 8))
      (c8 (e9 (tOp j0 (gv 4) (tC (.int 1))) (b9 4))
      (sIf (bT (tOp eqG (tOp E9 (gv 8) (tC (.int 4))) (tC (.int 0))))
        (F3 (y4 "append" (gv 6) (a8 (tC (.str "*")) b7)))
        (sIf (bT (tOp eqG (tOp E9 (gv 8) (tC (.int 4))) (tC (.int 1))))
          (F3 (y4 "append" (gv 6) (a8 (tCB strG (a8 (tOp E9 (tOp mulG (gv 8) (tOp j0 (tOp powG (tC (.int 10)) (tC (.int 22))) (tC (.int 9)))) (tOp powG (tC (.int 10)) (tC (.int 40)))) b7)) b7)))
          (F3 (y4 "append" (gv 6) (a8 (tCB strG (a8 (tOp E9 (tOp P8 (gv 8) (tC (.int 4))) (tC (.int 50))) b7)) b7)))))))
def tg_line : TS := (F3 (y4 "append" (gv 3) (a8 (tOp j0 (tOp j0 (tOp j0 (tOp j0 (gv 5) (tC (.str ": "))) (y4 "join" (tC (.str " ")) (a8 (tSl slG (gv 6) g6 (l7 (tUn negG (tC (.int 1))))) b7))) (tC (.str " = "))) (tOp j9 (gv 6) (tUn negG (tC (.int 1))))) b7)))
def a0Z (K : PySem.W.Frag) : TS :=
  (c8 (e9 (u4 b7) (b9 3))
  (c8 (e9 (tC (.int 6)) (b9 4))
  (c8 (N7 (iOf w5 (gv 1)) (b9 5)
    (c8 (e9 (u4 b7) (b9 6))
    (c8 (N7 (iRngG (a8 (tOp j0 (gv 2) (tC (.int 1))) b7)) (b9 7)
      (tg_word K))
    tg_line)))
  (g8 (gv 3)))))
def E7 (K : PySem.W.Frag) : Sp := λ vs H Q _ => ∃ (a pp : Addr) (m : Nat) (ns : List Int) (L : List Str), vs = [.ref a, .ref pp, .int m] /\ SqL K H a (ns.map V.int) /\ U4 ns /\ H pp = some (.lst (sts L)) /\ (∀ p ∈ L, p.length <= 8) /\ L.length <= 25 /\ 1 <= m /\ m <= 8 /\ ∀ l (ls : List Str) H', Same H H' -> H l = none -> H' l = some (.lst (sts ls)) -> ls.length = L.length -> (∀ (i : Nat) p z, L[i]? = some p -> ls[i]? = some z -> GL p m z) -> Q (.ref l) H'
section
variable {K : PySem.W.Frag} {a pp l pw : Addr} {ns : List Int} {B H : Hp} {D : Ends}
theorem num_gw {k : Nat} (h : k < 10 ^ 40) : GW (numT k) := .inr (num_fig h)
theorem r_tg_word {c1 c2 c3 c5 u7 u8 : Option V} {k : Int} {ws : List Str} (hS : SqL K H a (ns.map V.int)) (sh : U4 ns) (hk : 0 <= k) (sB : Same B H) (nw : B pw = none) (hw : H pw = some (.lst (sts ws))) (lw : ws.length <= 1000)
    (q : ∀ w u8 H', GW w -> Same B H' -> (∀ b o, b ≠ pw -> H b = some o -> H' b = some o) -> H' pw = some (.lst (sts (ws ++ [w]))) -> D.nx [some (.ref a), c1, c2, c3, some (.int (k + 1)), c5, some (.ref pw), u7, u8] H') :
    tg_word K D [some (.ref a), c1, c2, c3, some (.int k), c5, some (.ref pw), u7, u8] H := by
  have hs := sz
  refine ⟨a, ns, k, rfl, hS, hk, by decide, ?_⟩
  have sc := a5n sh k
  generalize O1 ns k = c at sc ⊢
  have fin : ∀ w, GW w -> K5 (.ref pw) [.str w] H λ _ H1 => D.nx [some (.ref a), c1, c2, c3, some (.int (k + 1)), c5, some (.ref pw), u7, some (.int c)] H1 := λ w gw => by
    refine a2X hw (by rw [sts, List.length_map]; omega) ?_
    rw [T7]
    exact q w _ _ gw (sB.put nw) (λ b o ne e => by rw [b4 ne]; exact e) b6
  have num : ∀ (x b : Int), 0 < b -> b <= 10 ^ 40 -> ∃ k : Nat, x % b = k /\ k < 10 ^ 40 := λ x b h0 h1 => ⟨(x % b).toNat, by
    have := Int.emod_nonneg x (show b ≠ 0 by omega)
    omega, by
    have := Int.emod_nonneg x (show b ≠ 0 by omega)
    have := Int.emod_lt_of_pos x h0
    omega⟩
  refine i9 (λ _ => a1Y hw (fin "*" (.inl rfl))) (λ _ => ⟨by decide, i9 (λ _ => a1Y hw ?_) (λ _ => a1Y hw ?_)⟩)
  . refine ⟨⟨by decide, by decide, by decide⟩, mul_bits sc (a3g (m := 80) (by decide)) (by decide), ⟨by decide, by decide, by decide⟩, by decide, ?_⟩
    obtain ⟨n, en, hn⟩ := num (c * (10 ^ (22 : Int).toNat + 9)) (10 ^ (40 : Int).toNat) (by decide) (by decide)
    rw [en]
    exact ⟨Nu.O8 hn, fin (numT n) (num_gw hn)⟩
  . refine ⟨⟨by decide, by decide⟩, by decide, ?_⟩
    obtain ⟨n, en, hn⟩ := num (c / 4) 50 (by decide) (by decide)
    rw [en]
    exact ⟨Nu.O8 hn, fin (numT n) (num_gw hn)⟩
theorem r_tg_line {c0 c1 c2 c4 u7 u8 : Option V} {p t : Str} {ls ws : List Str} (hp : p.length <= 8) (hw : H pw = some (.lst (sts (ws ++ [t])))) (l1 : 1 <= ws.length) (l8 : ws.length <= 8) (gw : ∀ w ∈ ws, GW w) (gt : GW t) (sB : Same B H) (nl : B l = none) (hl : H l = some (.lst (sts ls))) (ll : ls.length <= 1000)
    (q : ∀ z H', GL p ws.length z -> Same B H' -> (∀ b o, b ≠ l -> H b = some o -> H' b = some o) -> H' l = some (.lst (sts (ls ++ [z]))) -> D.nx [c0, c1, c2, some (.ref l), c4, some (.str p), some (.ref pw), u7, u8] H') :
    tg_line D [c0, c1, c2, some (.ref l), c4, some (.str p), some (.ref pw), u7, u8] H := by
  have hs := sz
  have ex : sts (ws ++ [t]) = sts ws ++ [.str t] := by simp [sts]
  rw [ex] at hw
  have e2 : (": " : Str).length = 2 := by decide +kernel
  have e3 : (" = " : Str).length = 3 := by decide +kernel
  have e1 : (" " : Str).length = 1 := by decide +kernel
  have a2 : (ws.map (·.length)).sum <= ws.length * 40 := StrLaws.sumLen_le _ λ w h => (gw w h).len
  have a3 := J3 " " ws
  rw [e1] at a3
  have a4 : ws.length * 40 <= 320 := by omega
  refine a1Y hl ⟨by omega, B0 (E4 hw ?_)⟩
  rw [cut_init]
  refine c7 λ p1 G1 n1 s1 t1 => z7 t1 (i5 _) (by rw [e1]; omega) ?_
  rw [C4]
  have tl := gt.len
  refine ⟨by rw [Str.length_append]; omega, by rw [Str.length_append, Str.length_append]; omega, j6 (s1 _ _ hw) (v := .str t) (atI_last _ _) ⟨by rw [Str.length_append, Str.length_append, Str.length_append]; omega, a2X (s1 _ _ hl) (by rw [sts, List.length_map]; omega) ?_⟩⟩
  rw [T7]
  refine q _ _ ⟨ws, t, line_eq (λ e => by rw [e] at l1; simp at l1), rfl, gw, gt⟩ ((sB.trans s1).put nl) (λ b o ne e => by rw [b4 ne]; exact s1 _ _ e) b6
theorem a5o {m : Nat} {L : List Str} (hS : SqL K H a (ns.map V.int)) (sh : U4 ns) (hp : H pp = some (.lst (sts L))) (L8 : ∀ p ∈ L, p.length <= 8) (l25 : L.length <= 25) (m1 : 1 <= m) (m8 : m <= 8)
    (q : ∀ l (ls : List Str) H', Same H H' -> H l = none -> H' l = some (.lst (sts ls)) -> ls.length = L.length -> (∀ (i : Nat) p z, L[i]? = some p -> ls[i]? = some z -> GL p m z) -> D.rt (.ref l) H') : a0Z K D [some (.ref a), some (.ref pp), some (.int m), none, none, none, none, none, none] H := by
  have hs := sz
  have eL : (sts L).length = L.length := by simp [sts]
  refine ⟨few rfl, c7 λ l G1 n1 s1 t1 => ?_⟩
  refine B9 (Z8 (s1 _ _ hp) (a0K (xs := sts L) (λ i σ G => Same H G /\ (∃ ls : List Str, G l = some (.lst (sts ls)) /\ ls.length = i /\ ∀ (j : Nat) p z, L[j]? = some p -> ls[j]? = some z -> GL p m z) /\ ∃ k : Int, 0 <= k /\ ∃ u5 u6 u7 u8, σ = [some (.ref a), some (.ref pp), some (.int m), some (.ref l), some (.int k), u5, u6, u7, u8])
    ⟨s1, ⟨[], t1, rfl, λ j p z _ e => by simp at e⟩, 6, by decide, _, _, _, _, rfl⟩ (λ i σ G _ h => h.1 _ _ hp) ?_ ?_))
  . rintro i y σ G hy ⟨sm, ⟨ls, hl, li, gls⟩, k, k0, u5, u6, u7, u8, rfl⟩
    obtain ⟨p, hp1, rfl⟩ := K7 hy
    have hi := (List.getElem?_eq_some_iff.mp hp1).1
    refine ⟨few rfl, c7 λ pw G2 n2 s2 t2 => ?_⟩
    have npw : H pw = none := w6 sm n2
    have nlw : l ≠ pw := λ z => by rw [<- z, hl] at n2; cases n2
    refine B9 ⟨⟨by omega, by omega⟩, ?_⟩
    refine a4c (λ j σ G' => Same H G' /\ G' l = some (.lst (sts ls)) /\ (∃ ws : List Str, G' pw = some (.lst (sts ws)) /\ ws.length = j /\ ∀ w ∈ ws, GW w) /\ ∃ k : Int, 0 <= k /\ ∃ u7 u8, σ = [some (.ref a), some (.ref pp), some (.int m), some (.ref l), some (.int k), some (.str p), some (.ref pw), u7, u8])
      ⟨sm.trans s2, s2 _ _ hl, ⟨[], t2, rfl, λ w h => by cases h⟩, k, k0, _, _, rfl⟩ ?_ ?_
    . rintro j σ G' hj ⟨sm', hl', ⟨ws, hw, lw, gw⟩, k, k0, u7, u8, rfl⟩
      have hj : j < m + 1 := by omega
      refine r_tg_word (B := H) (sm'.seq hS) sh k0 sm' npw hw (by omega) λ w u8 G3 g3 s3 k3 t3 => ⟨s3, k3 _ _ nlw hl', ⟨ws ++ [w], t3, by simp [lw], λ z hz => ?_⟩, k + 1, by omega, _, _, rfl⟩
      rcases List.mem_append.mp hz with h | h
      . exact gw z h
      . rw [List.mem_singleton.mp h]
        exact g3
    . rintro σ G' ⟨sm', hl', ⟨ws, hw, lw, gw⟩, k, k0, u7, u8, rfl⟩
      have lw : ws.length = m + 1 := by omega
      obtain ⟨ws', t, rfl⟩ : ∃ ws' t, ws = ws' ++ [t] := by
        cases h : ws.reverse with
        | nil =>
          have : ws.length = 0 := by rw [<- List.length_reverse, h]; rfl
          omega
        | cons t r => exact ⟨r.reverse, t, by rw [<- List.reverse_reverse ws, h]; simp⟩
      have lw' : ws'.length = m := by simpa using lw
      refine r_tg_line (B := H) (L8 p (List.mem_of_getElem? hp1)) hw (by omega) (by omega) (λ w h => gw w (List.mem_append.mpr (.inl h))) (gw t (by simp)) sm' n1 hl' (by omega) λ z G3 gl s3 k3 t3 => ⟨s3, ⟨ls ++ [z], t3, by simp [li], λ j p' z' h1 h2 => ?_⟩, k, k0, _, _, _, _, rfl⟩
      by_cases hj : j < ls.length
      . rw [List.getElem?_append_left hj] at h2
        exact gls j p' z' h1 h2
      . have hlt := (List.getElem?_eq_some_iff.mp h2).1
        rw [List.length_append] at hlt
        have ej : j = ls.length := by simp at hlt; omega
        subst ej
        rw [li] at h1
        rw [hp1] at h1
        cases h1
        simp at h2
        subst h2
        rw [<- lw']
        exact gl
  . rintro σ G ⟨sm, ⟨ls, hl, li, gls⟩, k, k0, u5, u6, u7, u8, rfl⟩
    exact q l ls G sm n1 hl (by rw [li, eL]) gls
end
end Tw
end Tv
namespace Tv
open PySem PySem.Spec PyProof.Rows L2
namespace Tw
open Nu Ty
def B4 : Sp := λ vs H Q _ => ∃ (t : Str) (c w : Int), vs = [.str t, .int c, .int w] /\ t.length <= 4000 /\ ∀ z : Str, z.length <= 10000 -> Q (.str z) H
def Y3 : TS :=
  (c8 (e9 (tC (.str " \n0*=:a-1.+9\t_")) (b9 3))
  (c8 (e9 (tOp j9 (gv 3) (tOp E9 (gv 1) (tCB x4 (a8 (gv 3) b7)))) (b9 4))
  (c8 (e9 (tOp E9 (tOp P8 (gv 1) (tC (.int 14))) (tOp j0 (tCB x4 (a8 (gv 0) b7)) (tC (.int 1)))) (b9 5))
  (c8 (sIf (bT (tOp eqG (gv 2) (tC (.int 1))))
    (g8 (tOp j0 (tOp j0 (tSl slG (gv 0) g6 (l7 (gv 5))) (gv 4)) (tSl slG (gv 0) (l7 (gv 5)) g6)))
    g0)
  (c8 (sIf (bT (tOp eqG (gv 2) (tC (.int 2))))
    (g8 (tOp j0 (tSl slG (gv 0) g6 (l7 (gv 5))) (tSl slG (gv 0) (l7 (tOp j0 (gv 5) (tC (.int 1)))) g6)))
    g0)
  (g8 (tOp j0 (tOp j0 (tSl slG (gv 0) g6 (l7 (gv 5))) (gv 4)) (tSl slG (gv 0) (l7 (tOp j0 (gv 5) (tC (.int 1)))) g6))))))))
theorem sign14 {i : Int} (h0 : 0 <= i) (h1 : i < 14) : ∃ ch, atI (" \n0*=:a-1.+9\t_" : Str).cps.toList i = some ch := by
  obtain ⟨j, rfl⟩ : ∃ j : Nat, i = j := ⟨i.toNat, by omega⟩
  have l : (" \n0*=:a-1.+9\t_" : Str).cps.toList.length = 14 := by decide +kernel
  exact ⟨_, K0 (List.getElem?_eq_getElem (by omega))⟩
theorem a4m {t : Str} {c w : Int} {H : Hp} {D : Ends} (ht : t.length <= 4000) (q : ∀ z : Str, z.length <= 10000 -> D.rt (.str z) H) : Y3 D [some (.str t), some (.int c), some (.int w), none, none, none] H := by
  have hs := sz
  have el : (((" \n0*=:a-1.+9\t_" : Str).length : Nat) : Int) = 14 := by decide +kernel
  have m1 := Int.emod_nonneg c (show (14 : Int) ≠ 0 by decide)
  have m2 := Int.emod_lt_of_pos c (show (0 : Int) < 14 by decide)
  obtain ⟨ch, hch⟩ := sign14 m1 m2
  refine ⟨few rfl, by rw [el]; decide, ?_⟩
  refine getS_i (by rw [el]; exact hch) (by decide) ?_
  refine ⟨⟨by decide, by decide⟩, by omega, by omega, ?_⟩
  generalize c / 14 % ((t.length : Int) + 1) = a
  have sg : (⟨#[ch]⟩ : Str).length = 1 := rfl
  have sl : ∀ lo hi, (Txt.slice t lo hi).length <= t.length := slice_len t
  have b1 := sl none (some a)
  have b2 := sl (some a) none
  have b3 := sl (some (a + 1)) none
  refine i9 (λ _ => ?_) (λ _ => i9 (λ _ => ?_) (λ _ => ?_))
  . refine ⟨by omega, by omega, by omega, by rw [Str.length_append]; omega, q _ (by rw [Str.length_append, Str.length_append]; omega)⟩
  . refine ⟨by omega, by omega, by omega, q _ (by rw [Str.length_append]; omega)⟩
  . refine ⟨by omega, by omega, by omega, by rw [Str.length_append]; omega, q _ (by rw [Str.length_append, Str.length_append]; omega)⟩
def Lns (H : Hp) (l : Addr) (ls : List Str) : Prop := H l = some (.lst (sts ls)) /\ 1 <= ls.length /\ ls.length <= 6 /\ ∀ z ∈ ls, z.length <= 500
theorem Lns.same {H G : Hp} {l : Addr} {ls : List Str} (h : Lns H l ls) (s : Same H G) : Lns G l ls := ⟨s _ _ h.1, h.2⟩
def B5 : Sp := λ vs H Q _ => ∃ (l : Addr) (ls : List Str) (c w : Int), vs = [.ref l, .int c, .int w] /\ Lns H l ls /\ ∀ (z : Str) H', Same H H' -> z.length <= 10000 -> Q (.str z) H'
def tw_ret : TS := (g8 (y4 "join" (tC (.str "\n")) (a8 (tOp j0 (tOp j0 (tSl slG (gv 0) g6 (l7 (gv 3))) (u4 (a8 (y4 "join" (tC (.str " ")) (a8 (gv 4) b7)) b7))) (tSl slG (gv 0) (l7 (tOp j0 (gv 3) (tC (.int 1)))) g6)) b7)))
def Y4 : TS :=
  (c8 (e9 (tOp E9 (gv 1) (tCB x4 (a8 (gv 0) b7))) (b9 3))
  (c8 (e9 (y4 "split" (tOp j9 (gv 0) (gv 3)) (a8 (tC (.str " ")) b7)) (b9 4))
  (c8 (e9 (tOp E9 (tOp P8 (gv 1) (tC (.int 6))) (tCB x4 (a8 (gv 4) b7))) (b9 5))
  (c8 (e9 (tOp j9 (u4 (a8 (tC (.str "07")) (a8 (tC (.str "-3")) (a8 (tC (.str "1.5")) (a8 (tOp mulG (tC (.str "9")) (tC (.int 41))) (a8 (tOp mulG (tC (.str "9")) (tC (.int 40))) (a8 (tC (.str "*")) (a8 (tC (.str "=")) (a8 (tC (.str "")) (a8 (tC (.str "00")) (a8 (tC (.str "+4")) (a8 (tC (.str "1_0")) (a8 (tC (.str "all:")) b7))))))))))))) (tOp E9 (tOp P8 (gv 1) (tC (.int 60))) (tC (.int 12)))) (b9 6))
  (c8 (sIf (bT (tOp eqG (gv 2) (tC (.int 4))))
    (e9 (gv 6) (gSub (gv 4) (gv 5) T4))
    (sIf (bT (tOp eqG (gv 2) (tC (.int 5))))
      (F3 (y4 "pop" (gv 4) (a8 (gv 5) b7)))
      (F3 (y4 "insert" (gv 4) (a8 (gv 5) (a8 (gv 6) b7))))))
  tw_ret)))))
theorem pop_i {l : Addr} {xs : List V} {t : TA} {σ : St} {Q : VK} {H : Hp} (h : H l = some (.lst xs)) (q : t σ H λ vs H2 => popG (.ref l) vs H2 Q) : bmK "pop" t σ Q (.ref l) H := by
  unfold bmK
  have : tyB H (.ref l) = some "list" := by unfold tyB; simp only [h]
  rw [this]
  exact q
theorem pop_at {l : Addr} {xs : List V} {y : V} {k : Nat} {Q : VK} {H : Hp} (h : H l = some (.lst xs)) (hk : xs[k]? = some y) (hz : k < 2 ^ 62) (q : Q y (upd H l (.lst (xs.eraseIdx k)))) : popG (.ref l) [.int (k : Int)] H Q := by
  unfold popG
  have hl := (List.getElem?_eq_some_iff.mp hk).1
  have e : ixN xs.length (k : Int) = some k := by
    unfold ixN
    rw [if_pos (by omega), if_pos (by omega)]
    rfl
  simp only [h, e, hk]
  exact ⟨⟨by omega, by omega⟩, q⟩
theorem ins_i {l : Addr} {xs : List V} {t : TA} {σ : St} {Q : VK} {H : Hp} (h : H l = some (.lst xs)) (q : t σ H λ vs H2 => insG (.ref l) vs H2 Q) : bmK "insert" t σ Q (.ref l) H := by
  unfold bmK
  have : tyB H (.ref l) = some "list" := by unfold tyB; simp only [h]
  rw [this]
  exact q
theorem ins_at {l : Addr} {xs : List V} {y : V} {k : Nat} {Q : VK} {H : Hp} (h : H l = some (.lst xs)) (hk : k <= xs.length) (hz : xs.length < sizeLine) (q : Q .non (upd H l (.lst (xs.take k ++ y :: xs.drop k)))) : insG (.ref l) [.int (k : Int), y] H Q := by
  unfold insG
  simp only [h]
  exact ⟨⟨by omega, by omega, hz⟩, q⟩
theorem sum_split (z : Str) : ((d8 z).map (·.length)).sum + ((d8 z).length - 1) <= z.length := by
  have := a3b " " (d8 z)
  rw [a5j, show (" " : Str).length = 1 by decide +kernel] at this
  omega
theorem sum_set : ∀ (ws : List Str) (j : Nat) (o : Str), ((ws.set j o).map (·.length)).sum <= (ws.map (·.length)).sum + o.length
  | [], _, _ => by simp
  | w :: ws, 0, o => by simp; omega
  | w :: ws, j + 1, o => by
    have := sum_set ws j o
    simp only [List.set_cons_succ, List.map_cons, List.sum_cons]
    omega
theorem a2h : ∀ (ws : List Str) (j : Nat), ((ws.eraseIdx j).map (·.length)).sum <= (ws.map (·.length)).sum
  | [], _ => by simp
  | w :: ws, 0 => by simp
  | w :: ws, j + 1 => by
    have := a2h ws j
    simp only [List.eraseIdx_cons_succ, List.map_cons, List.sum_cons]
    omega
theorem sum_ins (ws : List Str) (j : Nat) (o : Str) : ((ws.take j ++ o :: ws.drop j).map (·.length)).sum = (ws.map (·.length)).sum + o.length := by
  have e : (ws.map (·.length)).sum = ((ws.take j).map (·.length)).sum + ((ws.drop j).map (·.length)).sum := by
    rw [<- List.sum_append, <- List.map_append, List.take_append_drop]
  rw [e, List.map_append, List.sum_append, List.map_cons, List.sum_cons]
  omega
theorem W7 : ∀ (ws : List Str) (j : Nat), (sts ws).eraseIdx j = sts (ws.eraseIdx j)
  | [], _ => rfl
  | w :: ws, 0 => rfl
  | w :: ws, j + 1 => by
    show V.str w :: (sts ws).eraseIdx j = V.str w :: sts (ws.eraseIdx j)
    rw [W7 ws j]
def odd12 : List Str := ["07", "-3", "1.5", repS "9" 41, repS "9" 40, "*", "=", "", "00", "+4", "1_0", "all:"]
theorem odd_len : ∀ o ∈ odd12, o.length <= 41 := by decide +kernel
theorem r_tw_ret {l pw : Addr} {ls ws : List Str} {o1 o2 o5 o6 : Option V} {k : Int} {B H : Hp} {D : Ends} (L : Lns H l ls) (sB : Same B H) (hw : H pw = some (.lst (sts ws))) (hsum : (ws.map (·.length)).sum <= 600) (hlen : ws.length <= 600) (q : ∀ (z : Str) H', Same B H' -> z.length <= 10000 -> D.rt (.str z) H') :
    tw_ret D [some (.ref l), o1, o2, some (.int k), some (.ref pw), o5, o6] H := by
  have hs := sz
  obtain ⟨hl, l1, l6, l500⟩ := L
  have e1 : (" " : Str).length = 1 := by decide +kernel
  have n1 : ("\n" : Str).length = 1 := by decide +kernel
  obtain ⟨y1, c1, m1, k1⟩ := P5 ls none (some k)
  obtain ⟨y2, c2, m2, k2⟩ := P5 ls (some (k + 1)) none
  refine B0 (E4 hl (c7 λ p1 G1 q1 s1 t1 => B0 (z7 (s1 _ _ hw) (i5 _) (by rw [e1]; omega) ⟨few rfl, c7 λ p2 G2 q2 s2 t2 => ?_⟩)))
  rw [c1] at t1
  have jl := J3 " " ws
  rw [e1] at jl
  rw [C4] at t2
  generalize Str.join " " ws = z at jl t2
  refine A9 (s2 _ _ t1) t2 (by simp [sts]; omega) (c7 λ p3 G3 q3 s3 t3 => E4 ((s1.trans (s2.trans s3)) _ _ hl) (c7 λ p4 G4 q4 s4 t4 => ?_))
  rw [c2] at t4
  have t3 : G3 p3 = some (.lst (sts (y1 ++ [z]))) := by rw [t3]; simp [sts]
  refine A9 (s4 _ _ t3) t4 (by simp [sts]; omega) (c7 λ p5 G5 q5 s5 t5 => ?_)
  have t5 : G5 p5 = some (.lst (sts (y1 ++ [z] ++ y2))) := by rw [t5]; simp [sts]
  have b1 : (y1.map (·.length)).sum <= y1.length * 500 := StrLaws.sumLen_le _ λ y hy => l500 y (k1 y hy)
  have b2 : (y2.map (·.length)).sum <= y2.length * 500 := StrLaws.sumLen_le _ λ y hy => l500 y (k2 y hy)
  have b3 := J3 "\n" (y1 ++ [z] ++ y2)
  rw [n1] at b3
  have bb : ((y1 ++ [z] ++ y2).map (·.length)).sum + (y1 ++ [z] ++ y2).length * 1 <= 10000 := by
    simp only [List.map_append, List.sum_append, List.map_cons, List.map_nil, List.sum_cons, List.sum_nil, List.length_append, List.length_cons, List.length_nil]
    omega
  refine z7 t5 (i5 _) (by rw [n1]; omega) (q _ G5 (sB.trans (s1.trans (s2.trans (s3.trans (s4.trans s5))))) ?_)
  rw [C4]
  omega
theorem a4n {l : Addr} {ls : List Str} {c w : Int} {H : Hp} {D : Ends} (L : Lns H l ls) (q : ∀ (z : Str) H', Same H H' -> z.length <= 10000 -> D.rt (.str z) H') : Y4 D [some (.ref l), some (.int c), some (.int w), none, none, none, none] H := by
  have hs := sz
  obtain ⟨hl, l1, l6, l500⟩ := id L
  have el : (sts ls).length = ls.length := by simp [sts]
  have m1 := Int.emod_nonneg c (show ((ls.length : Nat) : Int) ≠ 0 by omega)
  have m2 := Int.emod_lt_of_pos c (show 0 < ((ls.length : Nat) : Int) by omega)
  refine k7 hl ?_
  rw [el]
  refine ⟨by omega, ?_⟩
  obtain ⟨k, hk⟩ : ∃ k : Nat, c % ((ls.length : Nat) : Int) = k := ⟨(c % ((ls.length : Nat) : Int)).toNat, by omega⟩
  rw [hk] at m2 ⊢
  have hkl : k < ls.length := by omega
  have lz := l500 ls[k] (List.getElem_mem _)
  refine j6 hl (v := .str ls[k]) (atS (by rw [List.getElem?_eq_getElem hkl])) ?_
  generalize ls[k] = z at lz
  refine U1 (O5 (by omega) (by decide) (c7 λ pw G1 n1 s1 t1 => ?_))
  have t1 : G1 pw = some (.lst (sts (d8 z))) := t1
  have ss := sum_split z
  have wl := (K9 z).1
  obtain ⟨w0, r0, ew⟩ := a5k z
  have w1 : 1 <= (d8 z).length := by rw [ew]; simp
  generalize d8 z = ws at t1 ss wl w1
  have elw : (sts ws).length = ws.length := by simp [sts]
  refine ⟨⟨by decide, by decide⟩, k7 t1 ?_⟩
  rw [elw]
  refine ⟨by omega, ?_⟩
  have a1 := Int.emod_nonneg (c / 6) (show ((ws.length : Nat) : Int) ≠ 0 by omega)
  have a2 := Int.emod_lt_of_pos (c / 6) (show 0 < ((ws.length : Nat) : Int) by omega)
  obtain ⟨j, hj⟩ : ∃ j : Nat, c / 6 % ((ws.length : Nat) : Int) = j := ⟨(c / 6 % ((ws.length : Nat) : Int)).toNat, by omega⟩
  rw [hj] at a2 ⊢
  have hjl : j < ws.length := by omega
  refine ⟨⟨by decide, by decide, by decide, by rw [sizeLine_eq]; decide⟩, ⟨by decide, by decide, by decide, by rw [sizeLine_eq]; decide⟩, few rfl, c7 λ po G2 n2 s2 t2 => ⟨⟨by decide, by decide⟩, by decide, ?_⟩⟩
  have t2 : G2 po = some (.lst (sts odd12)) := t2
  have o1 := Int.emod_nonneg (c / 60) (show (12 : Int) ≠ 0 by decide)
  have o2 := Int.emod_lt_of_pos (c / 60) (show (0 : Int) < 12 by decide)
  obtain ⟨n, hn⟩ : ∃ n : Nat, c / 60 % 12 = n := ⟨(c / 60 % 12).toNat, by omega⟩
  rw [hn] at o2 ⊢
  have hnl : n < odd12.length := by
    show n < 12
    omega
  have lo := odd_len odd12[n] (List.getElem_mem _)
  refine j6 t2 (v := .str odd12[n]) (atS (by rw [List.getElem?_eq_getElem hnl])) ?_
  generalize odd12[n] = o at lo
  have S2 := s1.trans s2
  have hw := s2 _ _ t1
  have npw : H pw = none := n1
  have nlw : l ≠ pw := λ e => by rw [e, n1] at hl; cases hl
  have fin : ∀ (ws' : List Str) (G : Hp) (D' : Ends) o5 o6, D'.rt = D.rt -> Same H G -> G pw = some (.lst (sts ws')) -> (ws'.map (·.length)).sum <= 600 -> ws'.length <= 600 -> tw_ret D' [some (.ref l), some (.int c), some (.int w), some (.int k), some (.ref pw), o5, o6] G := λ ws' G D' o5 o6 hD s h1 h2 h3 =>
    r_tw_ret (B := H) (L.same s) s h1 h2 h3 (by rw [hD]; exact q)
  refine i9 (λ _ => ?_) (λ _ => i9 (λ _ => ?_) (λ _ => ?_))
  . have ix : ixN (sts ws).length (j : Int) = some j := by
      unfold ixN
      rw [elw, if_pos (by omega), if_pos (by omega)]
      rfl
    refine setL_i hw ix (fin (ws.set j o) _ _ _ _ rfl (S2.put npw) ?_ ?_ ?_)
    . rw [b6]
      simp [sts, List.map_set]
    . have := sum_set ws j o
      omega
    . rw [List.length_set]
      omega
  . refine pop_i hw (pop_at hw (k := j) (y := .str ws[j]) (by simp [sts, hjl]) (by omega) (fin (ws.eraseIdx j) _ _ _ _ rfl (S2.put npw) ?_ ?_ ?_))
    . rw [b6, W7]
    . have := a2h ws j
      omega
    . have := List.length_eraseIdx_le ws j
      omega
  . refine ins_i hw (ins_at hw (k := j) (by rw [elw]; omega) (by rw [elw]; omega) (fin (ws.take j ++ o :: ws.drop j) _ _ _ _ rfl (S2.put npw) ?_ ?_ ?_))
    . rw [b6]
      simp [sts, List.map_take, List.map_drop]
    . rw [sum_ins]
      omega
    . simp
      omega
end Tw
end Tv
namespace Tv
open PySem PySem.Spec PyProof.Rows L2
namespace Nu
open Tx
def PrAt (H : Hp) (kv : List Key × V) (x : V) : Prop := ∃ p t, x = .ref p /\ H p = some (.tup [.ref t, kv.2]) /\ H t = some (.tup (kv.1.map kV))
abbrev PrsL (H : Hp) : List (List Key × V) -> List V -> Prop := Paired (PrAt H)
theorem PrsL.same {H G : Hp} {kvs : List (List Key × V)} {xs : List V} (h : PrsL H kvs xs) (s : Same H G) : PrsL G kvs xs := by
  induction h with
  | nil => exact .nil
  | cons h t ih =>
    obtain ⟨p, t, rfl, h1, h2⟩ := h
    exact .cons ⟨p, t, rfl, s _ _ h1, s _ _ h2⟩ ih
theorem a1a : ∀ {kvs : List (List Key × V)} {H : Hp} {R : List V -> Hp -> Prop}, (∀ xs G, Same H G -> PrsL G kvs xs -> R xs G) -> x5 kvs H R
  | [], H, R, q => by
    rw [T5]
    exact q [] H (Same.refl H) .nil
  | kv :: r, H, R, q => by
    rw [P9]
    intro t p ht hp
    refine a1a λ xs G s h => q _ G ((z9 hp).trans s) (.cons ⟨p, t, rfl, s _ _ b6, ?_⟩ h)
    exact s _ _ (z9 hp _ _ ht)
theorem R7 {a : Addr} {kvs : List (List Key × V)} {H : Hp} {Q : VK} (h : H a = some (.dT kvs)) (q : ∀ p xs G, Same H G -> H p = none -> G p = some (.lst xs) -> PrsL G kvs xs -> Q (.ref p) G) : O0 (.ref a) H Q := by
  unfold O0
  simp only [h]
  refine a1a λ xs G s hx => c7 λ p G2 n2 s2 t2 => q p xs G2 (s.trans s2) (w6 s n2) t2 (hx.same s2)
def keyD : Key -> PyData
  | .inl i => .int i
  | .inr z => .str z
def pairV (kv : List Key × V) (d : PyData) : PyData := .tuple [.tuple (kv.1.map keyD), d]
theorem rd_key (n : Nat) (H : Hp) : ∀ k : Key, rdD n H (kV k) = some (keyD k)
  | .inl i => by cases n <;> rfl
  | .inr z => by cases n <;> rfl
theorem rd_keys (n : Nat) (H : Hp) : ∀ ks : List Key, (ks.map kV).mapM (rdD n H) = some (ks.map keyD)
  | [] => rfl
  | k :: ks => by
    rw [List.map_cons, mapM_cons, rd_key, rd_keys n H ks]
    rfl
theorem rd_pr {n : Nat} {H : Hp} {kv : List Key × V} {x : V} {d : PyData} (h : PrAt H kv x) (hd : rdD (n + 1) H kv.2 = some d) : rdD (n + 2) H x = some (pairV kv d) := by
  obtain ⟨p, t, rfl, h1, h2⟩ := h
  show (match H p with
    | some (.lst xs) => (xs.mapM (rdD (n + 1) H)).map PyData.list
    | some (.tup xs) => (xs.mapM (rdD (n + 1) H)).map PyData.tuple
    | _ => none) = _
  simp only [h1]
  have e : rdD (n + 1) H (.ref t) = some (.tuple (kv.1.map keyD)) := by
    show (match H t with
      | some (.lst xs) => (xs.mapM (rdD n H)).map PyData.list
      | some (.tup xs) => (xs.mapM (rdD n H)).map PyData.tuple
      | _ => none) = _
    simp only [h2, rd_keys]
    rfl
  rw [mapM_cons, e, mapM_cons, hd]
  rfl
def dv : V -> PyData
  | .int i => .int i
  | _ => .none
def a2i (kvs : List (List Key × V)) : Prop := ∀ kv ∈ kvs, ∃ i, kv.2 = .int i
theorem prs_rd {H : Hp} {kvs : List (List Key × V)} {xs : List V} (h : PrsL H kvs xs) (hi : a2i kvs) : xs.mapM (rdD 7 H) = some (kvs.map λ kv => pairV kv (dv kv.2)) := by
  induction h with
  | nil => rfl
  | cons h t ih =>
    rename_i kv x r ys
    obtain ⟨i, ei⟩ := hi kv (by simp)
    rw [mapM_cons, rd_pr (n := 5) h (d := dv kv.2) (by rw [ei]; rfl), ih λ kv' hk => hi kv' (by simp [hk])]
    rfl
theorem prs_eq {p q : Addr} {xs ys : List V} {kvs : List (List Key × V)} {H : Hp} {Q : VK} (hp : H p = some (.lst xs)) (hq : H q = some (.lst ys)) (px : PrsL H kvs xs) (py : PrsL H kvs ys) (hi : a2i kvs) (h : Q (.bl true) H) : eqH (.ref p) (.ref q) H Q := by
  have e1 : rdD 8 H (.ref p) = some (.list (kvs.map λ kv => pairV kv (dv kv.2))) := by
    show (match H p with
      | some (.lst xs) => (xs.mapM (rdD 7 H)).map PyData.list
      | some (.tup xs) => (xs.mapM (rdD 7 H)).map PyData.tuple
      | _ => none) = _
    simp only [hp, prs_rd px hi]
    rfl
  have e2 : rdD 8 H (.ref q) = some (.list (kvs.map λ kv => pairV kv (dv kv.2))) := by
    show (match H q with
      | some (.lst xs) => (xs.mapM (rdD 7 H)).map PyData.list
      | some (.tup xs) => (xs.mapM (rdD 7 H)).map PyData.tuple
      | _ => none) = _
    simp only [hq, prs_rd py hi]
    rfl
  exact eq_i e1 e2 (by rw [a0s 8 _ _ e1]; exact h)
end Nu
end Tv
namespace Tv
open PySem PySem.Spec PyProof.Rows L2
namespace Tw
open Nu Ty
def x9 : Sp := λ vs H Q _ => ∃ (l : Addr) (ls : List Str) (c w : Int), vs = [.ref l, .int c, .int w] /\ Lns H l ls /\ ∀ (z : Str) H', Same H H' -> z.length <= 10000 -> Q (.str z) H'
def tp_8 : TS :=
  (c8 (sIf (bT (tOp eqG (gv 2) (tC (.int 8))))
    (g8 (y4 "join" (tC (.str "\n")) (a8 (tOp j0 (tOp j0 (tSl slG (gv 0) g6 (l7 (gv 3))) (u4 (a8 (tOp j9 (u4 (a8 (tOp j9 (gv 0) (tOp E9 (tOp P8 (gv 1) (tC (.int 14))) (tCB x4 (a8 (gv 0) b7)))) (a8 (tC (.str "")) b7))) (tOp E9 (tOp P8 (gv 1) (tC (.int 7))) (tC (.int 2)))) b7))) (tSl slG (gv 0) (l7 (gv 3)) g6)) b7)))
    g0)
  (g8 (y4 "join" (tC (.str "\n")) (a8 (tOp j0 (tSl slG (gv 0) (l7 (gv 3)) g6) (tSl slG (gv 0) g6 (l7 (gv 3)))) b7))))
def Q6 : TS :=
  (c8 (sIf (bT (tOp eqG (gv 2) (tC (.int 0))))
    (g8 (y4 "join" (tC (.str "\n")) (a8 (gv 0) b7)))
    g0)
  (c8 (sIf (bT (tOp ltG (gv 2) (tC (.int 4))))
    (g8 (g5 B4 [] E0 (a8 (y4 "join" (tC (.str "\n")) (a8 (gv 0) b7)) (a8 (gv 1) (a8 (gv 2) b7)))))
    g0)
  (c8 (sIf (bT (tOp ltG (gv 2) (tC (.int 7))))
    (g8 (g5 B5 [] E0 (a8 (gv 0) (a8 (gv 1) (a8 (gv 2) b7)))))
    g0)
  (c8 (e9 (tOp E9 (gv 1) (tOp j0 (tCB x4 (a8 (gv 0) b7)) (tC (.int 1)))) (b9 3))
  (c8 (sIf (bT (tOp eqG (gv 2) (tC (.int 7))))
    (g8 (y4 "join" (tC (.str "\n")) (a8 (tOp j0 (tSl slG (gv 0) g6 (l7 (gv 3))) (tSl slG (gv 0) (l7 (tOp j0 (gv 3) (tC (.int 1)))) g6)) b7)))
    g0)
  tp_8)))))
theorem a3h {l1 : Addr} {zs : List Str} {H G : Hp} {D : Ends} (sm : Same H G) (h : G l1 = some (.lst (sts zs))) (hb : ∀ z ∈ zs, z.length <= 500) (hn : zs.length <= 13) (q : ∀ (z : Str) H', Same H H' -> z.length <= 10000 -> D.rt (.str z) H') : a0x (.str "\n") [.ref l1] G D.rt := by
  obtain ⟨j1, j2⟩ := L0 (b := 500) (n := 13) hb hn
  exact z7 h (i5 _) (by omega) (q _ _ sm (by omega))
theorem r_tp_8 {l : Addr} {ls : List Str} {c w p : Int} {H : Hp} {D : Ends} (L : Lns H l ls) (q : ∀ (z : Str) H', Same H H' -> z.length <= 10000 -> D.rt (.str z) H') : tp_8 D [some (.ref l), some (.int c), some (.int w), some (.int p)] H := by
  have hs := sz
  obtain ⟨hl, l1, l6, l500⟩ := id L
  have el : (sts ls).length = ls.length := by simp [sts]
  obtain ⟨y1, e1, m1, k1⟩ := P5 ls none (some p)
  obtain ⟨y2, e2, m2, k2⟩ := P5 ls (some p) none
  have r1 : ∀ y ∈ y1, y.length <= 500 := λ y hy => l500 y (k1 y hy)
  have r2 : ∀ y ∈ y2, y.length <= 500 := λ y hy => l500 y (k2 y hy)
  refine i9 (λ _ => ?_) (λ _ => ?_)
  . refine B0 (E4 hl (c7 λ p1 G1 n1 s1 t1 => ⟨⟨by decide, by decide⟩, k7 (s1 _ _ hl) ?_⟩))
    rw [el]
    have a1 := Int.emod_nonneg (c / 14) (show ((ls.length : Nat) : Int) ≠ 0 by omega)
    have a2 := Int.emod_lt_of_pos (c / 14) (show 0 < ((ls.length : Nat) : Int) by omega)
    refine ⟨by omega, ?_⟩
    obtain ⟨j, hj⟩ : ∃ j : Nat, c / 14 % ((ls.length : Nat) : Int) = j := ⟨(c / 14 % ((ls.length : Nat) : Int)).toNat, by omega⟩
    rw [hj] at a2 ⊢
    have hjl : j < ls.length := by omega
    have lz := l500 ls[j] (List.getElem_mem _)
    refine j6 (s1 _ _ hl) (v := .str ls[j]) (atS (by rw [List.getElem?_eq_getElem hjl])) ?_
    generalize ls[j] = z at lz
    refine ⟨few rfl, c7 λ p2 G2 n2 s2 t2 => ⟨⟨by decide, by decide⟩, by decide, ?_⟩⟩
    have o1 := Int.emod_nonneg (c / 7) (show (2 : Int) ≠ 0 by decide)
    have o2 := Int.emod_lt_of_pos (c / 7) (show (0 : Int) < 2 by decide)
    obtain ⟨x, hx, lx⟩ : ∃ x : Str, atI [V.str z, V.str ""] (c / 7 % 2) = some (.str x) /\ x.length <= 500 := by
      have : c / 7 % 2 = 0 \/ c / 7 % 2 = 1 := by omega
      rcases this with e | e
      . exact ⟨z, by rw [e]; rfl, lz⟩
      . exact ⟨"", by rw [e]; rfl, by decide +kernel⟩
    refine j6 t2 hx ⟨few rfl, c7 λ p3 G3 n3 s3 t3 => ?_⟩
    rw [e1] at t1
    have S3 := s1.trans (s2.trans s3)
    refine A9 ((s2.trans s3) _ _ t1) t3 (by simp [sts]; omega) (c7 λ p4 G4 n4 s4 t4 => E4 (s4 _ _ (S3 _ _ hl)) (c7 λ p5 G5 n5 s5 t5 => ?_))
    rw [e2] at t5
    have t4 : G4 p4 = some (.lst (sts (y1 ++ [x]))) := by rw [t4]; simp [sts]
    refine A9 (s5 _ _ t4) t5 (by simp [sts]; omega) (c7 λ p6 G6 n6 s6 t6 => ?_)
    have t6 : G6 p6 = some (.lst (sts (y1 ++ [x] ++ y2))) := by rw [t6]; simp [sts]
    refine a3h (D := D) (S3.trans (s4.trans (s5.trans s6))) t6 (λ u hu => ?_) (by simp; omega) q
    refine a3f (λ y hy => ?_) r2 hu
    rcases List.mem_append.mp hy with h | h
    . exact r1 y h
    . rw [List.mem_singleton.mp h]
      exact lx
  . refine B0 (E4 hl (c7 λ p1 G1 n1 s1 t1 => E4 (s1 _ _ hl) (c7 λ p2 G2 n2 s2 t2 => ?_)))
    rw [e2] at t1
    rw [e1] at t2
    refine A9 (s2 _ _ t1) t2 (by simp [sts]; omega) (c7 λ p3 G3 n3 s3 t3 => ?_)
    have t3 : G3 p3 = some (.lst (sts (y2 ++ y1))) := by rw [t3]; simp [sts]
    exact a3h (D := D) ((s1.trans s2).trans s3) t3 (λ z hz => a3f r2 r1 hz) (by simp; omega) q
theorem a1m {l : Addr} {ls : List Str} {c w : Int} {H : Hp} {D : Ends} (L : Lns H l ls) (q : ∀ (z : Str) H', Same H H' -> z.length <= 10000 -> D.rt (.str z) H') : Q6 D [some (.ref l), some (.int c), some (.int w), none] H := by
  have hs := sz
  obtain ⟨hl, l1, l6, l500⟩ := id L
  obtain ⟨j1, j2⟩ := L0 (b := 500) (n := 6) l500 l6
  refine i9 (λ _ => ?_) (λ _ => i9 (λ _ => ?_) (λ _ => i9 (λ _ => ?_) (λ _ => ?_)))
  . exact B0 (z7 hl (i5 _) (by omega) (q _ H (Same.refl H) (by omega)))
  . exact B0 (z7 hl (i5 _) (by omega) ⟨_, c, w, rfl, by omega, λ z hz => q z H (Same.refl H) hz⟩)
  . exact ⟨l, ls, c, w, rfl, L, q⟩
  . refine k7 hl ⟨by omega, ?_⟩
    generalize c % (((sts ls).length : Int) + 1) = p
    refine i9 (λ _ => ?_) (λ _ => r_tp_8 L q)
    obtain ⟨y1, e1, m1, k1⟩ := P5 ls none (some p)
    obtain ⟨y3, e3, m3, k3⟩ := P5 ls (some (p + 1)) none
    refine B0 (E4 hl (c7 λ p1 G1 n1 s1 t1 => E4 (s1 _ _ hl) (c7 λ p2 G2 n2 s2 t2 => ?_)))
    rw [e1] at t1
    rw [e3] at t2
    refine A9 (s2 _ _ t1) t2 (by simp [sts]; omega) (c7 λ p3 G3 n3 s3 t3 => ?_)
    have t3 : G3 p3 = some (.lst (sts (y1 ++ y3))) := by rw [t3]; simp [sts]
    exact a3h (D := D) ((s1.trans s2).trans s3) t3 (λ z hz => a3f (λ y hy => l500 y (k1 y hy)) (λ y hy => l500 y (k3 y hy)) hz) (by simp; omega) q
theorem ints_put {kvs : Dct} {k : List Key} {i : Int} (h : a2i kvs) : a2i (y0 kvs k (.int i)) := by
  unfold y0
  split
  . intro kv hkv
    obtain ⟨x, hx, rfl⟩ := List.mem_map.mp hkv
    split
    . exact ⟨i, rfl⟩
    . exact h x hx
  . intro kv hkv
    rcases List.mem_append.mp hkv with hkv | hkv
    . exact h kv hkv
    . rw [List.mem_singleton.mp hkv]
      exact ⟨i, rfl⟩
theorem W8 {α β : Type} {f : α -> β -> Option α} {R : α -> Prop} (h : ∀ d x d', R d -> f d x = some d' -> R d') : ∀ {l : List β} {d d' : α}, R d -> l.foldlM f d = some d' -> R d'
  | [], d, d', r, e => by
    cases e
    exact r
  | x :: l, d, d', r, e => by
    rw [List.foldlM_cons] at e
    cases e1 : f d x with
    | none => rw [e1] at e; cases e
    | some d1 =>
      rw [e1] at e
      exact W8 h (l := l) (h d x d1 r e1) e
theorem a1b {L C R : List Str} {d : Dct} (h : j5 L C R = some d) : a2i d := by
  unfold j5 at h
  split at h
  . refine W8 (λ d pr d' r e => ?_) (show a2i ([] : Dct) from λ kv h => by cases h) h
    unfold D6 at e
    split at e
    . refine W8 (λ d cw d' r e => ?_) r e
      unfold k8 at e
      split at e
      . cases e
        exact r
      . split at e
        . cases e
          exact ints_put r
        . cases e
    . cases e
  . cases h
def A3 : Sp := λ vs H Q _ => ∃ (z : Str) (pl pc : Addr) (L cs : List Str), vs = [.str z, .ref pl, .ref pc] /\ z.length <= 10000 /\ H pl = some (.lst (sts L)) /\ (∀ p ∈ L, p.length <= 8) /\ L.length <= 25 /\ H pc = some (.lst (sts cs)) /\ 1 <= cs.length /\ cs.length <= 8 /\ (∀ d, j5 L (Cc cs) (d7 z) = some d -> ∀ p xs H', Same H H' -> H p = none -> H' p = some (.lst xs) -> PrsL H' d xs -> Q (.ref p) H') /\ (j5 L (Cc cs) (d7 z) = none -> ∀ H', Same H H' -> Q .non H')
def tl_word : TS :=
  (sIf (bT (tOp neG (tOp j9 (gv 7) (gv 8)) (tC (.str "*"))))
        (c8 (sIf (J7 (ptG (g5 p9 [] E0 (a8 (tOp j9 (gv 7) (gv 8)) b7))))
          (g8 (tC .non))
          g0)
        (e9 (tCB intG (a8 (tOp j9 (gv 7) (gv 8)) b7)) (gSub (gv 4) (a1Q (a8 (gv 5) (a8 (tOp j9 (tOp j0 (gv 2) (u4 (a8 (tC (.str "all")) b7))) (tOp subG (gv 8) (tC (.int 1)))) b7))) T4)))
        g0)
def tl_row : TS :=
  (c8 (e9 (y4 "split" (gv 6) (a8 (tC (.str " ")) b7)) (b9 7))
    (c8 (sIf (V1 (bT (tOp neG (tCB x4 (a8 (gv 7) b7)) (tOp j0 (tCB x4 (a8 (gv 2) b7)) (tC (.int 3))))) (V1 (bT (tOp neG (tOp j9 (gv 7) (tC (.int 0))) (tOp j0 (gv 5) (tC (.str ":"))))) (bT (tOp neG (tOp j9 (gv 7) (tOp j0 (tCB x4 (a8 (gv 2) b7)) (tC (.int 1)))) (tC (.str "="))))))
      (g8 (tC .non))
      g0)
    (c8 (F3 (y4 "pop" (gv 7) (a8 (tOp j0 (tCB x4 (a8 (gv 2) b7)) (tC (.int 1))) b7)))
    (N7 (iRngG (a8 (tC (.int 1)) (a8 (tCB x4 (a8 (gv 7) b7)) b7))) (b9 8)
      tl_word))))
def a1c : TS :=
  (c8 (e9 (y4 "split" (gv 0) (a8 (tC (.str "\n")) b7)) (b9 3))
  (c8 (e9 a1R (b9 4))
  (c8 (sIf (bT (tOp neG (tCB x4 (a8 (gv 3) b7)) (tCB x4 (a8 (gv 1) b7))))
    (g8 (tC .non))
    g0)
  (c8 (N7 (iZipG (a8 (gv 1) (a8 (gv 3) b7))) (X4 2 (P6 (b9 5) (P6 (b9 6) gNil)))
    tl_row)
  (g8 (C2 (gv 4)))))))
end Tw
end Tv
namespace Tv
open PySem PySem.Spec PyProof.Rows L2
namespace Tw
open Nu Ty
section
variable {z p row : Str} {pl pc pr pd pw : Addr} {L cs : List Str} {B H : Hp} {D : Ends} {c0 c1 c3 c6 : Option V}
theorem r_tl_word {w0 w c : Str} {ws : List Str} {d : Dct} {i : Nat} (hi : ws[i]? = some w) (hci : (Cc cs)[i]? = some c) (hw : w.length <= 10000) (lc : cs.length <= 8) (hc : H pc = some (.lst (sts cs))) (hww : H pw = some (.lst (sts (w0 :: ws)))) (sB : Same B H) (nd : B pd = none) (hd : H pd = some (.dT d)) (ld : d.length <= 100000)
    (q : ∀ d', k8 p d (c, w) = some d' -> ∀ H', Same B H' -> (∀ b o, b ≠ pd -> H b = some o -> H' b = some o) -> H' pd = some (.dT d') -> D.nx [c0, c1, some (.ref pc), c3, some (.ref pd), some (.str p), c6, some (.ref pw), some (.int (1 + (i : Int)))] H') (qn : k8 p d (c, w) = none -> ∀ H', Same B H' -> D.rt .non H') :
    tl_word D [c0, c1, some (.ref pc), c3, some (.ref pd), some (.str p), c6, some (.ref pw), some (.int (1 + (i : Int)))] H := by
  have hs := sz
  have ix : atI (sts (w0 :: ws)) (1 + (i : Int)) = some (.str w) := by
    rw [show (1 : Int) + (i : Int) = ((i + 1 : Nat) : Int) by omega]
    exact atS (by simpa using hi)
  refine j6 hww ix (i9 (λ b => ?_) (λ b => ?_))
  . have b : (!(w == ("*" : Str))) = true := b
    have b : w ≠ "*" := by simpa using b
    refine j6 hww ix ⟨w, rfl, hw, ?_⟩
    cases hf : m7 w with
    | false =>
      refine u0 rfl (qn ?_ H sB)
      unfold k8
      rw [if_neg b, if_neg (by show ¬ m7 w = true; rw [hf]; exact Bool.false_ne_true)]
    | true =>
      refine y9 rfl (j6 hww ix ⟨by have := (P3 hf).2.1; omega, val w, a2c hf, ?_⟩)
      refine ⟨few rfl, c7 λ p1 G1 n1 s1 t1 => A9 (s1 _ _ hc) t1 (by simp [sts]; omega) (c7 λ p2 G2 n2 s2 t2 => ?_)⟩
      have t2 : G2 p2 = some (.lst (sts (Cc cs))) := by rw [t2]; simp [sts]
      refine j6 t2 (v := .str c) ?_ ⟨few rfl, c7 λ t G3 n3 s3 t3 => setT_i ((s1.trans (s2.trans s3)) _ _ hd) t3 (by omega) ?_⟩
      . rw [show (1 : Int) + (i : Int) - 1 = ((i : Nat) : Int) by omega]
        exact atS hci
      . have S3 := s1.trans (s2.trans s3)
        refine q _ ?_ _ ((sB.trans S3).put nd) (λ b o ne e => by rw [b4 ne]; exact S3 _ _ e) b6
        unfold k8
        rw [if_neg b, if_pos hf]
  . have b : (!(w == ("*" : Str))) = false := b
    have b : w = "*" := by simpa using b
    refine q d ?_ H sB (λ b o _ e => e) hd
    unfold k8
    rw [if_pos b]
theorem erase_mid (w0 e t : Str) (ws : List Str) : (w0 :: (ws ++ [e, t])).eraseIdx (ws.length + 1) = w0 :: (ws ++ [t]) := by
  rw [List.eraseIdx_cons_succ, List.eraseIdx_append_of_length_le (Nat.le_refl _), Nat.sub_self]
  rfl
theorem r_tl_row {d : Dct} {u7 u8 : Option V} (h8 : p.length <= 8) (hr : row.length <= 10000) (l1 : 1 <= cs.length) (l8 : cs.length <= 8) (sB : Same B H) (nd : B pd = none) (hc : H pc = some (.lst (sts cs))) (hd : H pd = some (.dT d)) (ld : d.length <= 1000)
    (q : ∀ d', D6 (Cc cs) d (p, row) = some d' -> d'.length <= d.length + 9 -> ∀ u7 u8 H', Same B H' -> (∀ b o, b ≠ pd -> H b = some o -> H' b = some o) -> H' pd = some (.dT d') -> D.nx [c0, c1, some (.ref pc), c3, some (.ref pd), some (.str p), some (.str row), u7, u8] H') (qn : D6 (Cc cs) d (p, row) = none -> ∀ H', Same B H' -> D.rt .non H') :
    tl_row D [c0, c1, some (.ref pc), c3, some (.ref pd), some (.str p), some (.str row), u7, u8] H := by
  have hs := sz
  have lC : (Cc cs).length = cs.length + 1 := by simp
  have lcs : (sts cs).length = cs.length := by simp [sts]
  have e1 : (":" : Str).length = 1 := by decide +kernel
  refine U1 (O5 (by omega) (by decide) (c7 λ pw G1 n1 s1 t1 => ?_))
  have t1 : G1 pw = some (.lst (sts (d8 row))) := t1
  have sl : (sts (d8 row)).length = (d8 row).length := by simp [sts]
  have wl := K9 row
  have npw : B pw = none := w6 sB n1
  have ncw : pc ≠ pw := λ z => by rw [z, n1] at hc; cases hc
  have ndw : pd ≠ pw := λ z => by rw [z, n1] at hd; cases hd
  have bad : nW p (cs.length + 1) (d8 row) = none -> D.rt .non G1 := λ e => qn (by
    unfold D6
    rw [show ((p, row) : Str × Str).1 = p from rfl, show ((p, row) : Str × Str).2 = row from rfl, lC, e]) G1 (sB.trans s1)
  have hc1 := s1 _ _ hc
  refine k7 t1 (k7 hc1 ?_)
  rw [sl, lcs]
  by_cases hl : (d8 row).length = cs.length + 3
  . obtain ⟨w0, ws, e, t, eW, lw⟩ := a2d hl
    refine y9 ?_ ?_
    . rw [hl, show ((cs.length + 3 : Nat) : Int) = ((cs.length : Nat) : Int) + 3 by omega]
      simp [PyData.eqv]
    rw [eW] at t1 bad
    rw [<- lw] at bad
    refine j6 t1 (v := .str w0) (K0 (j := 0) (by simp [sts])) ⟨by omega, i9 (λ b => ?_) (λ b => ?_)⟩
    . have b : (!(w0 == p ++ ":")) = true := b
      exact u0 rfl (bad (a0b (.inl (by simpa using b))))
    have b : (!(w0 == p ++ ":")) = false := b
    have b : w0 = p ++ ":" := by simpa using b
    refine k7 hc1 ?_
    rw [lcs]
    refine j6 t1 (v := .str e) ?_ (i9 (λ b2 => ?_) (λ b2 => ?_))
    . rw [show ((cs.length : Nat) : Int) + 1 = ((cs.length + 1 : Nat) : Int) by omega]
      refine atS ?_
      rw [<- lw]
      simp
    . have b2 : (!(e == ("=" : Str))) = true := b2
      exact bad (a0b (.inr (by simpa using b2)))
    have b2 : (!(e == ("=" : Str))) = false := b2
    have b2 : e = "=" := by simpa using b2
    have hW : nW p (Cc cs).length (d8 row) = some (ws ++ [t]) := by
      rw [eW, lC, <- lw]
      exact a3e b b2
    have eR : D6 (Cc cs) d (p, row) = ((Cc cs).zip (ws ++ [t])).foldlM (k8 p) d := by
      unfold D6
      rw [show ((p, row) : Str × Str).1 = p from rfl, show ((p, row) : Str × Str).2 = row from rfl, hW]
    rw [eR] at q qn
    have lens : ∀ w ∈ ws ++ [t], w.length <= 10000 := λ w h => Nat.le_trans (wl.2 w (by
      rw [eW]
      rcases List.mem_append.mp h with h | h
      . simp [h]
      . simp [List.mem_singleton.mp h])) hr
    refine pop_i t1 (k7 hc1 ?_)
    rw [lcs]
    show popG (V.ref pw) [V.int (((cs.length : Nat) : Int) + 1)] G1 _
    rw [show ((cs.length : Nat) : Int) + 1 = ((cs.length + 1 : Nat) : Int) by omega]
    refine pop_at t1 (y := .str e) (by rw [<- lw]; simp [sts]) (by omega) ?_
    have ee : (sts (w0 :: (ws ++ [e, t]))).eraseIdx (cs.length + 1) = sts (w0 :: (ws ++ [t])) := by
      rw [<- erase_mid w0 e t ws, lw, W7]
    rw [ee]
    have S1 : Same B (upd G1 pw (.lst (sts (w0 :: (ws ++ [t]))))) := (sB.trans s1).put npw
    have k1 : ∀ b o, b ≠ pw -> G1 b = some o -> upd G1 pw (.lst (sts (w0 :: (ws ++ [t])))) b = some o := λ b o ne e => by rw [b4 ne]; exact e
    have w1 : upd G1 pw (.lst (sts (w0 :: (ws ++ [t])))) pw = some (.lst (sts (w0 :: (ws ++ [t])))) := b6
    have d1 := k1 _ _ ndw (s1 _ _ hd)
    have c1' := k1 _ _ ncw hc1
    have kH : ∀ b o, H b = some o -> upd G1 pw (.lst (sts (w0 :: (ws ++ [t])))) b = some o := λ b o e => k1 _ _ (λ z => by rw [z, n1] at e; cases e) (s1 _ _ e)
    generalize upd G1 pw (.lst (sts (w0 :: (ws ++ [t])))) = G2 at S1 w1 d1 c1' kH
    refine B9 (k7 w1 ?_)
    have l3 : ((sts (w0 :: (ws ++ [t]))).length : Int) = ((cs.length + 2 : Nat) : Int) := by
      have : (sts (w0 :: (ws ++ [t]))).length = cs.length + 2 := by simp [sts, lw]
      rw [this]
    rw [l3]
    refine ⟨⟨by omega, by omega, by omega, by omega⟩, ?_⟩
    rw [show (((cs.length + 2 : Nat) : Int) - 1).toNat = cs.length + 1 by omega]
    have zl : ((Cc cs).zip (ws ++ [t])).length = cs.length + 1 := by rw [List.length_zip]; simp [lw]
    refine a4c (λ i σ G => Same B G /\ (∀ b o, b ≠ pd -> G2 b = some o -> G b = some o) /\ (∃ d', (((Cc cs).zip (ws ++ [t])).take i).foldlM (k8 p) d = some d' /\ d'.length <= d.length + i /\ G pd = some (.dT d')) /\ ∃ u8, σ = [c0, c1, some (.ref pc), c3, some (.ref pd), some (.str p), some (.str row), some (.ref pw), u8])
      ⟨S1, λ b o _ e => e, ⟨d, rfl, by omega, d1⟩, _, rfl⟩ ?_ ?_
    . rintro i σ G hi ⟨sm, kp, ⟨d', ef, ld', hg⟩, u8, rfl⟩
      obtain ⟨⟨c, w⟩, hz⟩ : ∃ x, ((Cc cs).zip (ws ++ [t]))[i]? = some x := ⟨((Cc cs).zip (ws ++ [t]))[i]'(by omega), List.getElem?_eq_getElem (by omega)⟩
      obtain ⟨hz1, hz2⟩ := List.getElem?_zip_eq_some.mp hz
      have es : (((Cc cs).zip (ws ++ [t])).take (i + 1)).foldlM (k8 p) d = k8 p d' (c, w) := by
        rw [h7 hz, P4, ef]
        rfl
      refine r_tl_word (B := B) hz2 hz1 (lens w (List.mem_of_getElem? hz2)) l8 (kp _ _ (λ z => by rw [z, d1] at c1'; cases c1') c1') (kp _ _ (λ z => ndw z.symm) w1) sm nd hg (by omega) (λ d2 e2 G3 s3 k3 t3 => ⟨s3, λ b o ne e => k3 b o ne (kp b o ne e), ⟨d2, es.trans e2, ?_, t3⟩, _, rfl⟩) λ e2 G3 s3 => qn (U3 (es.trans e2)) G3 s3
      have := a2e e2
      omega
    . rintro σ G ⟨sm, kp, ⟨d', ef, ld', hg⟩, u8, rfl⟩
      rw [<- zl, List.take_length] at ef
      exact q d' ef (by omega) _ _ G sm (λ b o ne e => kp b o ne (kH b o e)) hg
  . refine u0 ?_ (u0 rfl (bad ?_))
    . simp [PyData.eqv]
      omega
    . unfold nW
      exact if_neg λ z => hl (by omega)
theorem a5q (hz : z.length <= 10000) (hl : H pl = some (.lst (sts L))) (hL8 : ∀ p ∈ L, p.length <= 8) (lL : L.length <= 25) (hc : H pc = some (.lst (sts cs))) (l1 : 1 <= cs.length) (l8 : cs.length <= 8)
    (q : ∀ d, j5 L (Cc cs) (d7 z) = some d -> ∀ p xs H', Same H H' -> H p = none -> H' p = some (.lst xs) -> PrsL H' d xs -> D.rt (.ref p) H') (qn : j5 L (Cc cs) (d7 z) = none -> ∀ H', Same H H' -> D.rt .non H') :
    a1c D [some (.str z), some (.ref pl), some (.ref pc), none, none, none, none, none, none] H := by
  have hs := sz
  obtain ⟨rl, rw'⟩ := a2b z
  have eL : (sts L).length = L.length := by simp [sts]
  have eR : (sts (d7 z)).length = (d7 z).length := by simp [sts]
  refine U1 (O5 (by omega) (by decide) (c7 λ pr G1 n1 s1 t1 => .inr (c7 λ pd G2 n2 s2 t2 => ?_)))
  have t1 : G1 pr = some (.lst (sts (d7 z))) := t1
  have S2 := s1.trans s2
  have npd : H pd = none := w6 s1 n2
  have hr2 := s2 _ _ t1
  have nr : pr ≠ pd := λ z => by rw [z, n2] at t1; cases t1
  refine k7 hr2 (k7 (S2 _ _ hl) ?_)
  rw [eL, eR]
  by_cases hn : (d7 z).length = L.length
  . have eP : j5 L (Cc cs) (d7 z) = (L.zip (d7 z)).foldlM (D6 (Cc cs)) [] := by
      unfold j5
      rw [if_pos hn]
    rw [eP] at q qn
    refine y9 (by rw [hn]; simp [PyData.eqv]) ?_
    refine B9 (zip_i (S2 _ _ hl) hr2 (a0W (xs := sts L) (ys := sts (d7 z)) (by rw [eL, eR, hn]) (λ i σ G => Same H G /\ G pr = some (.lst (sts (d7 z))) /\ (∃ d, ((L.zip (d7 z)).take i).foldlM (D6 (Cc cs)) [] = some d /\ d.length <= 9 * i /\ G pd = some (.dT d)) /\ ∃ u5 u6 u7 u8, σ = [some (.str z), some (.ref pl), some (.ref pc), some (.ref pr), some (.ref pd), u5, u6, u7, u8])
      ⟨S2, hr2, ⟨[], rfl, by simp, t2⟩, _, _, _, _, rfl⟩ (λ i σ G _ h => ⟨h.1 _ _ hl, h.2.1⟩) ?_ ?_))
    . rintro i p0 r0 t σ G G' hp0 hr0 ⟨sm, hpr, ⟨d, ef, ld, hg⟩, u5, u6, u7, u8, rfl⟩ nt st ht
      obtain ⟨p, hp1, rfl⟩ := K7 hp0
      obtain ⟨row, hr1, rfl⟩ := K7 hr0
      have hi := (List.getElem?_eq_some_iff.mp hp1).1
      have hzz : (L.zip (d7 z))[i]? = some (p, row) := List.getElem?_zip_eq_some.mpr ⟨hp1, hr1⟩
      have es : ((L.zip (d7 z)).take (i + 1)).foldlM (D6 (Cc cs)) [] = D6 (Cc cs) d (p, row) := by
        rw [h7 hzz, P4, ef]
        rfl
      refine ⟨t, _, rfl, .inl ht, rfl, _, _, rfl, _, _, rfl, rfl, ?_⟩
      have S := sm.trans st
      exact r_tl_row (B := H) (hL8 p (List.mem_of_getElem? hp1)) (Nat.le_trans (rw' row (List.mem_of_getElem? hr1)) hz) l1 l8 S npd (S _ _ hc) (st _ _ hg) (by omega) (λ d2 e2 l2 u7 u8 G2 s2 k2 t2 => ⟨s2, k2 _ _ nr (st _ _ hpr), ⟨d2, es.trans e2, by omega, t2⟩, _, _, _, _, rfl⟩) λ e2 G2 s2 => qn (U3 (es.trans e2)) G2 s2
    . rintro σ G ⟨sm, hpr, ⟨d, ef, ld, hg⟩, u5, u6, u7, u8, rfl⟩
      have el : (L.zip (d7 z)).length = L.length := by rw [List.length_zip]; omega
      rw [eL, <- el, List.take_length] at ef
      exact R7 hg λ p xs G3 s3 n3 t3 pr3 => q d ef p xs G3 (sm.trans s3) (w6 sm n3) t3 pr3
  . refine u0 ?_ (qn ?_ G2 S2)
    . simp [PyData.eqv]
      omega
    . unfold j5
      rw [if_neg hn]
end
end Tw
end Tv
namespace Tv
open PySem PySem.Spec PyProof.Rows L2
namespace Ty
open Tx
section
variable {K : PySem.W.Frag} {cl NH NX VE NB NP NR NS NT PI SE TF : Addr}
def Y5 (NH NX VE NB NP NR NS NT PI SE TF : Addr) : List (Addr × V × Bool) := [(NX, .ref VE, true), (NX, .ty "ValueError", true), (NX, .ref NB, false), (NX, .ref NH, false), (NX, .ref NP, false), (NX, .ref NR, false), (NX, .ref NS, false), (NX, .ref NT, false), (NX, .ref PI, false), (NX, .ref SE, false), (NX, .ref TF, false)]
theorem isiT_i {kit : List (Addr × V × Bool)} {a d t : Addr} {cs : List V} {bs : List Bool} {H : Hp} {Q : VK} (h : H a = some (.ext (TyAt a d))) (ht : H t = some (.tup cs)) (hl : cs.length = bs.length) (h0 : 0 < cs.length) (hm : ∀ (i : Nat) c b, cs[i]? = some c -> bs[i]? = some b -> (d, c, b) ∈ kit) (q : Q (.bl (bs.any id)) H) : isiT kit [.ref a, .ref t] H Q := by
  unfold isiT
  exact ⟨a, d, t, cs, bs, rfl, h, ht, hl, h0, hm, q⟩
end
end Ty
end Tv
namespace Tv
open PySem PySem.Spec PyProof.Rows L2
namespace Tw
open Nu Ty
section
variable {K : PySem.W.Frag} {cl NH NX VE NB NP NR NS NT PI SE TF : Addr}
def A4 (cl : Addr) : Sp := λ vs H Q _ => ∃ (x : Addr) (v : V) (ps : List (Str × Str)) (cs : List Str), vs = [.ref x, v] /\ HouseAt cl H x ps cs /\ R6 H v /\ (∀ z d, v = .str z -> j5 (Lp ps) (Cc cs) (d7 z) = some d -> ∀ l pd H', Same H H' -> H' l = some (.lst [.ref pd, .bl false]) -> H' pd = some (.dT d) -> Q (.ref l) H') /\ ((∀ z, v = .str z -> j5 (Lp ps) (Cc cs) (d7 z) = none) -> ∀ l H', Same H H' -> H' l = some (.lst [.non, .bl true]) -> Q (.ref l) H')
def to_suite (NH NX VE NB NP NR NS NT PI SE TF : Addr) : TS :=
  (c8 (e9 (tAndG (tCB (isiX (Y5 NH NX VE NB NP NR NS NT PI SE TF)) (a8 (gv 4) (a8 (tC (.ref VE)) b7))) (tCB (isiX (Y5 NH NX VE NB NP NR NS NT PI SE TF)) (a8 (gv 4) (a8 (tC (.ty "ValueError")) b7)))) (b9 3))
  (sIf (ptG (tCB (isiT (Y5 NH NX VE NB NP NR NS NT PI SE TF)) (a8 (gv 4) (a8 (a1Q (a8 (tC (.ref NB)) (a8 (tC (.ref NH)) (a8 (tC (.ref NP)) (a8 (tC (.ref NR)) (a8 (tC (.ref NS)) (a8 (tC (.ref NT)) (a8 (tC (.ref PI)) (a8 (tC (.ref SE)) (a8 (tC (.ref TF)) b7)))))))))) b7))))
    (e9 (tC (.bl false)) (b9 3))
    g0))
def a1d (cl NH NX VE NB NP NR NS NT PI SE TF : Addr) : TS :=
  (c8 (e9 (tC .non) (b9 2))
  (c8 (e9 (tC (.bl false)) (b9 3))
  (c8 (tTryS (λ E => e9 (g5 (p8 cl NX) [] E (a8 (gv 0) (a8 (gv 1) b7))) (b9 2)) [(NH, NH), (NX, NX)] NX 4 (to_suite NH NX VE NB NP NR NS NT PI SE TF))
  (g8 (u4 (a8 (gv 2) (a8 (gv 3) b7)))))))
theorem a5r {x : Addr} {v : V} {ps : List (Str × Str)} {cs : List Str} {H : Hp} {D : Ends} (hh : HouseAt cl H x ps cs) (ht : R6 H v) (q : ∀ z d, v = .str z -> j5 (Lp ps) (Cc cs) (d7 z) = some d -> ∀ l pd H', Same H H' -> H' l = some (.lst [.ref pd, .bl false]) -> H' pd = some (.dT d) -> D.rt (.ref l) H') (qe : (∀ z, v = .str z -> j5 (Lp ps) (Cc cs) (d7 z) = none) -> ∀ l H', Same H H' -> H' l = some (.lst [.non, .bl true]) -> D.rt (.ref l) H') :
    a1d cl NH NX VE NB NP NR NS NT PI SE TF D [some (.ref x), some v, none, none, none] H := by
  refine ⟨x, v, ps, cs, rfl, hh, ht, λ z d e1 e2 pd G s n t => ⟨few rfl, c7 λ l G2 n2 s2 t2 => q z d e1 e2 l pd G2 (s.trans s2) t2 (s2 _ _ t)⟩, λ no G s => ⟨NX, rfl, by simp, λ a ha => ?_⟩⟩
  have S : Same H (upd G a (.ext (TyAt a NX))) := s.put (s.free ha)
  have ta : upd G a (.ext (TyAt a NX)) a = some (.ext (TyAt a NX)) := b6
  generalize upd G a (.ext (TyAt a NX)) = G1 at S ta ⊢
  refine R.isiX_i ta (b := true) (by simp [Y5]) (u0 rfl (R.isiX_i ta (b := true) (by simp [Y5]) ?_))
  refine ⟨few rfl, c7 λ t G2 n2 s2 t2 => isiT_i (bs := [false, false, false, false, false, false, false, false, false]) (s2 _ _ ta) t2 rfl (by simp) (λ i c b h1 h2 => ?_) (y9 rfl ⟨few rfl, c7 λ l G3 n3 s3 t3 => qe no l G3 ((S.trans s2).trans s3) t3⟩)⟩
  have hb : b = false := by
    have := List.mem_of_getElem? h2
    simpa using this
  have hc := List.mem_of_getElem? h1
  subst hb
  simp only [List.mem_cons, List.not_mem_nil, or_false] at hc
  rcases hc with rfl | rfl | rfl | rfl | rfl | rfl | rfl | rfl | rfl <;> simp [Y5]
def a4o (cl : Addr) (E : XK) : TS :=
  (c8 (e9 (g5 (A4 cl) [] E (a8 (gv 3) (a8 (y4 "join" (tC (.str "\n")) (a8 (gv 5) b7)) b7))) (b9 9))
  (g8 (tAndG (tCB V3 (a8 (tOp j9 (gv 9) (tC (.int 0))) (a8 (tC (.ty "dict")) b7))) (tOp eqG (C2 (tOp j9 (gv 9) (tC (.int 0)))) (g5 A3 [] E (a8 (y4 "join" (tC (.str "\n")) (a8 (gv 5) b7)) (a8 (gv 4) (a8 (gv 2) b7))))))))
def J6 (cl : Addr) (E : XK) : TS :=
  (c8 (e9 (g5 (A4 cl) [] E (a8 (gv 3) (a8 (gv 7) b7))) (b9 9))
  (c8 (sIf (bT (tOp (isG false) (gv 8) (tC .non)))
    (sIf (J7 (ptG (tOp j9 (gv 9) (tC (.int 1)))))
      (g8 (tC (.bl false)))
      g0)
    (sIf (V1 (J7 (ptG (tCB V3 (a8 (tOp j9 (gv 9) (tC (.int 0))) (a8 (tC (.ty "dict")) b7))))) (bT (tOp neG (C2 (tOp j9 (gv 9) (tC (.int 0)))) (gv 8))))
      (g8 (tC (.bl false)))
      g0))
  (a4o cl E)))
def t14_due (K : PySem.W.Frag) (cl : Addr) (E : XK) : TS :=
  (c8 (sIf (bT (tOp eqG (tOp E9 (g5 (d6 K) [] E (a8 (gv 0) (a8 (tC (.int 4)) b7))) (tC (.int 9))) (tC (.int 1))))
    (c8 (e9 (tOp j9 (u4 (a8 (tC .non) (a8 (tC (.bl true)) (a8 (tC (.int 7)) (a8 (gv 5) (a8 (tCB V4 (a8 (gv 5) b7)) (a8 a1R b7))))))) (tOp E9 (gv 6) (tC (.int 6)))) (b9 7))
    (e9 (tC .non) (b9 8)))
    g0)
  (J6 cl E))
def a2j (K : PySem.W.Frag) (cl : Addr) (E : XK) : TS :=
  (c8 (e9 (tOp j0 (u4 (a8 (tC (.str "all")) b7)) (gv 1)) (b9 4))
  (c8 (e9 (g5 (E7 K) [] E (a8 (gv 0) (a8 (gv 4) (a8 (tCB x4 (a8 (gv 2) b7)) b7)))) (b9 5))
  (c8 (e9 (g5 (d6 K) [] E (a8 (gv 0) (a8 (tC (.int 5)) b7))) (b9 6))
  (c8 (e9 (g5 x9 [] E (a8 (gv 5) (a8 (gv 6) (a8 (tOp E9 (g5 (d6 K) [] E (a8 (gv 0) (a8 (tC (.int 3)) b7))) (tC (.int 10))) b7)))) (b9 7))
  (c8 (e9 (g5 A3 [] E (a8 (gv 7) (a8 (gv 4) (a8 (gv 2) b7)))) (b9 8))
  (t14_due K cl E))))))
def t14_law (K : PySem.W.Frag) (cl : Addr) (E : XK) : TS :=
  (c8 (e9 (g5 x8 [] E (a8 (g5 (d6 K) [] E (a8 (gv 0) (a8 (tC (.int 0)) b7))) (a8 (tOp j0 (tC (.int 1)) (tOp E9 (g5 (d6 K) [] E (a8 (gv 0) (a8 (tC (.int 1)) b7))) (tC (.int 5)))) b7))) (b9 1))
  (c8 (e9 (g5 x8 [] E (a8 (g5 (d6 K) [] E (a8 (gv 0) (a8 (tC (.int 2)) b7))) (a8 (tOp j0 (tC (.int 1)) (tOp E9 (tOp P8 (g5 (d6 K) [] E (a8 (gv 0) (a8 (tC (.int 2)) b7))) (tC (.int 9))) (tC (.int 4)))) b7))) (b9 2))
  (c8 (e9 (a1r cl (v0 cl) [] E (a8 (N8 (iOf w5 (gv 1)) ["_law_name"] [] (b9 0) tYes (a1Q (a8 (gv 0) (a8 (tC (.str "all")) b7)))) (a8 (tCB C0 (a8 (gv 2) b7)) b7))) (b9 3))
  (a2j K cl E))))
structure L14 (cl : Addr) (H : Hp) (pc x pl l : Addr) (ps : List (Str × Str)) (cs ls : List Str) : Prop where
  hou : HouseAt cl H x ps cs
  co : H pc = some (.lst (sts cs))
  pa : H pl = some (.lst (sts (Lp ps)))
  li : Lns H l ls
  ll : ls.length = (Lp ps).length
  gl : ∀ (i : Nat) p z, (Lp ps)[i]? = some p -> ls[i]? = some z -> GL p cs.length z
variable {pc x pl l a : Addr} {ps : List (Str × Str)} {cs ls : List Str} {H : Hp} {D : Ends} {E : XK} {ns : List Int} {o0 o1 o6 o7 o8 o9 : Option V}
theorem L14.same {H G : Hp} (h : L14 cl H pc x pl l ps cs ls) (s : Same H G) : L14 cl G pc x pl l ps cs ls := ⟨h.hou.same s, s _ _ h.co, s _ _ h.pa, h.li.same s, h.ll, h.gl⟩
theorem a3i {ps : List (Str × Str)} (g : Good ps) : ∀ p ∈ Lp ps, Word p /\ p.length <= 8 := λ p hp => by
  rcases List.mem_cons.mp hp with rfl | m
  . exact ⟨by unfold Word; decide +kernel, by decide +kernel⟩
  . exact ⟨word_nm (g.nms.1 _ m), (J1 (g.nms.1 _ m)).2.1⟩
theorem L14.rows {H : Hp} (h : L14 cl H pc x pl l ps cs ls) : d7 (Str.join "\n" ls) = ls /\ (Str.join "\n" ls).length <= 4000 /\ ∃ d, j5 (Lp ps) (Cc cs) ls = some d := by
  have g := h.hou.good
  have lw := a3i g
  refine ⟨?_, ?_, a5m (m := cs.length) (by simp) h.ll (λ p hp => (lw p hp).1) h.gl⟩
  . unfold d7
    rw [nl_eq]
    refine a0U (λ e => by have := h.ll; rw [e] at this; simp at this) λ z hz => ?_
    obtain ⟨i, hi⟩ := List.mem_iff_getElem?.mp hz
    have hl := (List.getElem?_eq_some_iff.mp hi).1
    obtain ⟨p, hp⟩ : ∃ p, (Lp ps)[i]? = some p := ⟨(Lp ps)[i]'(by rw [<- h.ll]; exact hl), List.getElem?_eq_getElem _⟩
    exact (h.gl i p z hp hi).free (lw p (List.mem_of_getElem? hp)).1
  . obtain ⟨j1, j2⟩ := L0 (b := 500) (n := 6) h.li.2.2.2 h.li.2.2.1
    rw [C4] at j2
    omega
theorem a4p (h : L14 cl H pc x pl l ps cs ls) (q : ∀ H', D.rt (.bl true) H') : a4o cl E D [o0, o1, some (.ref pc), some (.ref x), some (.ref pl), some (.ref l), o6, o7, o8, o9] H := by
  have hs := sz
  obtain ⟨er, el, d, ed⟩ := h.rows
  have g := h.hou.good
  have g2 := g.many
  have lw := a3i g
  have ln : (Lp ps).length <= 25 := by simp [E6]; omega
  obtain ⟨j1, j2⟩ := L0 (b := 500) (n := 6) h.li.2.2.2 h.li.2.2.1
  refine B0 (z7 h.li.1 (i5 _) (by omega) ?_)
  rw [C4]
  refine ⟨x, _, ps, cs, rfl, h.hou, .inl ⟨_, rfl, by omega⟩, λ z d' ez e2 lt pd G s t td => ?_, λ no => ?_⟩
  . cases ez
    rw [er, ed] at e2
    cases e2
    have hG := h.same s
    refine j6 t (v := .ref pd) rfl (E3 rfl (kind_dT td) (u0 rfl ?_))
    refine j6 t (v := .ref pd) rfl (R7 td λ p1 xs1 G1 s1 n1 t1 i1 => ?_)
    have h1 := hG.same s1
    refine B0 (z7 h1.li.1 (i5 _) (by omega) ?_)
    rw [C4]
    refine ⟨_, pl, pc, Lp ps, cs, rfl, by omega, h1.pa, λ p hp => (lw p hp).2, ln, h1.co, h.hou.one, h.hou.many, λ d' e2 p2 xs2 G2 s2 n2 t2 i2 => ?_, λ e2 => ?_⟩
    . rw [er, ed] at e2
      cases e2
      exact prs_eq (s2 _ _ t1) t2 (i1.same s2) i2 (a1b ed) (q G2)
    . rw [er, ed] at e2
      cases e2
  . have := no _ rfl
    rw [er, ed] at this
    cases this
theorem a2k {v : V} (h : L14 cl H pc x pl l ps cs ls) (ht : R6 H v) (no : ∀ z, v = .str z -> j5 (Lp ps) (Cc cs) (d7 z) = none) (q : ∀ H', D.rt (.bl true) H') : J6 cl E D [o0, o1, some (.ref pc), some (.ref x), some (.ref pl), some (.ref l), o6, some v, some .non, o9] H := by
  refine ⟨x, v, ps, cs, rfl, h.hou, ht, λ z d ez e2 => ?_, λ _ lt G s t => ?_⟩
  . rw [no z ez] at e2
    cases e2
  . exact u0 rfl (j6 t (v := .bl true) rfl (y9 rfl (a4p (h.same s) q)))
theorem r14_toldB {z : Str} {d : Dct} {pq : Addr} {xs : List V} (h : L14 cl H pc x pl l ps cs ls) (hz : z.length <= 10000) (e : j5 (Lp ps) (Cc cs) (d7 z) = some d) (hp : H pq = some (.lst xs)) (pr : PrsL H d xs) (q : ∀ H', D.rt (.bl true) H') : J6 cl E D [o0, o1, some (.ref pc), some (.ref x), some (.ref pl), some (.ref l), o6, some (.str z), some (.ref pq), o9] H := by
  refine ⟨x, .str z, ps, cs, rfl, h.hou, .inl ⟨z, rfl, hz⟩, λ z' d' ez e2 lt pd G s t td => ?_, λ no => ?_⟩
  . cases ez
    rw [e] at e2
    cases e2
    refine y9 rfl (j6 t (v := .ref pd) rfl (E3 rfl (kind_dT td) (y9 rfl ?_)))
    refine j6 t (v := .ref pd) rfl (R7 td λ p1 xs1 G1 s1 n1 t1 i1 => ?_)
    refine prs_eq t1 ((s.trans s1) _ _ hp) i1 (Nu.PrsL.same pr (s.trans s1)) (a1b e) (y9 rfl ?_)
    exact a4p (h.same (s.trans s1)) q
  . have := no z rfl
    rw [e] at this
    cases this
theorem a4q {v : V} {c : Int} (hS : SqL K H a (ns.map V.int)) (h : L14 cl H pc x pl l ps cs ls) (q : ∀ H', D.rt (.bl true) H') (rest : (v = .non -> ∀ o, J6 cl E D [some (.ref a), o1, some (.ref pc), some (.ref x), some (.ref pl), some (.ref l), some (.int c), o7, some v, o] H) /\ ((∃ p, v = .ref p) -> ∀ o, J6 cl E D [some (.ref a), o1, some (.ref pc), some (.ref x), some (.ref pl), some (.ref l), some (.int c), o7, some v, o] H)) (hv : v = .non \/ ∃ p, v = .ref p) :
    t14_due K cl E D [some (.ref a), o1, some (.ref pc), some (.ref x), some (.ref pl), some (.ref l), some (.int c), o7, some v, none] H := by
  have hs := sz
  refine ⟨a, ns, 4, rfl, hS, by decide, by decide, i9 (λ _ => ?_) (λ _ => ?_)⟩
  . refine R.tupleL_i h.li.1 (c7 λ pt G4 n4 s4 t4 => .inl (c7 λ pd G5 n5 s5 t5 => ⟨few rfl, c7 λ p6 G6 n6 s6 t6 => ⟨by decide, ?_⟩⟩))
    have S6 := (s4.trans s5).trans s6
    have m1 := Int.emod_nonneg c (show (6 : Int) ≠ 0 by decide)
    have m2 := Int.emod_lt_of_pos c (show (0 : Int) < 6 by decide)
    have h6 := h.same S6
    have go : ∀ y, atI [V.non, .bl true, .int 7, .ref l, .ref pt, .ref pd] (c % 6) = some y -> Thing G6 y -> (∀ z, y ≠ .str z) -> j9 (.ref p6) (.int (c % 6)) G6 λ v G7 => J6 cl E D [some (.ref a), o1, some (.ref pc), some (.ref x), some (.ref pl), some (.ref l), some (.int c), some v, some .non, none] G7 := λ y hy ty ny =>
      j6 t6 hy (a2k h6 (.inr ⟨ty, ny⟩) (λ z e => (ny z e).elim) q)
    have : c % 6 = 0 \/ c % 6 = 1 \/ c % 6 = 2 \/ c % 6 = 3 \/ c % 6 = 4 \/ c % 6 = 5 := by omega
    rcases this with e | e | e | e | e | e
    . exact go .non (by rw [e]; rfl) .non (λ z => nofun)
    . exact go (.bl true) (by rw [e]; rfl) (.bl true) (λ z => nofun)
    . exact go (.int 7) (by rw [e]; rfl) (.int 7) (λ z => nofun)
    . exact go (.ref l) (by rw [e]; rfl) (.lst h6.li.1) (λ z => nofun)
    . exact go (.ref pt) (by rw [e]; rfl) (.tup (s6 _ _ (s5 _ _ t4))) (λ z => nofun)
    . exact go (.ref pd) (by rw [e]; rfl) (.dK (s6 _ _ t5)) (λ z => nofun)
  . rcases hv with e | e
    . exact rest.1 e none
    . exact rest.2 e none
end
end Tw
end Tv
namespace Tv
open PySem PySem.Spec PyProof.Rows L2
namespace Nu
def a3j (K : PySem.W.Frag) : Sp := λ vs H Q _ => ∃ (a : Addr) (ns : List Int), vs = [.ref a] /\ SqL K H a (ns.map V.int) /\ U4 ns /\ ∀ H', Q (.bl true) H'
end Nu
namespace Tw
open Nu Ty
section
variable {K : PySem.W.Frag} {cl : Addr} {H : Hp} {D : Ends} {E : XK} {ns : List Int}
theorem a2l (zs : List Str) : E6 (zs.map λ z => (z, ("all" : Str))) = zs := by
  unfold E6
  rw [List.map_map]
  exact List.map_id _
theorem good_all {zs : List Str} (hn : Nms zs) (h1 : 1 <= zs.length) (h2 : zs.length <= 24) : Good (zs.map λ z => (z, ("all" : Str))) := ⟨by rw [List.length_map]; exact h1, by rw [List.length_map]; exact h2, by rw [show (zs.map λ z => (z, ("all" : Str))).map (·.1) = zs from a2l zs]; exact hn, λ i q e => by
  rw [List.getElem?_map] at e
  cases h : zs[i]? with
  | none => rw [h] at e; cases e
  | some z =>
    rw [h] at e
    cases e
    exact .inl rfl⟩
theorem pairs_all {G : Hp} {ws : List V} {zs : List Str} (h : TupsAt G ws (zs.map λ z => ([z, "all"] : List Str))) : PairsAt G ws (zs.map λ z => (z, ("all" : Str))) := ⟨by rw [h.1, List.length_map, List.length_map], λ i p e => by
  rw [List.getElem?_map] at e
  cases hz : zs[i]? with
  | none => rw [hz] at e; cases e
  | some z =>
    rw [hz] at e
    cases e
    obtain ⟨t, h1, h2⟩ := h.2 i [z, "all"] (by rw [List.getElem?_map, hz]; rfl)
    exact ⟨t, h1, h2⟩⟩
theorem r14_lines {a pn pc x : Addr} {zs cs : List Str} (hS : SqL K H a (ns.map V.int)) (sh : U4 ns) (hz : H pn = some (.lst (sts zs))) (zn : Nms zs) (z1 : 1 <= zs.length) (z5 : zs.length <= 5) (hc : H pc = some (.lst (sts cs))) (hh : HouseAt cl H x (zs.map λ z => (z, ("all" : Str))) cs) (q : ∀ H', D.rt (.bl true) H') :
    a2j K cl E D [some (.ref a), some (.ref pn), some (.ref pc), some (.ref x), none, none, none, none, none, none] H := by
  have hs := sz
  generalize hps : (zs.map λ z => (z, ("all" : Str))) = ps at hh
  have en : E6 ps = zs := by rw [<- hps]; exact a2l zs
  have g := hh.good
  have lw := a3i g
  have lcs : (sts cs).length = cs.length := by simp [sts]
  have lL : (Lp ps).length = zs.length + 1 := by simp [en]
  refine ⟨few rfl, c7 λ p0 G0 n0 s0 t0 => A9 t0 (s0 _ _ hz) (by simp [sts]; omega) (c7 λ pl G1 n1 s1 t1 => ?_)⟩
  have t1 : G1 pl = some (.lst (sts (Lp ps))) := by rw [t1]; simp [sts, en]
  have S1 := s0.trans s1
  refine k7 (S1 _ _ hc) ?_
  rw [lcs]
  refine ⟨a, pl, cs.length, ns, Lp ps, rfl, S1.seq hS, sh, t1, λ p hp => (lw p hp).2, by omega, hh.one, hh.many, λ l ls G2 s2 n2 t2 ll gl => ?_⟩
  have S2 := S1.trans s2
  have h2 : L14 cl G2 pc x pl l ps cs ls := ⟨hh.same S2, S2 _ _ hc, s2 _ _ t1, ⟨t2, by omega, by omega, λ z hz => by
    obtain ⟨i, hi⟩ := List.mem_iff_getElem?.mp hz
    have hl := (List.getElem?_eq_some_iff.mp hi).1
    obtain ⟨p, hp⟩ : ∃ p, (Lp ps)[i]? = some p := ⟨(Lp ps)[i]'(by rw [<- ll]; exact hl), List.getElem?_eq_getElem _⟩
    exact (gl i p z hp hi).len (lw p (List.mem_of_getElem? hp)).2 hh.many⟩, ll, gl⟩
  refine ⟨a, ns, 5, rfl, S2.seq hS, by decide, a, ns, 3, rfl, S2.seq hS, by decide, by decide, l, ls, _, _, rfl, h2.li, λ z G3 s3 lz => ?_⟩
  have S3 := S2.trans s3
  have h3 := h2.same s3
  refine ⟨z, pl, pc, Lp ps, cs, rfl, lz, h3.pa, λ p hp => (lw p hp).2, by omega, h3.co, hh.one, hh.many, λ d e pq xs G4 s4 n4 t4 pr => ?_, λ e G4 s4 => ?_⟩
  . exact a4q ((S3.trans s4).seq hS) (h3.same s4) q ⟨λ e => (nomatch e), λ _ o => r14_toldB (h3.same s4) lz e t4 pr q⟩ (.inr ⟨pq, rfl⟩)
  . exact a4q ((S3.trans s4).seq hS) (h3.same s4) q ⟨λ _ o => a2k (h3.same s4) (.inl ⟨z, rfl, lz⟩) (λ z' ez => by cases ez; exact e) q, λ ⟨p, e⟩ => (nomatch e)⟩ (.inl rfl)
theorem r14_law {a : Addr} (hS : SqL K H a (ns.map V.int)) (sh : U4 ns) (q : ∀ H', D.rt (.bl true) H') : t14_law K cl E D [some (.ref a), none, none, none, none, none, none, none, none, none] H := by
  have hs := sz
  have one : ∀ (c b : Int), 0 < b -> b <= 5 -> ∃ m : Nat, 1 + c % b = m /\ 1 <= m /\ m <= 5 := λ c b h0 h5 => by
    have w1 := Int.emod_nonneg c (show b ≠ 0 by omega)
    have w2 := Int.emod_lt_of_pos c h0
    exact ⟨(1 + c % b).toNat, by omega, by omega, by omega⟩
  refine ⟨a, ns, 0, rfl, hS, by decide, a, ns, 1, rfl, hS, by decide, by decide, ?_⟩
  obtain ⟨m1, e1, a1, b1⟩ := one (O1 ns 1) 5 (by decide) (by decide)
  refine ⟨_, m1, congrArg (λ y => [V.int _, V.int y]) e1, by omega, λ pn zs G1 s1 n1 t1 zn zl => ?_⟩
  refine ⟨a, ns, 2, rfl, s1.seq hS, by decide, a, ns, 2, rfl, s1.seq hS, by decide, ⟨by decide, by decide⟩, by decide, ?_⟩
  obtain ⟨m2, e2, a2, b2⟩ := one (O1 ns 2 / 9) 4 (by decide) (by decide)
  refine ⟨_, m2, congrArg (λ y => [V.int _, V.int y]) e2, by omega, λ pc cs G2 s2 n2 t2 cn cl' => ?_⟩
  refine comp_i (Z8 (s2 _ _ t1) (comp_lt (tupF λ n => ([n, "all"] : List Str)) (s2 _ _ t1) (by simp [sts]; omega) ?_ ?_))
  . intro j w hw G9 k B s9 hk9 _
    obtain ⟨m, hm, rfl⟩ := K7 hw
    exact u0 rfl ⟨few rfl, c7 λ t G10 n10 s10 t10 => hk9 _ rfl t G10 s10 t10⟩
  intro pp ws G3 n3 s3 t3 pw
  rw [fm_tup] at pw
  have pa := pairs_all pw
  refine listL_i (s3 _ _ t2) (c7 λ pq G4 n4 s4 t4 => ?_)
  intro x dx nx ndx _
  refine make_i (good_all zn (by omega) (by omega)) cn (by omega) (by omega) (s4 _ _ t3) (pa.same s4) t4 nx ndx λ G5 s5 hf => ⟨rfl, ?_⟩
  have hh := hf G5 λ _ _ _ e => e
  have S := s1.trans (s2.trans (s3.trans (s4.trans s5)))
  exact r14_lines (S.seq hS) sh ((s2.trans (s3.trans (s4.trans s5))) _ _ t1) zn (by omega) (by omega) ((s3.trans (s4.trans s5)) _ _ t2) hh q
end
end Tw
end Tv
namespace P14
open PySem PySem.Spec PyProof.Rows L2 Tv
def top (i : Nat) : Stmt := PySem.Challenge.pw_tallyveil_k14_texts_of_no_numbers.main.body.getD i (.Pass ⟨0, 0, 0, 0⟩)
abbrev R8 : Stmt := top 16
theorem sc_name : FnScope ["thing"] ["thing"] (a9 R8) := ⟨rfl, rfl, rfl, by decide +kernel, rfl, by decide +kernel, by decide +kernel⟩
abbrev L1 : Stmt := top 22
theorem sc_plain : FnScope ["text"] ["text"] (a9 L1) := ⟨rfl, rfl, rfl, by decide +kernel, rfl, by decide +kernel, by decide +kernel⟩
abbrev L3 : Stmt := top 20
theorem sc_cname : FnScope ["thing", "ahead", "name"] ["thing", "ahead"] (a9 L3) := ⟨rfl, rfl, rfl, by decide +kernel, rfl, by decide +kernel, by decide +kernel⟩
abbrev C5 : Stmt := top 21
theorem sc_cabove : FnScope ["thing", "ahead", "above"] ["thing", "ahead"] (a9 C5) := ⟨rfl, rfl, rfl, by decide +kernel, rfl, by decide +kernel, by decide +kernel⟩
abbrev L4 : Stmt := top 19
theorem sc_ccols : FnScope ["columns", "names", "column"] ["columns"] (a9 L4) := ⟨rfl, rfl, rfl, by decide +kernel, rfl, by decide +kernel, by decide +kernel⟩
abbrev C6 : Stmt := top 18
theorem sc_cparts : FnScope ["parts", "above_of", "part", "name", "above"] ["parts"] (a9 C6) := ⟨rfl, rfl, rfl, by decide +kernel, rfl, by decide +kernel, by decide +kernel⟩
abbrev C7 : Stmt := top 23
theorem sc_turned : FnScope ["above_of", "beneath_of", "part", "above"] ["above_of"] (a9 C7) := ⟨rfl, rfl, rfl, by decide +kernel, rfl, by decide +kernel, by decide +kernel⟩
abbrev O6 : Stmt := a2z (top 17) 0
theorem sc_init : FnScope ["self", "parts", "columns"] ["self", "parts", "columns"] (a9 O6) := ⟨rfl, rfl, rfl, by decide +kernel, rfl, by decide +kernel, by decide +kernel⟩
abbrev A5 : Stmt := a2z (top 17) 1
theorem sc_mparts : FnScope ["self"] ["self"] (a9 A5) := ⟨rfl, rfl, rfl, by decide +kernel, rfl, by decide +kernel, by decide +kernel⟩
abbrev E8 : Stmt := a2z (top 17) 3
theorem sc_mcols : FnScope ["self"] ["self"] (a9 E8) := ⟨rfl, rfl, rfl, by decide +kernel, rfl, by decide +kernel, by decide +kernel⟩
abbrev C8 : Stmt := top 22
theorem sc_plainN : FnScope ["text"] ["text"] (a9 C8) := ⟨rfl, rfl, rfl, by decide +kernel, rfl, by decide +kernel, by decide +kernel⟩
abbrev L5 : Stmt := top 31
theorem sc_isfig : FnScope ["word"] ["word"] (a9 L5) := ⟨rfl, rfl, rfl, by decide +kernel, rfl, by decide +kernel, by decide +kernel⟩
abbrev L6 : Stmt := top 28
theorem sc_ctext : FnScope ["thing"] ["thing"] (a9 L6) := ⟨rfl, rfl, rfl, by decide +kernel, rfl, by decide +kernel, by decide +kernel⟩
abbrev C9 : Stmt := top 29
theorem sc_nwords : FnScope ["part", "count", "row", "words"] ["part", "count", "row"] (a9 C9) := ⟨rfl, rfl, rfl, by decide +kernel, rfl, by decide +kernel, by decide +kernel⟩
abbrev R9 : Stmt := top 30
theorem sc_rfig : FnScope ["word"] ["word"] (a9 R9) := ⟨rfl, rfl, rfl, by decide +kernel, rfl, by decide +kernel, by decide +kernel⟩
abbrev L7 : Stmt := top 27
theorem sc_reads : FnScope ["house", "text", "parts", "columns", "rows", "numbers", "part", "row", "column", "word"] ["house", "text"] (a9 L7) := ⟨rfl, rfl, rfl, by decide +kernel, rfl, by decide +kernel, by decide +kernel⟩
abbrev S0 : Stmt := top 33
theorem sc_cell : FnScope ["_law_script", "_law_k"] ["_law_script", "_law_k"] (a9 S0) := ⟨rfl, rfl, rfl, by decide +kernel, rfl, by decide +kernel, by decide +kernel⟩
abbrev D1 : Stmt := top 34
theorem sc_lnames : FnScope ["_law_cell", "_law_many", "_law_words_here", "_law_start"] ["_law_cell", "_law_many"] (a9 D1) := ⟨rfl, rfl, rfl, by decide +kernel, rfl, by decide +kernel, by decide +kernel⟩
abbrev L9 : Stmt := top 35
theorem sc_lgood : FnScope ["_law_script", "_law_some", "_law_many", "_law_lines", "_law_place", "_law_part", "_law_words_here", "_law_k", "_law_cell"] ["_law_script", "_law_some", "_law_many"] (a9 L9) := ⟨rfl, rfl, rfl, by decide +kernel, rfl, by decide +kernel, by decide +kernel⟩
abbrev D2 : Stmt := top 36
theorem sc_lsigns : FnScope ["_law_text", "_law_cell", "_law_way", "_law_signs_here", "_law_sign", "_law_at"] ["_law_text", "_law_cell", "_law_way"] (a9 D2) := ⟨rfl, rfl, rfl, by decide +kernel, rfl, by decide +kernel, by decide +kernel⟩
abbrev D3 : Stmt := top 37
theorem sc_lwords : FnScope ["_law_lines", "_law_cell", "_law_way", "_law_k", "_law_words_here", "_law_at", "_law_odd"] ["_law_lines", "_law_cell", "_law_way"] (a9 D3) := ⟨rfl, rfl, rfl, by decide +kernel, rfl, by decide +kernel, by decide +kernel⟩
abbrev D4 : Stmt := top 38
theorem sc_lspoil : FnScope ["_law_lines", "_law_cell", "_law_way", "_law_at"] ["_law_lines", "_law_cell", "_law_way"] (a9 D4) := ⟨rfl, rfl, rfl, by decide +kernel, rfl, by decide +kernel, by decide +kernel⟩
abbrev D5 : Stmt := top 39
theorem sc_lisnum : FnScope ["_law_word", "_law_sign"] ["_law_word"] (a9 D5) := ⟨rfl, rfl, rfl, by decide +kernel, rfl, by decide +kernel, by decide +kernel⟩
abbrev M0 : Stmt := top 40
theorem sc_lread : FnScope ["_law_text", "_law_some", "_law_columns", "_law_lines", "_law_found", "_law_part", "_law_line", "_law_words_here", "_law_k"] ["_law_text", "_law_some", "_law_columns"] (a9 M0) := ⟨rfl, rfl, rfl, by decide +kernel, rfl, by decide +kernel, by decide +kernel⟩
abbrev S4 : Stmt := top 41
theorem sc_told : FnScope ["_law_house", "_law_thing", "_law_found", "_law_right", "e"] ["_law_house", "_law_thing"] (a9 S4) := ⟨rfl, rfl, rfl, by decide +kernel, rfl, by decide +kernel, by decide +kernel⟩
abbrev O7 : Stmt := top 42
theorem sc_law : FnScope ["_law_script", "_law_told_here", "_law_columns", "_law_house", "_law_some", "_law_lines", "_law_cell", "_law_text", "_law_due", "_law_found"] ["_law_script"] (a9 O7) := ⟨rfl, rfl, rfl, by decide +kernel, rfl, by decide +kernel, by decide +kernel⟩
structure Txt (K : PySem.W.Frag) (mg : Str -> Option Value) (C NH NX VE NB NP NR NS NT PI SE TF : Addr) : Prop where
  cl : Cls K C
  mC : mg "House" = some (.ref C)
  f_above_of : NoAttr K C "above_of"
  f_column_names : NoAttr K C "column_names"
  f_beneath_of : NoAttr K C "beneath_of"
  n_isinstance : mg "isinstance" = none
  n_str : mg "str" = none
  n_list : mg "list" = none
  n_tuple : mg "tuple" = none
  n_len : mg "len" = none
  n_all : mg "all" = none
  n_range : mg "range" = none
  n_int : mg "int" = none
  n_zip : mg "zip" = none
  n_dict : mg "dict" = none
  n_ValueError : mg "ValueError" = none
  g_ALL : ∃ t, mg "ALL" = some (.str "all" t)
  g_UNTOLD : ∃ t, mg "UNTOLD" = some (.str "*" t)
  g_MOST_FIGURES : ∃ t, mg "MOST_FIGURES" = some (.int 40 t)
  mNH : mg "NoHouse" = some (.ref NH)
  mNX : mg "NoText" = some (.ref NX)
  mVE : mg "VeilError" = some (.ref VE)
  mNB : mg "NoBase" = some (.ref NB)
  mNP : mg "NoPlace" = some (.ref NP)
  mNR : mg "NoRow" = some (.ref NR)
  mNS : mg "NoSecret" = some (.ref NS)
  mNT : mg "NoTable" = some (.ref NT)
  mPI : mg "Pinned" = some (.ref PI)
  mSE : mg "Secret" = some (.ref SE)
  mTF : mg "TooFar" = some (.ref TF)
  ecNH : ExcC K NH
  ecNX : ExcC K NX
  qVE : PySem.W.kitOne K (.ref NX) (.ref VE) = some true
  qV : PySem.W.kitOne K (.ref NX) (.type "ValueError") = some true
  qNB : PySem.W.kitOne K (.ref NX) (.ref NB) = some false
  qNH : PySem.W.kitOne K (.ref NX) (.ref NH) = some false
  qNP : PySem.W.kitOne K (.ref NX) (.ref NP) = some false
  qNR : PySem.W.kitOne K (.ref NX) (.ref NR) = some false
  qNS : PySem.W.kitOne K (.ref NX) (.ref NS) = some false
  qNT : PySem.W.kitOne K (.ref NX) (.ref NT) = some false
  qPI : PySem.W.kitOne K (.ref NX) (.ref PI) = some false
  qSE : PySem.W.kitOne K (.ref NX) (.ref SE) = some false
  qTF : PySem.W.kitOne K (.ref NX) (.ref TF) = some false
  hitNH : PySem.W.exmOne K (.ref NH) (.ref NH) = some true
  hitNX : PySem.W.exmOne K (.ref NX) (.ref NX) = some true
def Q7 (C NH NX VE NB NP NR NS NT PI SE TF : Addr) (fns : List (Str × Sp)) (mks mts : List (Str × Addr × Sp)) : Tabs := { fns := fns, mks := mks, mts := mts, fld := [("above_of", C), ("column_names", C), ("beneath_of", C)], glo := [("ALL", .str "all"), ("UNTOLD", .str "*"), ("MOST_FIGURES", .int 40), ("NoHouse", .ref NH), ("NoText", .ref NX), ("VeilError", .ref VE), ("NoBase", .ref NB), ("NoPlace", .ref NP), ("NoRow", .ref NR), ("NoSecret", .ref NS), ("NoTable", .ref NT), ("Pinned", .ref PI), ("Secret", .ref SE), ("TooFar", .ref TF)], nog := ["isinstance", "str", "list", "tuple", "len", "all", "range", "int", "zip", "dict", "ValueError"], scr := ["_law_script"], exs := [("NoHouse", NH), ("NoText", NX)], kit := Ty.Y5 NH NX VE NB NP NR NS NT PI SE TF, hit := [(NH, NH), (NX, NX)], top := true }
def D7 (C : Addr) (fns : List (Str × Sp)) (mks mts : List (Str × Addr × Sp)) : Tabs := { fns := fns, mks := mks, mts := mts, fld := [("above_of", C), ("column_names", C), ("beneath_of", C)], glo := [("ALL", .str "all"), ("UNTOLD", .str "*"), ("MOST_FIGURES", .int 40)], nog := ["isinstance", "str", "list", "tuple", "len", "all", "range", "int", "zip", "dict", "ValueError"], scr := ["_law_script"] }
section
variable {P : Program} {w : World} {K : PySem.W.Frag} {mg : Str -> Option Value} {base : Heap} {C NH NX VE NB NP NR NS NT PI SE TF : Addr}
theorem lib {k : Nat} {fns : List (Str × Sp)} {mks mts : List (Str × Addr × Sp)} (T : Txt K mg C NH NX VE NB NP NR NS NT PI SE TF) (h : Ents (FnE P w K mg base CX0 k) fns) (hm : Ents (MkE P w K mg base CX0 k) mks) (ht : Ents (λ m p => p.1 = C /\ MtE P w K mg base CX0 k m p) mts) : Lib P w K mg base CX0 k (D7 C fns mks mts) := by
  refine lib_cls T.cl h hm ht (.cons ⟨rfl, T.f_above_of⟩ (.cons ⟨rfl, T.f_column_names⟩ (.cons ⟨rfl, T.f_beneath_of⟩ (.nil)))) (λ x v e => ?_) (λ x hx => ?_)
  . have : Ents (λ x v => ∃ u, mg x = some u /\ RelV v u) [("ALL", V.str "all"), ("UNTOLD", V.str "*"), ("MOST_FIGURES", V.int 40)] := .cons (by obtain ⟨t, h⟩ := T.g_ALL; exact ⟨_, h, _, rfl⟩) (.cons (by obtain ⟨t, h⟩ := T.g_UNTOLD; exact ⟨_, h, _, rfl⟩) (.cons (by obtain ⟨t, h⟩ := T.g_MOST_FIGURES; exact ⟨_, h, _, rfl⟩) (.nil)))
    exact this.get x v e
  . simp only [D7, List.mem_cons, List.not_mem_nil, or_false] at hx
    rcases hx with rfl | rfl | rfl | rfl | rfl | rfl | rfl | rfl | rfl | rfl | rfl
    . exact T.n_isinstance
    . exact T.n_str
    . exact T.n_list
    . exact T.n_tuple
    . exact T.n_len
    . exact T.n_all
    . exact T.n_range
    . exact T.n_int
    . exact T.n_zip
    . exact T.n_dict
    . exact T.n_ValueError
theorem libE {k : Nat} {fns : List (Str × Sp)} {mks mts : List (Str × Addr × Sp)} (T : Txt K mg C NH NX VE NB NP NR NS NT PI SE TF) (h : Ents (FnE P w K mg base (CXE P w) k) fns) (hm : Ents (MkE P w K mg base (CXE P w) k) mks) (ht : Ents (λ m p => p.1 = C /\ MtE P w K mg base (CXE P w) k m p) mts) : Lib P w K mg base (CXE P w) k (Q7 C NH NX VE NB NP NR NS NT PI SE TF fns mks mts) := by
  refine lib_cls T.cl h hm ht (.cons ⟨rfl, T.f_above_of⟩ (.cons ⟨rfl, T.f_column_names⟩ (.cons ⟨rfl, T.f_beneath_of⟩ (.nil)))) (λ x v e => ?_) (λ x hx => ?_) (he := λ x cl e => ?_) (hk := λ p hp => ?_) (hh := λ p hp => ?_)
  . have : Ents (λ x v => ∃ u, mg x = some u /\ RelV v u) [("ALL", V.str "all"), ("UNTOLD", V.str "*"), ("MOST_FIGURES", V.int 40), ("NoHouse", V.ref NH), ("NoText", V.ref NX), ("VeilError", V.ref VE), ("NoBase", V.ref NB), ("NoPlace", V.ref NP), ("NoRow", V.ref NR), ("NoSecret", V.ref NS), ("NoTable", V.ref NT), ("Pinned", V.ref PI), ("Secret", V.ref SE), ("TooFar", V.ref TF)] := .cons (by obtain ⟨t, h⟩ := T.g_ALL; exact ⟨_, h, _, rfl⟩) (.cons (by obtain ⟨t, h⟩ := T.g_UNTOLD; exact ⟨_, h, _, rfl⟩) (.cons (by obtain ⟨t, h⟩ := T.g_MOST_FIGURES; exact ⟨_, h, _, rfl⟩) (.cons ⟨_, T.mNH, rfl⟩ (.cons ⟨_, T.mNX, rfl⟩ (.cons ⟨_, T.mVE, rfl⟩ (.cons ⟨_, T.mNB, rfl⟩ (.cons ⟨_, T.mNP, rfl⟩ (.cons ⟨_, T.mNR, rfl⟩ (.cons ⟨_, T.mNS, rfl⟩ (.cons ⟨_, T.mNT, rfl⟩ (.cons ⟨_, T.mPI, rfl⟩ (.cons ⟨_, T.mSE, rfl⟩ (.cons ⟨_, T.mTF, rfl⟩ (.nil))))))))))))))
    exact this.get x v e
  . simp only [Q7, List.mem_cons, List.not_mem_nil, or_false] at hx
    rcases hx with rfl | rfl | rfl | rfl | rfl | rfl | rfl | rfl | rfl | rfl | rfl
    . exact T.n_isinstance
    . exact T.n_str
    . exact T.n_list
    . exact T.n_tuple
    . exact T.n_len
    . exact T.n_all
    . exact T.n_range
    . exact T.n_int
    . exact T.n_zip
    . exact T.n_dict
    . exact T.n_ValueError
  . have : Ents (λ x cl => mg x = some (.ref cl) /\ ExcC K cl) [("NoHouse", NH), ("NoText", NX)] := .cons ⟨T.mNH, T.ecNH⟩ (.cons ⟨T.mNX, T.ecNX⟩ (.nil))
    exact this.get x cl e
  . simp only [Q7, Ty.Y5, List.mem_cons, List.not_mem_nil, or_false] at hp
    rcases hp with rfl | rfl | rfl | rfl | rfl | rfl | rfl | rfl | rfl | rfl | rfl
    . exact ⟨T.ecNX, λ u r => by cases r; exact T.qVE⟩
    . exact ⟨T.ecNX, λ u r => by cases r; exact T.qV⟩
    . exact ⟨T.ecNX, λ u r => by cases r; exact T.qNB⟩
    . exact ⟨T.ecNX, λ u r => by cases r; exact T.qNH⟩
    . exact ⟨T.ecNX, λ u r => by cases r; exact T.qNP⟩
    . exact ⟨T.ecNX, λ u r => by cases r; exact T.qNR⟩
    . exact ⟨T.ecNX, λ u r => by cases r; exact T.qNS⟩
    . exact ⟨T.ecNX, λ u r => by cases r; exact T.qNT⟩
    . exact ⟨T.ecNX, λ u r => by cases r; exact T.qPI⟩
    . exact ⟨T.ecNX, λ u r => by cases r; exact T.qSE⟩
    . exact ⟨T.ecNX, λ u r => by cases r; exact T.qTF⟩
  . simp only [Q7, List.mem_cons, List.not_mem_nil, or_false] at hp
    rcases hp with rfl | rfl
    . exact T.hitNH
    . exact T.hitNX
theorem FnE.lift {k : Nat} {x : Str} {sp : Sp} (h : FnE P w K mg base CX0 k x sp) : FnE P w K mg base (CXE P w) k x sp := by
  obtain ⟨f, fd, ps, F, r⟩ := h
  exact ⟨f, fd, ps, Tv.FnOk.lift F, r⟩
theorem MkE.lift {k : Nat} {x : Str} {p : Addr × Sp} (h : MkE P w K mg base CX0 k x p) : MkE P w K mg base (CXE P w) k x p := by
  obtain ⟨f, fd, ps, M, F, r⟩ := h
  exact ⟨f, fd, ps, M, Tv.FnOk.lift F, r⟩
theorem MtE.lift {k : Nat} {x : Str} {p : Addr × Sp} (h : MtE P w K mg base CX0 k x p) : MtE P w K mg base (CXE P w) k x p := by
  obtain ⟨f, fd, ps, M, F, r⟩ := h
  exact ⟨f, fd, ps, M, Tv.FnOk.lift F, r⟩
theorem w_name : wSs (wp 40) (cfg (D7 C [] [] []) K ["thing"] (a9 R8).names E0) (b5 R8) = a1X := by kernel_rfl
theorem ok_name {f : Addr} {fd : FuncData} (A : DefAt K mg "is_name" R8 ["thing"] f fd) (T : Txt K mg C NH NX VE NB NP NR NS NT PI SE TF) : FnE P w K mg base CX0 2 "is_name" (K6) :=
  A.ok (k := 0) 40 sc_name (lib T (.nil) (.nil) (.nil)) (λ vs H Q E h => by obtain ⟨x, S, rfl, _⟩ := h; rfl) w_name (λ vs H Q E h => by obtain ⟨x, S, rfl, hk, hz, q⟩ := h; exact r_is_name hk hz q)
theorem w_plain : wSs (wp 40) (cfg (D7 C [] [] []) K ["text"] (a9 L1).names E0) (b5 L1) = B3 := by kernel_rfl
theorem ok_plain {f : Addr} {fd : FuncData} (A : DefAt K mg "plain_text" L1 ["text"] f fd) (T : Txt K mg C NH NX VE NB NP NR NS NT PI SE TF) : FnE P w K mg base CX0 2 "plain_text" (i8) :=
  A.ok (k := 0) 40 sc_plain (lib T (.nil) (.nil) (.nil)) (λ vs H Q E h => by obtain ⟨z, rfl, _⟩ := h; rfl) w_plain (λ vs H Q E h => by obtain ⟨z, rfl, hz, q⟩ := h; exact a2Z hz q)
theorem w_cname : wSs (wp 40) (cfg (D7 C [("is_name", K6), ("plain_text", i8)] [] []) K ["thing", "ahead", "name"] (a9 L3).names E0) (b5 L3) = O2 := by kernel_rfl
theorem ok_cname {f : Addr} {fd : FuncData} (A : DefAt K mg "checked_name" L3 ["thing", "ahead"] f fd) (T : Txt K mg C NH NX VE NB NP NR NS NT PI SE TF) (hname : FnE P w K mg base CX0 2 "is_name" (K6)) (hplain : FnE P w K mg base CX0 2 "plain_text" (i8)) : FnE P w K mg base CX0 4 "checked_name" (g7) :=
  A.ok (k := 2) 40 sc_cname (lib T (.cons (hname.mono (by decide)) (.cons (hplain.mono (by decide)) (.nil))) (.nil) (.nil)) (λ vs H Q E h => by obtain ⟨z, l, ys, rfl, _⟩ := h; rfl) w_cname (λ vs H Q E h => by obtain ⟨z, l, ys, rfl, hl, hz, hn, q⟩ := h; exact a0P hl hz hn q)
theorem w_cabove : wSs (wp 40) (cfg (D7 C [("plain_text", i8)] [] []) K ["thing", "ahead", "above"] (a9 C5).names E0) (b5 C5) = M2 := by kernel_rfl
theorem ok_cabove {f : Addr} {fd : FuncData} (A : DefAt K mg "checked_above" C5 ["thing", "ahead"] f fd) (T : Txt K mg C NH NX VE NB NP NR NS NT PI SE TF) (hplain : FnE P w K mg base CX0 2 "plain_text" (i8)) : FnE P w K mg base CX0 4 "checked_above" (m5) :=
  A.ok (k := 2) 40 sc_cabove (lib T (.cons (hplain.mono (by decide)) (.nil)) (.nil) (.nil)) (λ vs H Q E h => by obtain ⟨z, l, ys, rfl, _⟩ := h; rfl) w_cabove (λ vs H Q E h => by obtain ⟨z, l, ys, rfl, hl, hz, hn, q⟩ := h; exact Y8 hl hz hn q)
theorem w_ccols : wSs (wp 40) (cfg (D7 C [("checked_name", g7)] [] []) K ["columns", "names", "column"] (a9 L4).names E0) (b5 L4) = E5 := by kernel_rfl
theorem ok_ccols {f : Addr} {fd : FuncData} (A : DefAt K mg "checked_columns" L4 ["columns"] f fd) (T : Txt K mg C NH NX VE NB NP NR NS NT PI SE TF) (hcname : FnE P w K mg base CX0 4 "checked_name" (g7)) : FnE P w K mg base CX0 6 "checked_columns" (j7) :=
  A.ok (k := 4) 40 sc_ccols (lib T (.cons (hcname.mono (by decide)) (.nil)) (.nil) (.nil)) (λ vs H Q E h => by obtain ⟨c, cs, rfl, _⟩ := h; rfl) w_ccols (λ vs H Q E h => by obtain ⟨c, cs, rfl, hc, hn, h1, h8, q⟩ := h; exact T8 hc hn h1 h8 q)
theorem w_cparts : wSs (wp 40) (cfg (D7 C [("checked_name", g7), ("checked_above", m5)] [] []) K ["parts", "above_of", "part", "name", "above"] (a9 C6).names E0) (b5 C6) = M3 := by kernel_rfl
theorem ok_cparts {f : Addr} {fd : FuncData} (A : DefAt K mg "checked_parts" C6 ["parts"] f fd) (T : Txt K mg C NH NX VE NB NP NR NS NT PI SE TF) (hcname : FnE P w K mg base CX0 4 "checked_name" (g7)) (hcabove : FnE P w K mg base CX0 4 "checked_above" (m5)) : FnE P w K mg base CX0 6 "checked_parts" (m6) :=
  A.ok (k := 4) 40 sc_cparts (lib T (.cons (hcname.mono (by decide)) (.cons (hcabove.mono (by decide)) (.nil))) (.nil) (.nil)) (λ vs H Q E h => by obtain ⟨p, xs, ps, rfl, _⟩ := h; rfl) w_cparts (λ vs H Q E h => by obtain ⟨p, xs, ps, rfl, hp, pa, g, q⟩ := h; exact Y9 hp pa g q)
theorem w_turned : wSs (wp 40) (cfg (D7 C [] [] []) K ["above_of", "beneath_of", "part", "above"] (a9 C7).names E0) (b5 C7) = O4 := by kernel_rfl
theorem ok_turned {f : Addr} {fd : FuncData} (A : DefAt K mg "turned_about" C7 ["above_of"] f fd) (T : Txt K mg C NH NX VE NB NP NR NS NT PI SE TF) : FnE P w K mg base CX0 2 "turned_about" (v6) :=
  A.ok (k := 0) 40 sc_turned (lib T (.nil) (.nil) (.nil)) (λ vs H Q E h => by obtain ⟨a, ps, rfl, _⟩ := h; rfl) w_turned (λ vs H Q E h => by obtain ⟨a, ps, rfl, ha, g, q⟩ := h; exact a0S ha g q)
theorem w_init : wSs (wp 40) (cfg (D7 C [("checked_parts", m6), ("checked_columns", j7), ("turned_about", v6)] [] []) K ["self", "parts", "columns"] (a9 O6).names E0) (b5 O6) = T9 C := by kernel_rfl
theorem ok_init {f : Addr} {fd : FuncData} (M : Mk K C f) (F : Fun K "__init__" "House.__init__" O6 f fd) (b : Binds K fd ["self", "parts", "columns"] []) (T : Txt K mg C NH NX VE NB NP NR NS NT PI SE TF) (hcparts : FnE P w K mg base CX0 6 "checked_parts" (m6)) (hccols : FnE P w K mg base CX0 6 "checked_columns" (j7)) (hturned : FnE P w K mg base CX0 2 "turned_about" (v6)) : MkE P w K mg base CX0 8 "House" (C, v0 C) :=
  MkE.mk (k := 6) M T.mC F b 40 sc_init (lib T (.cons (hcparts.mono (by decide)) (.cons (hccols.mono (by decide)) (.cons (hturned.mono (by decide)) (.nil)))) (.nil) (.nil)) (λ vs H Q E h => by obtain ⟨x, dx, p, c, xs, ps, cs, rfl, _⟩ := h; rfl) w_init (λ vs H Q E h => by obtain ⟨x, dx, p, c, xs, ps, cs, rfl, hx, hp, pa, g, hc, hn, h1, h8, q⟩ := h; exact a3a hx hp pa g hc hn h1 h8 q)
theorem w_mparts : wSs (wp 40) (cfg (D7 C [] [] []) K ["self"] (a9 A5).names E0) (b5 A5) = Q5 C := by kernel_rfl
theorem ok_mparts {f : Addr} {fd : FuncData} (M : Meth K C "parts" f) (F : Fun K "parts" "House.parts" A5 f fd) (b : Binds K fd ["self"] []) (T : Txt K mg C NH NX VE NB NP NR NS NT PI SE TF) : MtE P w K mg base CX0 2 "parts" (C, U0 C) :=
  MtE.mk (k := 0) M F b 40 sc_mparts (lib T (.nil) (.nil) (.nil)) (λ vs H Q E h => by obtain ⟨x, ps, cs, rfl, _⟩ := h; rfl) w_mparts (λ vs H Q E h => by obtain ⟨x, ps, cs, rfl, hh, q⟩ := h; exact a1j hh q)
theorem w_mcols : wSs (wp 40) (cfg (D7 C [] [] []) K ["self"] (a9 E8).names E0) (b5 E8) = M4 C := by kernel_rfl
theorem ok_mcols {f : Addr} {fd : FuncData} (M : Meth K C "columns" f) (F : Fun K "columns" "House.columns" E8 f fd) (b : Binds K fd ["self"] []) (T : Txt K mg C NH NX VE NB NP NR NS NT PI SE TF) : MtE P w K mg base CX0 2 "columns" (C, K8 C) :=
  MtE.mk (k := 0) M F b 40 sc_mcols (lib T (.nil) (.nil) (.nil)) (λ vs H Q E h => by obtain ⟨x, ps, cs, rfl, _⟩ := h; rfl) w_mcols (λ vs H Q E h => by obtain ⟨x, ps, cs, rfl, hh, q⟩ := h; exact Z0 hh q)
theorem w_plainN : wSs (wp 40) (cfg (D7 C [] [] []) K ["text"] (a9 C8).names E0) (b5 C8) = B3 := by kernel_rfl
theorem ok_plainN {f : Addr} {fd : FuncData} (A : DefAt K mg "plain_text" C8 ["text"] f fd) (T : Txt K mg C NH NX VE NB NP NR NS NT PI SE TF) : FnE P w K mg base CX0 2 "plain_text" (Nu.x6) :=
  A.ok (k := 0) 40 sc_plainN (lib T (.nil) (.nil) (.nil)) (λ vs H Q E h => by obtain ⟨z, rfl, _⟩ := h; rfl) w_plainN (λ vs H Q E h => by obtain ⟨z, rfl, hz, q⟩ := h; exact Nu.a1l hz q)
theorem w_isfig : wSs (wp 40) (cfg (D7 C [] [] []) K ["word"] (a9 L5).names E0) (b5 L5) = Nu.U2 := by kernel_rfl
theorem ok_isfig {f : Addr} {fd : FuncData} (A : DefAt K mg "is_figures" L5 ["word"] f fd) (T : Txt K mg C NH NX VE NB NP NR NS NT PI SE TF) : FnE P w K mg base CX0 2 "is_figures" (Nu.z8) :=
  A.ok (k := 0) 40 sc_isfig (lib T (.nil) (.nil) (.nil)) (λ vs H Q E h => by obtain ⟨z, rfl, _⟩ := h; rfl) w_isfig (λ vs H Q E h => by obtain ⟨z, rfl, hz, q⟩ := h; exact Nu.a3d hz q)
theorem w_ctext : ∀ E, wSs (wp 40) (cfg (Q7 C NH NX VE NB NP NR NS NT PI SE TF [("plain_text", Nu.x6)] [] []) K ["thing"] (a9 L6).names E) (b5 L6) = (Tw.J5 NX) E := λ E => by kernel_rfl
theorem ok_ctext {f : Addr} {fd : FuncData} (A : DefAt K mg "checked_text" L6 ["thing"] f fd) (T : Txt K mg C NH NX VE NB NP NR NS NT PI SE TF) (hplainN : FnE P w K mg base CX0 2 "plain_text" (Nu.x6)) : FnE P w K mg base (CXE P w) 4 "checked_text" (Tw.k9 NX) :=
  A.okE (k := 2) 40 sc_ctext (libE T (.cons ((FnE.lift hplainN).mono (by decide)) (.nil)) (.nil) (.nil)) (λ vs H Q E h => by obtain ⟨x, rfl, _⟩ := h; rfl) w_ctext (λ vs H Q E h => by obtain ⟨x, rfl, ht, q, qe⟩ := h; exact Tw.W5 ht q qe)
theorem w_nwords : ∀ E, wSs (wp 40) (cfg (Q7 C NH NX VE NB NP NR NS NT PI SE TF [] [] []) K ["part", "count", "row", "words"] (a9 C9).names E) (b5 C9) = (Tw.M5 NX) E := λ E => by kernel_rfl
theorem ok_nwords {f : Addr} {fd : FuncData} (A : DefAt K mg "number_words" C9 ["part", "count", "row"] f fd) (T : Txt K mg C NH NX VE NB NP NR NS NT PI SE TF) : FnE P w K mg base (CXE P w) 2 "number_words" (Tw.m9 NX) :=
  A.okE (k := 0) 40 sc_nwords (libE T (.nil) (.nil) (.nil)) (λ vs H Q E h => by obtain ⟨p, r, m, rfl, _⟩ := h; rfl) w_nwords (λ vs H Q E h => by obtain ⟨p, r, m, rfl, h8, hr, q, qe⟩ := h; exact Tw.Z1 h8 hr q qe)
theorem w_rfig : ∀ E, wSs (wp 40) (cfg (Q7 C NH NX VE NB NP NR NS NT PI SE TF [("is_figures", Nu.z8)] [] []) K ["word"] (a9 R9).names E) (b5 R9) = (Tw.M6 NX) E := λ E => by kernel_rfl
theorem ok_rfig {f : Addr} {fd : FuncData} (A : DefAt K mg "read_figures" R9 ["word"] f fd) (T : Txt K mg C NH NX VE NB NP NR NS NT PI SE TF) (hisfig : FnE P w K mg base CX0 2 "is_figures" (Nu.z8)) : FnE P w K mg base (CXE P w) 4 "read_figures" (Tw.p7 NX) :=
  A.okE (k := 2) 40 sc_rfig (libE T (.cons ((FnE.lift hisfig).mono (by decide)) (.nil)) (.nil) (.nil)) (λ vs H Q E h => by obtain ⟨z, rfl, _⟩ := h; rfl) w_rfig (λ vs H Q E h => by obtain ⟨z, rfl, hz, q, qe⟩ := h; exact Tw.Z2 hz q qe)
theorem w_reads : ∀ E, wSs (wp 40) (cfg (Q7 C NH NX VE NB NP NR NS NT PI SE TF [("checked_text", Tw.k9 NX), ("number_words", Tw.m9 NX), ("read_figures", Tw.p7 NX)] [] [("parts", C, U0 C), ("columns", C, K8 C)]) K ["house", "text", "parts", "columns", "rows", "numbers", "part", "row", "column", "word"] (a9 L7).names E) (b5 L7) = (Tw.M7 C NX) E := λ E => by kernel_rfl
theorem ok_reads {f : Addr} {fd : FuncData} (A : DefAt K mg "read_numbers" L7 ["house", "text"] f fd) (T : Txt K mg C NH NX VE NB NP NR NS NT PI SE TF) (hctext : FnE P w K mg base (CXE P w) 4 "checked_text" (Tw.k9 NX)) (hnwords : FnE P w K mg base (CXE P w) 2 "number_words" (Tw.m9 NX)) (hrfig : FnE P w K mg base (CXE P w) 4 "read_figures" (Tw.p7 NX)) (hmparts : MtE P w K mg base CX0 2 "parts" (C, U0 C)) (hmcols : MtE P w K mg base CX0 2 "columns" (C, K8 C)) : FnE P w K mg base (CXE P w) 6 "read_numbers" (Tw.p8 C NX) :=
  A.okE (k := 4) 40 sc_reads (libE T (.cons (hctext.mono (by decide)) (.cons (hnwords.mono (by decide)) (.cons (hrfig.mono (by decide)) (.nil)))) (.nil) (.cons (⟨rfl, (MtE.lift hmparts).mono (by decide)⟩) (.cons (⟨rfl, (MtE.lift hmcols).mono (by decide)⟩) (.nil)))) (λ vs H Q E h => by obtain ⟨x, v, ps, cs, rfl, _⟩ := h; rfl) w_reads (λ vs H Q E h => by obtain ⟨x, v, ps, cs, rfl, hh, ht, q, qe⟩ := h; exact Tw.Z3 hh ht q qe)
theorem w_cell : wSs (wp 40) (cfg (D7 C [] [] []) K ["_law_script", "_law_k"] (a9 S0).names E0) (b5 S0) = Q4 K := by kernel_rfl
theorem ok_cell {f : Addr} {fd : FuncData} (A : DefAt K mg "_law_cell_at" S0 ["_law_script", "_law_k"] f fd) (T : Txt K mg C NH NX VE NB NP NR NS NT PI SE TF) : FnE P w K mg base CX0 2 "_law_cell_at" (d6 K) :=
  A.ok (k := 0) 40 sc_cell (lib T (.nil) (.nil) (.nil)) (λ vs H Q E h => by obtain ⟨a, ns, k, rfl, _⟩ := h; rfl) w_cell (λ vs H Q E h => by obtain ⟨a, ns, k, rfl, hS, hk, q⟩ := h; exact a1i hS hk q)
theorem w_lnames : wSs (wp 40) (cfg (D7 C [] [] []) K ["_law_cell", "_law_many", "_law_words_here", "_law_start"] (a9 D1).names E0) (b5 D1) = Tw.Y2 := by kernel_rfl
theorem ok_lnames {f : Addr} {fd : FuncData} (A : DefAt K mg "_law_names" D1 ["_law_cell", "_law_many"] f fd) (T : Txt K mg C NH NX VE NB NP NR NS NT PI SE TF) : FnE P w K mg base CX0 2 "_law_names" (Tw.x8) :=
  A.ok (k := 0) 40 sc_lnames (lib T (.nil) (.nil) (.nil)) (λ vs H Q E h => by obtain ⟨c, m, rfl, _⟩ := h; rfl) w_lnames (λ vs H Q E h => by obtain ⟨c, m, rfl, hm, q⟩ := h; exact Tw.a4l hm q)
theorem w_lgood : wSs (wp 40) (cfg (D7 C [("_law_cell_at", d6 K)] [] []) K ["_law_script", "_law_some", "_law_many", "_law_lines", "_law_place", "_law_part", "_law_words_here", "_law_k", "_law_cell"] (a9 L9).names E0) (b5 L9) = Tw.a0Z K := by kernel_rfl
theorem ok_lgood {f : Addr} {fd : FuncData} (A : DefAt K mg "_law_good" L9 ["_law_script", "_law_some", "_law_many"] f fd) (T : Txt K mg C NH NX VE NB NP NR NS NT PI SE TF) (hcell : FnE P w K mg base CX0 2 "_law_cell_at" (d6 K)) : FnE P w K mg base CX0 4 "_law_good" (Tw.E7 K) :=
  A.ok (k := 2) 40 sc_lgood (lib T (.cons (hcell.mono (by decide)) (.nil)) (.nil) (.nil)) (λ vs H Q E h => by obtain ⟨a, pp, m, ns, L, rfl, _⟩ := h; rfl) w_lgood (λ vs H Q E h => by obtain ⟨a, pp, m, ns, L, rfl, hS, sh, hp, L8, l25, m1, m8, q⟩ := h; exact Tw.a5o hS sh hp L8 l25 m1 m8 q)
theorem w_lsigns : wSs (wp 40) (cfg (D7 C [] [] []) K ["_law_text", "_law_cell", "_law_way", "_law_signs_here", "_law_sign", "_law_at"] (a9 D2).names E0) (b5 D2) = Tw.Y3 := by kernel_rfl
theorem ok_lsigns {f : Addr} {fd : FuncData} (A : DefAt K mg "_law_signs" D2 ["_law_text", "_law_cell", "_law_way"] f fd) (T : Txt K mg C NH NX VE NB NP NR NS NT PI SE TF) : FnE P w K mg base CX0 2 "_law_signs" (Tw.B4) :=
  A.ok (k := 0) 40 sc_lsigns (lib T (.nil) (.nil) (.nil)) (λ vs H Q E h => by obtain ⟨t, c, w, rfl, _⟩ := h; rfl) w_lsigns (λ vs H Q E h => by obtain ⟨t, c, w, rfl, ht, q⟩ := h; exact Tw.a4m ht q)
theorem w_lwords : wSs (wp 40) (cfg (D7 C [] [] []) K ["_law_lines", "_law_cell", "_law_way", "_law_k", "_law_words_here", "_law_at", "_law_odd"] (a9 D3).names E0) (b5 D3) = Tw.Y4 := by kernel_rfl
theorem ok_lwords {f : Addr} {fd : FuncData} (A : DefAt K mg "_law_words" D3 ["_law_lines", "_law_cell", "_law_way"] f fd) (T : Txt K mg C NH NX VE NB NP NR NS NT PI SE TF) : FnE P w K mg base CX0 2 "_law_words" (Tw.B5) :=
  A.ok (k := 0) 40 sc_lwords (lib T (.nil) (.nil) (.nil)) (λ vs H Q E h => by obtain ⟨l, ls, c, w, rfl, _⟩ := h; rfl) w_lwords (λ vs H Q E h => by obtain ⟨l, ls, c, w, rfl, L, q⟩ := h; exact Tw.a4n L q)
theorem w_lspoil : wSs (wp 40) (cfg (D7 C [("_law_signs", Tw.B4), ("_law_words", Tw.B5)] [] []) K ["_law_lines", "_law_cell", "_law_way", "_law_at"] (a9 D4).names E0) (b5 D4) = Tw.Q6 := by kernel_rfl
theorem ok_lspoil {f : Addr} {fd : FuncData} (A : DefAt K mg "_law_spoiled" D4 ["_law_lines", "_law_cell", "_law_way"] f fd) (T : Txt K mg C NH NX VE NB NP NR NS NT PI SE TF) (hlsigns : FnE P w K mg base CX0 2 "_law_signs" (Tw.B4)) (hlwords : FnE P w K mg base CX0 2 "_law_words" (Tw.B5)) : FnE P w K mg base CX0 4 "_law_spoiled" (Tw.x9) :=
  A.ok (k := 2) 40 sc_lspoil (lib T (.cons (hlsigns.mono (by decide)) (.cons (hlwords.mono (by decide)) (.nil))) (.nil) (.nil)) (λ vs H Q E h => by obtain ⟨l, ls, c, w, rfl, _⟩ := h; rfl) w_lspoil (λ vs H Q E h => by obtain ⟨l, ls, c, w, rfl, L, q⟩ := h; exact Tw.a1m L q)
theorem w_lisnum : wSs (wp 40) (cfg (D7 C [] [] []) K ["_law_word", "_law_sign"] (a9 D5).names E0) (b5 D5) = Tw.M9 := by kernel_rfl
theorem ok_lisnum {f : Addr} {fd : FuncData} (A : DefAt K mg "_law_is_number" D5 ["_law_word"] f fd) (T : Txt K mg C NH NX VE NB NP NR NS NT PI SE TF) : FnE P w K mg base CX0 2 "_law_is_number" (Tw.p9) :=
  A.ok (k := 0) 40 sc_lisnum (lib T (.nil) (.nil) (.nil)) (λ vs H Q E h => by obtain ⟨z, rfl, _⟩ := h; rfl) w_lisnum (λ vs H Q E h => by obtain ⟨z, rfl, hz, q⟩ := h; exact Tw.Z4 hz q)
theorem w_lread : wSs (wp 40) (cfg (D7 C [("_law_is_number", Tw.p9)] [] []) K ["_law_text", "_law_some", "_law_columns", "_law_lines", "_law_found", "_law_part", "_law_line", "_law_words_here", "_law_k"] (a9 M0).names E0) (b5 M0) = Tw.a1c := by kernel_rfl
theorem ok_lread {f : Addr} {fd : FuncData} (A : DefAt K mg "_law_read" M0 ["_law_text", "_law_some", "_law_columns"] f fd) (T : Txt K mg C NH NX VE NB NP NR NS NT PI SE TF) (hlisnum : FnE P w K mg base CX0 2 "_law_is_number" (Tw.p9)) : FnE P w K mg base CX0 4 "_law_read" (Tw.A3) :=
  A.ok (k := 2) 40 sc_lread (lib T (.cons (hlisnum.mono (by decide)) (.nil)) (.nil) (.nil)) (λ vs H Q E h => by obtain ⟨z, pl, pc, L, cs, rfl, _⟩ := h; rfl) w_lread (λ vs H Q E h => by obtain ⟨z, pl, pc, L, cs, rfl, hz, hl, hL8, lL, hc, l1, l8, q, qn⟩ := h; exact Tw.a5q hz hl hL8 lL hc l1 l8 q qn)
theorem w_told : ∀ E, wSs (wp 40) (cfg (Q7 C NH NX VE NB NP NR NS NT PI SE TF [("read_numbers", Tw.p8 C NX)] [] []) K ["_law_house", "_law_thing", "_law_found", "_law_right", "e"] (a9 S4).names E) (b5 S4) = (λ _ => Tw.a1d C NH NX VE NB NP NR NS NT PI SE TF) E := λ E => by kernel_rfl
theorem ok_told {f : Addr} {fd : FuncData} (A : DefAt K mg "_law_told" S4 ["_law_house", "_law_thing"] f fd) (T : Txt K mg C NH NX VE NB NP NR NS NT PI SE TF) (hreads : FnE P w K mg base (CXE P w) 6 "read_numbers" (Tw.p8 C NX)) : FnE P w K mg base (CXE P w) 8 "_law_told" (Tw.A4 C) :=
  A.okE (k := 6) 40 sc_told (libE T (.cons (hreads.mono (by decide)) (.nil)) (.nil) (.nil)) (λ vs H Q E h => by obtain ⟨x, v, ps, cs, rfl, _⟩ := h; rfl) w_told (λ vs H Q E h => by obtain ⟨x, v, ps, cs, rfl, hh, ht, q, qe⟩ := h; exact Tw.a5r hh ht q qe)
theorem w_law : ∀ E, wSs (wp 40) (cfg (Q7 C NH NX VE NB NP NR NS NT PI SE TF [("_law_names", Tw.x8), ("_law_cell_at", d6 K), ("_law_good", Tw.E7 K), ("_law_spoiled", Tw.x9), ("_law_read", Tw.A3), ("_law_told", Tw.A4 C)] [("House", C, v0 C)] []) K ["_law_script", "_law_told_here", "_law_columns", "_law_house", "_law_some", "_law_lines", "_law_cell", "_law_text", "_law_due", "_law_found"] (a9 O7).names E) (b5 O7) = (Tw.t14_law K C) E := λ E => by kernel_rfl
theorem ok_law {f : Addr} {fd : FuncData} (F : Fun K "law" "law" O7 f fd) (T : Txt K mg C NH NX VE NB NP NR NS NT PI SE TF) (hlnames : FnE P w K mg base CX0 2 "_law_names" (Tw.x8)) (hcell : FnE P w K mg base CX0 2 "_law_cell_at" (d6 K)) (hinit : MkE P w K mg base CX0 8 "House" (C, v0 C)) (hlgood : FnE P w K mg base CX0 4 "_law_good" (Tw.E7 K)) (hlspoil : FnE P w K mg base CX0 4 "_law_spoiled" (Tw.x9)) (hlread : FnE P w K mg base CX0 4 "_law_read" (Tw.A3)) (htold : FnE P w K mg base (CXE P w) 8 "_law_told" (Tw.A4 C)) : FnOk P w K mg base (CXE P w) 10 f fd ["_law_script"] (Nu.a3j K) :=
  fn_wpE (k := 8) 40 F sc_law (libE T (.cons ((FnE.lift hlnames).mono (by decide)) (.cons ((FnE.lift hcell).mono (by decide)) (.cons ((FnE.lift hlgood).mono (by decide)) (.cons ((FnE.lift hlspoil).mono (by decide)) (.cons ((FnE.lift hlread).mono (by decide)) (.cons (htold.mono (by decide)) (.nil))))))) (.cons ((MkE.lift hinit).mono (by decide)) (.nil)) (.nil)) (λ vs H Q E h => by obtain ⟨a, ns, rfl, _⟩ := h; rfl) w_law (λ vs H Q E h => by obtain ⟨a, ns, rfl, hS, sh, q⟩ := h; exact Tw.r14_law hS sh q)
end
theorem all_mk {l : PySem.W.OpenLaw} {w : World} {K : PySem.W.Frag} {h : Heap} {mg : Str -> Option Value} {fa C NH NX VE NB NP NR NS NT PI SE TF : Addr} (X : K.In h) (G : h.Ns mainGlobals mg) (hfa : mg "law" = some (.ref fa))
    {fname : Addr} {ocname : Value} {odname anname : Option Addr} {slname : Array (Option Value)} {kVname dcname pmname cdname ctname : Value}
    {fplain : Addr} {ocplain : Value} {odplain anplain : Option Addr} {slplain : Array (Option Value)} {kVplain dcplain pmplain cdplain ctplain : Value}
    {fcname : Addr} {occname : Value} {odcname ancname : Option Addr} {slcname : Array (Option Value)} {kVcname dccname pmcname cdcname ctcname : Value}
    {fcabove : Addr} {occabove : Value} {odcabove ancabove : Option Addr} {slcabove : Array (Option Value)} {kVcabove dccabove pmcabove cdcabove ctcabove : Value}
    {fccols : Addr} {occcols : Value} {odccols anccols : Option Addr} {slccols : Array (Option Value)} {kVccols dcccols pmccols cdccols ctccols : Value}
    {fcparts : Addr} {occparts : Value} {odcparts ancparts : Option Addr} {slcparts : Array (Option Value)} {kVcparts dccparts pmcparts cdcparts ctcparts : Value}
    {fturned : Addr} {octurned : Value} {odturned anturned : Option Addr} {slturned : Array (Option Value)} {kVturned dcturned pmturned cdturned ctturned : Value}
    {finit : Addr} {ocinit : Value} {odinit aninit : Option Addr} {slinit : Array (Option Value)} {kVinit dcinit pminit cdinit ctinit : Value}
    {fmparts : Addr} {ocmparts : Value} {odmparts anmparts : Option Addr} {slmparts : Array (Option Value)} {kVmparts dcmparts pmmparts cdmparts ctmparts : Value}
    {fmcols : Addr} {ocmcols : Value} {odmcols anmcols : Option Addr} {slmcols : Array (Option Value)} {kVmcols dcmcols pmmcols cdmcols ctmcols : Value}
    {fplainN : Addr} {ocplainN : Value} {odplainN anplainN : Option Addr} {slplainN : Array (Option Value)} {kVplainN dcplainN pmplainN cdplainN ctplainN : Value}
    {fisfig : Addr} {ocisfig : Value} {odisfig anisfig : Option Addr} {slisfig : Array (Option Value)} {kVisfig dcisfig pmisfig cdisfig ctisfig : Value}
    {fctext : Addr} {occtext : Value} {odctext anctext : Option Addr} {slctext : Array (Option Value)} {kVctext dcctext pmctext cdctext ctctext : Value}
    {fnwords : Addr} {ocnwords : Value} {odnwords annwords : Option Addr} {slnwords : Array (Option Value)} {kVnwords dcnwords pmnwords cdnwords ctnwords : Value}
    {frfig : Addr} {ocrfig : Value} {odrfig anrfig : Option Addr} {slrfig : Array (Option Value)} {kVrfig dcrfig pmrfig cdrfig ctrfig : Value}
    {freads : Addr} {ocreads : Value} {odreads anreads : Option Addr} {slreads : Array (Option Value)} {kVreads dcreads pmreads cdreads ctreads : Value}
    {fcell : Addr} {occell : Value} {odcell ancell : Option Addr} {slcell : Array (Option Value)} {kVcell dccell pmcell cdcell ctcell : Value}
    {flnames : Addr} {oclnames : Value} {odlnames anlnames : Option Addr} {sllnames : Array (Option Value)} {kVlnames dclnames pmlnames cdlnames ctlnames : Value}
    {flgood : Addr} {oclgood : Value} {odlgood anlgood : Option Addr} {sllgood : Array (Option Value)} {kVlgood dclgood pmlgood cdlgood ctlgood : Value}
    {flsigns : Addr} {oclsigns : Value} {odlsigns anlsigns : Option Addr} {sllsigns : Array (Option Value)} {kVlsigns dclsigns pmlsigns cdlsigns ctlsigns : Value}
    {flwords : Addr} {oclwords : Value} {odlwords anlwords : Option Addr} {sllwords : Array (Option Value)} {kVlwords dclwords pmlwords cdlwords ctlwords : Value}
    {flspoil : Addr} {oclspoil : Value} {odlspoil anlspoil : Option Addr} {sllspoil : Array (Option Value)} {kVlspoil dclspoil pmlspoil cdlspoil ctlspoil : Value}
    {flisnum : Addr} {oclisnum : Value} {odlisnum anlisnum : Option Addr} {sllisnum : Array (Option Value)} {kVlisnum dclisnum pmlisnum cdlisnum ctlisnum : Value}
    {flread : Addr} {oclread : Value} {odlread anlread : Option Addr} {sllread : Array (Option Value)} {kVlread dclread pmlread cdlread ctlread : Value}
    {ftold : Addr} {octold : Value} {odtold antold : Option Addr} {sltold : Array (Option Value)} {kVtold dctold pmtold cdtold cttold : Value}
    {flaw : Addr} {oclaw : Value} {odlaw anlaw : Option Addr} {sllaw : Array (Option Value)} {kVlaw dclaw pmlaw cdlaw ctlaw : Value}
    (aC : PySem.W.nsIn K mainGlobals "House" = some (some (.ref C)))
    (aname : PySem.W.nsIn K mainGlobals "is_name" = some (some (.ref fname))) (lname : K.lookup fname = some ⟨ocname, odname, .func (PySem.W.fnOf "is_name" "is_name" (c9 R8) (b5 R8) (a9 R8) .none kVname dcname pmname anname cdname ctname), slname⟩) (cname : PySem.W.codeIn K cdname "is_name" = true) (kname : PySem.W.keepIn K (.ref fname) = true)
    (aplain : PySem.W.nsIn K mainGlobals "plain_text" = some (some (.ref fplain))) (lplain : K.lookup fplain = some ⟨ocplain, odplain, .func (PySem.W.fnOf "plain_text" "plain_text" (c9 L1) (b5 L1) (a9 L1) .none kVplain dcplain pmplain anplain cdplain ctplain), slplain⟩) (cplain : PySem.W.codeIn K cdplain "plain_text" = true) (kplain : PySem.W.keepIn K (.ref fplain) = true)
    (acname : PySem.W.nsIn K mainGlobals "checked_name" = some (some (.ref fcname))) (lcname : K.lookup fcname = some ⟨occname, odcname, .func (PySem.W.fnOf "checked_name" "checked_name" (c9 L3) (b5 L3) (a9 L3) .none kVcname dccname pmcname ancname cdcname ctcname), slcname⟩) (ccname : PySem.W.codeIn K cdcname "checked_name" = true) (kcname : PySem.W.keepIn K (.ref fcname) = true)
    (acabove : PySem.W.nsIn K mainGlobals "checked_above" = some (some (.ref fcabove))) (lcabove : K.lookup fcabove = some ⟨occabove, odcabove, .func (PySem.W.fnOf "checked_above" "checked_above" (c9 C5) (b5 C5) (a9 C5) .none kVcabove dccabove pmcabove ancabove cdcabove ctcabove), slcabove⟩) (ccabove : PySem.W.codeIn K cdcabove "checked_above" = true) (kcabove : PySem.W.keepIn K (.ref fcabove) = true)
    (accols : PySem.W.nsIn K mainGlobals "checked_columns" = some (some (.ref fccols))) (lccols : K.lookup fccols = some ⟨occcols, odccols, .func (PySem.W.fnOf "checked_columns" "checked_columns" (c9 L4) (b5 L4) (a9 L4) .none kVccols dcccols pmccols anccols cdccols ctccols), slccols⟩) (cccols : PySem.W.codeIn K cdccols "checked_columns" = true) (kccols : PySem.W.keepIn K (.ref fccols) = true)
    (acparts : PySem.W.nsIn K mainGlobals "checked_parts" = some (some (.ref fcparts))) (lcparts : K.lookup fcparts = some ⟨occparts, odcparts, .func (PySem.W.fnOf "checked_parts" "checked_parts" (c9 C6) (b5 C6) (a9 C6) .none kVcparts dccparts pmcparts ancparts cdcparts ctcparts), slcparts⟩) (ccparts : PySem.W.codeIn K cdcparts "checked_parts" = true) (kcparts : PySem.W.keepIn K (.ref fcparts) = true)
    (aturned : PySem.W.nsIn K mainGlobals "turned_about" = some (some (.ref fturned))) (lturned : K.lookup fturned = some ⟨octurned, odturned, .func (PySem.W.fnOf "turned_about" "turned_about" (c9 C7) (b5 C7) (a9 C7) .none kVturned dcturned pmturned anturned cdturned ctturned), slturned⟩) (cturned : PySem.W.codeIn K cdturned "turned_about" = true) (kturned : PySem.W.keepIn K (.ref fturned) = true)
    (ainit : PySem.W.findIn K (.ref C) "__init__" = some (some (.ref finit))) (iinit : PySem.W.isFn K (.ref finit) = true) (linit : K.lookup finit = some ⟨ocinit, odinit, .func (PySem.W.fnOf "__init__" "House.__init__" (c9 O6) (b5 O6) (a9 O6) .none kVinit dcinit pminit aninit cdinit ctinit), slinit⟩) (cinit : PySem.W.codeIn K cdinit "House.__init__" = true) (kinit : PySem.W.keepIn K (.ref finit) = true)
    (amparts : PySem.W.findIn K (.ref C) "parts" = some (some (.ref fmparts))) (imparts : PySem.W.isFn K (.ref fmparts) = true) (lmparts : K.lookup fmparts = some ⟨ocmparts, odmparts, .func (PySem.W.fnOf "parts" "House.parts" (c9 A5) (b5 A5) (a9 A5) .none kVmparts dcmparts pmmparts anmparts cdmparts ctmparts), slmparts⟩) (cmparts : PySem.W.codeIn K cdmparts "House.parts" = true) (kmparts : PySem.W.keepIn K (.ref fmparts) = true)
    (amcols : PySem.W.findIn K (.ref C) "columns" = some (some (.ref fmcols))) (imcols : PySem.W.isFn K (.ref fmcols) = true) (lmcols : K.lookup fmcols = some ⟨ocmcols, odmcols, .func (PySem.W.fnOf "columns" "House.columns" (c9 E8) (b5 E8) (a9 E8) .none kVmcols dcmcols pmmcols anmcols cdmcols ctmcols), slmcols⟩) (cmcols : PySem.W.codeIn K cdmcols "House.columns" = true) (kmcols : PySem.W.keepIn K (.ref fmcols) = true)
    (aplainN : PySem.W.nsIn K mainGlobals "plain_text" = some (some (.ref fplainN))) (lplainN : K.lookup fplainN = some ⟨ocplainN, odplainN, .func (PySem.W.fnOf "plain_text" "plain_text" (c9 C8) (b5 C8) (a9 C8) .none kVplainN dcplainN pmplainN anplainN cdplainN ctplainN), slplainN⟩) (cplainN : PySem.W.codeIn K cdplainN "plain_text" = true) (kplainN : PySem.W.keepIn K (.ref fplainN) = true)
    (aisfig : PySem.W.nsIn K mainGlobals "is_figures" = some (some (.ref fisfig))) (lisfig : K.lookup fisfig = some ⟨ocisfig, odisfig, .func (PySem.W.fnOf "is_figures" "is_figures" (c9 L5) (b5 L5) (a9 L5) .none kVisfig dcisfig pmisfig anisfig cdisfig ctisfig), slisfig⟩) (cisfig : PySem.W.codeIn K cdisfig "is_figures" = true) (kisfig : PySem.W.keepIn K (.ref fisfig) = true)
    (actext : PySem.W.nsIn K mainGlobals "checked_text" = some (some (.ref fctext))) (lctext : K.lookup fctext = some ⟨occtext, odctext, .func (PySem.W.fnOf "checked_text" "checked_text" (c9 L6) (b5 L6) (a9 L6) .none kVctext dcctext pmctext anctext cdctext ctctext), slctext⟩) (cctext : PySem.W.codeIn K cdctext "checked_text" = true) (kctext : PySem.W.keepIn K (.ref fctext) = true)
    (anwords : PySem.W.nsIn K mainGlobals "number_words" = some (some (.ref fnwords))) (lnwords : K.lookup fnwords = some ⟨ocnwords, odnwords, .func (PySem.W.fnOf "number_words" "number_words" (c9 C9) (b5 C9) (a9 C9) .none kVnwords dcnwords pmnwords annwords cdnwords ctnwords), slnwords⟩) (cnwords : PySem.W.codeIn K cdnwords "number_words" = true) (knwords : PySem.W.keepIn K (.ref fnwords) = true)
    (arfig : PySem.W.nsIn K mainGlobals "read_figures" = some (some (.ref frfig))) (lrfig : K.lookup frfig = some ⟨ocrfig, odrfig, .func (PySem.W.fnOf "read_figures" "read_figures" (c9 R9) (b5 R9) (a9 R9) .none kVrfig dcrfig pmrfig anrfig cdrfig ctrfig), slrfig⟩) (crfig : PySem.W.codeIn K cdrfig "read_figures" = true) (krfig : PySem.W.keepIn K (.ref frfig) = true)
    (areads : PySem.W.nsIn K mainGlobals "read_numbers" = some (some (.ref freads))) (lreads : K.lookup freads = some ⟨ocreads, odreads, .func (PySem.W.fnOf "read_numbers" "read_numbers" (c9 L7) (b5 L7) (a9 L7) .none kVreads dcreads pmreads anreads cdreads ctreads), slreads⟩) (creads : PySem.W.codeIn K cdreads "read_numbers" = true) (kreads : PySem.W.keepIn K (.ref freads) = true)
    (acell : PySem.W.nsIn K mainGlobals "_law_cell_at" = some (some (.ref fcell))) (lcell : K.lookup fcell = some ⟨occell, odcell, .func (PySem.W.fnOf "_law_cell_at" "_law_cell_at" (c9 S0) (b5 S0) (a9 S0) .none kVcell dccell pmcell ancell cdcell ctcell), slcell⟩) (ccell : PySem.W.codeIn K cdcell "_law_cell_at" = true) (kcell : PySem.W.keepIn K (.ref fcell) = true)
    (alnames : PySem.W.nsIn K mainGlobals "_law_names" = some (some (.ref flnames))) (llnames : K.lookup flnames = some ⟨oclnames, odlnames, .func (PySem.W.fnOf "_law_names" "_law_names" (c9 D1) (b5 D1) (a9 D1) .none kVlnames dclnames pmlnames anlnames cdlnames ctlnames), sllnames⟩) (clnames : PySem.W.codeIn K cdlnames "_law_names" = true) (klnames : PySem.W.keepIn K (.ref flnames) = true)
    (algood : PySem.W.nsIn K mainGlobals "_law_good" = some (some (.ref flgood))) (llgood : K.lookup flgood = some ⟨oclgood, odlgood, .func (PySem.W.fnOf "_law_good" "_law_good" (c9 L9) (b5 L9) (a9 L9) .none kVlgood dclgood pmlgood anlgood cdlgood ctlgood), sllgood⟩) (clgood : PySem.W.codeIn K cdlgood "_law_good" = true) (klgood : PySem.W.keepIn K (.ref flgood) = true)
    (alsigns : PySem.W.nsIn K mainGlobals "_law_signs" = some (some (.ref flsigns))) (llsigns : K.lookup flsigns = some ⟨oclsigns, odlsigns, .func (PySem.W.fnOf "_law_signs" "_law_signs" (c9 D2) (b5 D2) (a9 D2) .none kVlsigns dclsigns pmlsigns anlsigns cdlsigns ctlsigns), sllsigns⟩) (clsigns : PySem.W.codeIn K cdlsigns "_law_signs" = true) (klsigns : PySem.W.keepIn K (.ref flsigns) = true)
    (alwords : PySem.W.nsIn K mainGlobals "_law_words" = some (some (.ref flwords))) (llwords : K.lookup flwords = some ⟨oclwords, odlwords, .func (PySem.W.fnOf "_law_words" "_law_words" (c9 D3) (b5 D3) (a9 D3) .none kVlwords dclwords pmlwords anlwords cdlwords ctlwords), sllwords⟩) (clwords : PySem.W.codeIn K cdlwords "_law_words" = true) (klwords : PySem.W.keepIn K (.ref flwords) = true)
    (alspoil : PySem.W.nsIn K mainGlobals "_law_spoiled" = some (some (.ref flspoil))) (llspoil : K.lookup flspoil = some ⟨oclspoil, odlspoil, .func (PySem.W.fnOf "_law_spoiled" "_law_spoiled" (c9 D4) (b5 D4) (a9 D4) .none kVlspoil dclspoil pmlspoil anlspoil cdlspoil ctlspoil), sllspoil⟩) (clspoil : PySem.W.codeIn K cdlspoil "_law_spoiled" = true) (klspoil : PySem.W.keepIn K (.ref flspoil) = true)
    (alisnum : PySem.W.nsIn K mainGlobals "_law_is_number" = some (some (.ref flisnum))) (llisnum : K.lookup flisnum = some ⟨oclisnum, odlisnum, .func (PySem.W.fnOf "_law_is_number" "_law_is_number" (c9 D5) (b5 D5) (a9 D5) .none kVlisnum dclisnum pmlisnum anlisnum cdlisnum ctlisnum), sllisnum⟩) (clisnum : PySem.W.codeIn K cdlisnum "_law_is_number" = true) (klisnum : PySem.W.keepIn K (.ref flisnum) = true)
    (alread : PySem.W.nsIn K mainGlobals "_law_read" = some (some (.ref flread))) (llread : K.lookup flread = some ⟨oclread, odlread, .func (PySem.W.fnOf "_law_read" "_law_read" (c9 M0) (b5 M0) (a9 M0) .none kVlread dclread pmlread anlread cdlread ctlread), sllread⟩) (clread : PySem.W.codeIn K cdlread "_law_read" = true) (klread : PySem.W.keepIn K (.ref flread) = true)
    (atold : PySem.W.nsIn K mainGlobals "_law_told" = some (some (.ref ftold))) (ltold : K.lookup ftold = some ⟨octold, odtold, .func (PySem.W.fnOf "_law_told" "_law_told" (c9 S4) (b5 S4) (a9 S4) .none kVtold dctold pmtold antold cdtold cttold), sltold⟩) (ctold : PySem.W.codeIn K cdtold "_law_told" = true) (ktold : PySem.W.keepIn K (.ref ftold) = true)
    (alaw : PySem.W.nsIn K mainGlobals "law" = some (some (.ref flaw))) (llaw : K.lookup flaw = some ⟨oclaw, odlaw, .func (PySem.W.fnOf "law" "law" (c9 O7) (b5 O7) (a9 O7) .none kVlaw dclaw pmlaw anlaw cdlaw ctlaw), sllaw⟩) (claw : PySem.W.codeIn K cdlaw "law" = true) (klaw : PySem.W.keepIn K (.ref flaw) = true)
    (pg : PySem.W.plainGet K C Str.empty = true) (hd : PySem.W.hasDictIn K C = true) (po : PySem.W.plainOver K C = true) (sa : PySem.W.findIn K (.ref C) "__setattr__" = some (some (.builtin "object.__setattr__"))) (mk : PySem.W.makesIn K C = true) (kc : PySem.W.keepIn K (.ref C) = true)
    (f_above_of : PySem.W.findIn K (.ref C) "above_of" = some none)
    (f_column_names : PySem.W.findIn K (.ref C) "column_names" = some none)
    (f_beneath_of : PySem.W.findIn K (.ref C) "beneath_of" = some none)
    (z_isinstance : PySem.W.nsIn K mainGlobals "isinstance" = some none)
    (z_str : PySem.W.nsIn K mainGlobals "str" = some none)
    (z_list : PySem.W.nsIn K mainGlobals "list" = some none)
    (z_tuple : PySem.W.nsIn K mainGlobals "tuple" = some none)
    (z_len : PySem.W.nsIn K mainGlobals "len" = some none)
    (z_all : PySem.W.nsIn K mainGlobals "all" = some none)
    (z_range : PySem.W.nsIn K mainGlobals "range" = some none)
    (z_int : PySem.W.nsIn K mainGlobals "int" = some none)
    (z_zip : PySem.W.nsIn K mainGlobals "zip" = some none)
    (z_dict : PySem.W.nsIn K mainGlobals "dict" = some none)
    (z_ValueError : PySem.W.nsIn K mainGlobals "ValueError" = some none)
    {t_ALL : Tok} (g_ALL : PySem.W.nsIn K mainGlobals "ALL" = some (some (.str "all" t_ALL)))
    {t_UNTOLD : Tok} (g_UNTOLD : PySem.W.nsIn K mainGlobals "UNTOLD" = some (some (.str "*" t_UNTOLD)))
    {t_MOST_FIGURES : Tok} (g_MOST_FIGURES : PySem.W.nsIn K mainGlobals "MOST_FIGURES" = some (some (.int 40 t_MOST_FIGURES)))
    (aNH : PySem.W.nsIn K mainGlobals "NoHouse" = some (some (.ref NH)))
    (aNX : PySem.W.nsIn K mainGlobals "NoText" = some (some (.ref NX)))
    (aVE : PySem.W.nsIn K mainGlobals "VeilError" = some (some (.ref VE)))
    (aNB : PySem.W.nsIn K mainGlobals "NoBase" = some (some (.ref NB)))
    (aNP : PySem.W.nsIn K mainGlobals "NoPlace" = some (some (.ref NP)))
    (aNR : PySem.W.nsIn K mainGlobals "NoRow" = some (some (.ref NR)))
    (aNS : PySem.W.nsIn K mainGlobals "NoSecret" = some (some (.ref NS)))
    (aNT : PySem.W.nsIn K mainGlobals "NoTable" = some (some (.ref NT)))
    (aPI : PySem.W.nsIn K mainGlobals "Pinned" = some (some (.ref PI)))
    (aSE : PySem.W.nsIn K mainGlobals "Secret" = some (some (.ref SE)))
    (aTF : PySem.W.nsIn K mainGlobals "TooFar" = some (some (.ref TF)))
    (xNH0 : PySem.W.findIn K (.ref NH) "__getattribute__" = some (some (.builtin "BaseException.__getattribute__")))
    (xNH1 : PySem.W.findIn K (.ref NH) "__getattr__" = some none)
    (xNH2 : PySem.W.mroIn K NH (.type "BaseException") = some true)
    (xNH3 : PySem.W.mroIn K NH (.type "object") = some true)
    (xNH4 : PySem.W.findIn K (.ref NH) "__class__" = some (some (.builtin "object.__class__")))
    (xNH5 : PySem.W.specialIn K (.builtin "object.__class__") "__get__" = some (some (.builtin "getset_descriptor.__get__")))
    (xNH6 : PySem.W.takesIn K (.builtin "object.__class__") = some true)
    {cdNH : ClassData} (xNH7 : PySem.W.clsIn K NH = some cdNH)
    (xNH8 : PySem.W.excIn K NH mroV "ValueError.__new__" = true)
    (xNX0 : PySem.W.findIn K (.ref NX) "__getattribute__" = some (some (.builtin "BaseException.__getattribute__")))
    (xNX1 : PySem.W.findIn K (.ref NX) "__getattr__" = some none)
    (xNX2 : PySem.W.mroIn K NX (.type "BaseException") = some true)
    (xNX3 : PySem.W.mroIn K NX (.type "object") = some true)
    (xNX4 : PySem.W.findIn K (.ref NX) "__class__" = some (some (.builtin "object.__class__")))
    (xNX5 : PySem.W.specialIn K (.builtin "object.__class__") "__get__" = some (some (.builtin "getset_descriptor.__get__")))
    (xNX6 : PySem.W.takesIn K (.builtin "object.__class__") = some true)
    {cdNX : ClassData} (xNX7 : PySem.W.clsIn K NX = some cdNX)
    (xNX8 : PySem.W.excIn K NX mroV "ValueError.__new__" = true)
    (qVE : PySem.W.kitOne K (.ref NX) (.ref VE) = some true)
    (qV : PySem.W.kitOne K (.ref NX) (.type "ValueError") = some true)
    (qNB : PySem.W.kitOne K (.ref NX) (.ref NB) = some false)
    (qNH : PySem.W.kitOne K (.ref NX) (.ref NH) = some false)
    (qNP : PySem.W.kitOne K (.ref NX) (.ref NP) = some false)
    (qNR : PySem.W.kitOne K (.ref NX) (.ref NR) = some false)
    (qNS : PySem.W.kitOne K (.ref NX) (.ref NS) = some false)
    (qNT : PySem.W.kitOne K (.ref NX) (.ref NT) = some false)
    (qPI : PySem.W.kitOne K (.ref NX) (.ref PI) = some false)
    (qSE : PySem.W.kitOne K (.ref NX) (.ref SE) = some false)
    (qTF : PySem.W.kitOne K (.ref NX) (.ref TF) = some false)
    (hitNH : PySem.W.exmOne K (.ref NH) (.ref NH) = some true)
    (hitNX : PySem.W.exmOne K (.ref NX) (.ref NX) = some true)
    : ∃ fd : FuncData, (∀ (s : Shared) (v : Value), BindsTo s fd ⟨[v], []⟩ [("_law_script", v)]) /\ ∀ base : Heap, K.In base -> base.Ns mainGlobals mg -> FnOk l.prog w K mg base (CXE l.prog w) 10 fa fd ["_law_script"] (Nu.a3j K) := by
  have e := hfa.symm.trans (PySem.W.mg_of X G alaw)
  cases e
  have T : Txt K mg C NH NX VE NB NP NR NS NT PI SE TF := ⟨⟨pg, hd, po, sa⟩, PySem.W.mg_of X G aC, f_above_of, f_column_names, f_beneath_of, PySem.W.mg_none_of X G z_isinstance, PySem.W.mg_none_of X G z_str, PySem.W.mg_none_of X G z_list, PySem.W.mg_none_of X G z_tuple, PySem.W.mg_none_of X G z_len, PySem.W.mg_none_of X G z_all, PySem.W.mg_none_of X G z_range, PySem.W.mg_none_of X G z_int, PySem.W.mg_none_of X G z_zip, PySem.W.mg_none_of X G z_dict, PySem.W.mg_none_of X G z_ValueError, ⟨_, PySem.W.mg_of X G g_ALL⟩, ⟨_, PySem.W.mg_of X G g_UNTOLD⟩, ⟨_, PySem.W.mg_of X G g_MOST_FIGURES⟩, PySem.W.mg_of X G aNH, PySem.W.mg_of X G aNX, PySem.W.mg_of X G aVE, PySem.W.mg_of X G aNB, PySem.W.mg_of X G aNP, PySem.W.mg_of X G aNR, PySem.W.mg_of X G aNS, PySem.W.mg_of X G aNT, PySem.W.mg_of X G aPI, PySem.W.mg_of X G aSE, PySem.W.mg_of X G aTF, ⟨xNH0, xNH1, xNH2, xNH3, xNH4, xNH5, xNH6, by rw [xNH7]; rfl, xNH8⟩, ⟨xNX0, xNX1, xNX2, xNX3, xNX4, xNX5, xNX6, by rw [xNX7]; rfl, xNX8⟩, qVE, qV, qNB, qNH, qNP, qNR, qNS, qNT, qPI, qSE, qTF, hitNH, hitNX⟩
  obtain ⟨fdname, Aname⟩ := r6 (ps := ["thing"]) X G aname lname cname kname λ _ _ _ _ _ _ us hl => match us, hl with | [_], _ => rfl
  obtain ⟨fdplain, Aplain⟩ := r6 (ps := ["text"]) X G aplain lplain cplain kplain λ _ _ _ _ _ _ us hl => match us, hl with | [_], _ => rfl
  obtain ⟨fdcname, Acname⟩ := r6 (ps := ["thing", "ahead"]) X G acname lcname ccname kcname λ _ _ _ _ _ _ us hl => match us, hl with | [_, _], _ => rfl
  obtain ⟨fdcabove, Acabove⟩ := r6 (ps := ["thing", "ahead"]) X G acabove lcabove ccabove kcabove λ _ _ _ _ _ _ us hl => match us, hl with | [_, _], _ => rfl
  obtain ⟨fdccols, Accols⟩ := r6 (ps := ["columns"]) X G accols lccols cccols kccols λ _ _ _ _ _ _ us hl => match us, hl with | [_], _ => rfl
  obtain ⟨fdcparts, Acparts⟩ := r6 (ps := ["parts"]) X G acparts lcparts ccparts kcparts λ _ _ _ _ _ _ us hl => match us, hl with | [_], _ => rfl
  obtain ⟨fdturned, Aturned⟩ := r6 (ps := ["above_of"]) X G aturned lturned cturned kturned λ _ _ _ _ _ _ us hl => match us, hl with | [_], _ => rfl
  have Finit := a0o (st := O6) linit cinit kinit
  have binit := Finit.binds (ps := ["self", "parts", "columns"]) λ _ _ _ _ _ _ us hl => match us, hl with | [_, _, _], _ => rfl
  have Fmparts := a0o (st := A5) lmparts cmparts kmparts
  have bmparts := Fmparts.binds (ps := ["self"]) λ _ _ _ _ _ _ us hl => match us, hl with | [_], _ => rfl
  have Fmcols := a0o (st := E8) lmcols cmcols kmcols
  have bmcols := Fmcols.binds (ps := ["self"]) λ _ _ _ _ _ _ us hl => match us, hl with | [_], _ => rfl
  obtain ⟨fdplainN, AplainN⟩ := r6 (ps := ["text"]) X G aplainN lplainN cplainN kplainN λ _ _ _ _ _ _ us hl => match us, hl with | [_], _ => rfl
  obtain ⟨fdisfig, Aisfig⟩ := r6 (ps := ["word"]) X G aisfig lisfig cisfig kisfig λ _ _ _ _ _ _ us hl => match us, hl with | [_], _ => rfl
  obtain ⟨fdctext, Actext⟩ := r6 (ps := ["thing"]) X G actext lctext cctext kctext λ _ _ _ _ _ _ us hl => match us, hl with | [_], _ => rfl
  obtain ⟨fdnwords, Anwords⟩ := r6 (ps := ["part", "count", "row"]) X G anwords lnwords cnwords knwords λ _ _ _ _ _ _ us hl => match us, hl with | [_, _, _], _ => rfl
  obtain ⟨fdrfig, Arfig⟩ := r6 (ps := ["word"]) X G arfig lrfig crfig krfig λ _ _ _ _ _ _ us hl => match us, hl with | [_], _ => rfl
  obtain ⟨fdreads, Areads⟩ := r6 (ps := ["house", "text"]) X G areads lreads creads kreads λ _ _ _ _ _ _ us hl => match us, hl with | [_, _], _ => rfl
  obtain ⟨fdcell, Acell⟩ := r6 (ps := ["_law_script", "_law_k"]) X G acell lcell ccell kcell λ _ _ _ _ _ _ us hl => match us, hl with | [_, _], _ => rfl
  obtain ⟨fdlnames, Alnames⟩ := r6 (ps := ["_law_cell", "_law_many"]) X G alnames llnames clnames klnames λ _ _ _ _ _ _ us hl => match us, hl with | [_, _], _ => rfl
  obtain ⟨fdlgood, Algood⟩ := r6 (ps := ["_law_script", "_law_some", "_law_many"]) X G algood llgood clgood klgood λ _ _ _ _ _ _ us hl => match us, hl with | [_, _, _], _ => rfl
  obtain ⟨fdlsigns, Alsigns⟩ := r6 (ps := ["_law_text", "_law_cell", "_law_way"]) X G alsigns llsigns clsigns klsigns λ _ _ _ _ _ _ us hl => match us, hl with | [_, _, _], _ => rfl
  obtain ⟨fdlwords, Alwords⟩ := r6 (ps := ["_law_lines", "_law_cell", "_law_way"]) X G alwords llwords clwords klwords λ _ _ _ _ _ _ us hl => match us, hl with | [_, _, _], _ => rfl
  obtain ⟨fdlspoil, Alspoil⟩ := r6 (ps := ["_law_lines", "_law_cell", "_law_way"]) X G alspoil llspoil clspoil klspoil λ _ _ _ _ _ _ us hl => match us, hl with | [_, _, _], _ => rfl
  obtain ⟨fdlisnum, Alisnum⟩ := r6 (ps := ["_law_word"]) X G alisnum llisnum clisnum klisnum λ _ _ _ _ _ _ us hl => match us, hl with | [_], _ => rfl
  obtain ⟨fdlread, Alread⟩ := r6 (ps := ["_law_text", "_law_some", "_law_columns"]) X G alread llread clread klread λ _ _ _ _ _ _ us hl => match us, hl with | [_, _, _], _ => rfl
  obtain ⟨fdtold, Atold⟩ := r6 (ps := ["_law_house", "_law_thing"]) X G atold ltold ctold ktold λ _ _ _ _ _ _ us hl => match us, hl with | [_, _], _ => rfl
  have F0 := a0o (st := O7) llaw claw klaw
  refine ⟨PySem.W.fnOf "law" "law" (c9 O7) (b5 O7) (a9 O7) .none kVlaw dclaw pmlaw anlaw cdlaw ctlaw, λ s v => .of_eq rfl, λ base _ _ => ?_⟩
  have hname := ok_name (P := l.prog) (w := w) (base := base) Aname T
  have hplain := ok_plain (P := l.prog) (w := w) (base := base) Aplain T
  have hcname := ok_cname (P := l.prog) (w := w) (base := base) Acname T hname hplain
  have hcabove := ok_cabove (P := l.prog) (w := w) (base := base) Acabove T hplain
  have hccols := ok_ccols (P := l.prog) (w := w) (base := base) Accols T hcname
  have hcparts := ok_cparts (P := l.prog) (w := w) (base := base) Acparts T hcname hcabove
  have hturned := ok_turned (P := l.prog) (w := w) (base := base) Aturned T
  have hinit := ok_init (P := l.prog) (w := w) (base := base) ⟨mk, ainit, iinit, kc⟩ Finit binit T hcparts hccols hturned
  have hmparts := ok_mparts (P := l.prog) (w := w) (base := base) ⟨amparts, imparts, kmparts⟩ Fmparts bmparts T
  have hmcols := ok_mcols (P := l.prog) (w := w) (base := base) ⟨amcols, imcols, kmcols⟩ Fmcols bmcols T
  have hplainN := ok_plainN (P := l.prog) (w := w) (base := base) AplainN T
  have hisfig := ok_isfig (P := l.prog) (w := w) (base := base) Aisfig T
  have hctext := ok_ctext (P := l.prog) (w := w) (base := base) Actext T hplainN
  have hnwords := ok_nwords (P := l.prog) (w := w) (base := base) Anwords T
  have hrfig := ok_rfig (P := l.prog) (w := w) (base := base) Arfig T hisfig
  have hreads := ok_reads (P := l.prog) (w := w) (base := base) Areads T hctext hnwords hrfig hmparts hmcols
  have hcell := ok_cell (P := l.prog) (w := w) (base := base) Acell T
  have hlnames := ok_lnames (P := l.prog) (w := w) (base := base) Alnames T
  have hlgood := ok_lgood (P := l.prog) (w := w) (base := base) Algood T hcell
  have hlsigns := ok_lsigns (P := l.prog) (w := w) (base := base) Alsigns T
  have hlwords := ok_lwords (P := l.prog) (w := w) (base := base) Alwords T
  have hlspoil := ok_lspoil (P := l.prog) (w := w) (base := base) Alspoil T hlsigns hlwords
  have hlisnum := ok_lisnum (P := l.prog) (w := w) (base := base) Alisnum T
  have hlread := ok_lread (P := l.prog) (w := w) (base := base) Alread T hlisnum
  have htold := ok_told (P := l.prog) (w := w) (base := base) Atold T hreads
  exact ok_law F0 T hlnames hcell hinit hlgood hlspoil hlread htold
theorem walkW {l : PySem.W.OpenLaw} {n k : Nat} {q : Program} {loose : List Str} {XP : (Str -> Option Value) -> Heap -> Prop} {YP : World -> Heap -> Prop} {d : DefRec} {K : World -> PySem.W.Frag} {CX : World -> CXT} {sp : World -> Sp} {x : Str}
    (hn : l.most = some n) (hn2 : n <= sizeLine) (hdf : d.params.defaults = []) (hr : Room k callerA) (hY : ∀ (w : World) (h : Heap), YP w h -> (K w).In h)
    (F : ∀ (w : World) (mg : Str -> Option Value) (fa : Addr) (h : Heap), (K w).In h -> h.Ns mainGlobals mg -> mg d.name = some (.ref fa) -> ∃ fd : FuncData, (∀ (s : Shared) (u : Value), BindsTo s fd ⟨[u], []⟩ [(x, u)]) /\ ∀ base : Heap, (K w).In base -> base.Ns mainGlobals mg -> FnOk l.prog w (K w) mg base (CX w) k fa fd [x] (sp w))
    (hsp : ∀ (w : World) (H : Hp) (a : Addr) (ns : List Int), ns.length <= n -> U4 ns -> Only H -> SqL (K w) H a (ns.map V.int) -> sp w [.ref a] H (λ v _ => v = .bl true) λ _ _ _ => False)
    (hCX : ∀ (w : World) (H : Hp) (s : Shared) (e : Value) (s' : Shared), CX w [] H s (λ _ _ _ => False) e s' -> False) : PySem.W.WalkO q loose XP YP l.row.toRowW d [] (λ f vs => PySem.call f vs) := by
  intro w s₀ s₁ mg mb G Y fa o pm cd doc dV kV ho hd hcd hD hmg hg args vals as hpre hlay hrd hwl hlo
  cases PySem.W.Dflts.none hD hdf
  cases PySem.W.Dflts.noKw hD
  obtain ⟨a, vs, ns, rfl, rfl, hobj, hints, hlen⟩ := Att.script_of hn hpre hwl
  have KX := hY w _ Y
  obtain ⟨fd, hb, hF⟩ := F w mg fa _ KX G.T.g hmg
  refine PySem.W.enter_call (codeAny_mono (law_call KX G.T.g G.T.b G.T.builtins G.T.nolimit hg hobj hints (Nat.le_trans hlen hn2) hr hF hb (λ H hO hS => hsp w H a ns hlen (short_of hlay) hO hS) λ H e s' => hCX w H s₁ e s') λ r s' hq => ?_)
  obtain ⟨rfl, h2, h3, h4⟩ := hq
  exact ⟨.inl ⟨.bool true, .bool true, [], rfl, λ _ => rfl, .bool true, Att.post_true l _, λ _ => ⟨List.Pairwise.nil, λ _ hm => (nomatch hm)⟩⟩, h2, h3, h4⟩
theorem walkX {q : Program} {loose : List Str} {XP : (Str -> Option Value) -> Heap -> Prop} {Ya : World -> Shared} {r : PySem.W.RowW} {d : DefRec} {kwd : List (Str × Expr)} {run : Value -> List Value -> Sem Value} {K : World -> PySem.W.Frag}
    (hY : ∀ (w : World), (K w).In (Ya w).heap) (h : PySem.W.WalkO q loose XP (λ w h => (K w).In h) r d kwd run) : PySem.W.WalkX q loose XP (λ s => s) Ya r d kwd run :=
  λ w s₀ s₁ mg mb G y a o pm cd doc dV kV h1 h2 h3 h4 h5 h6 args vals as L => h w s₀ s₁ mg mb G (PySem.W.Frag.In.keeps (by rw [show s₀ = Ya w from y]; exact hY w) L.keeps) a o pm cd doc dV kV h1 h2 h3 h4 h5 h6 args vals as
abbrev pw : Program := PySem.Challenge.pw_tallyveil_k14_texts_of_no_numbers
abbrev lw : PySem.W.OpenLaw := PySem.Challenge.rw_tallyveil_k14_texts_of_no_numbers
def vw : Program := PySem.W.view pw [0, 2, 3, 4, 5, 6, 7, 8, 9, 10, 11, 12, 13, 15, 16, 17, 18, 19, 20, 21, 22, 23, 25, 26, 27, 28, 29, 30, 31, 33, 34, 35, 36, 37, 38, 39, 40, 41, 42]
def xt (s : Shared) : Bool := PySem.W.xlAt vw [] s && PySem.W.recOk (PySem.W.RowW.records lw.row.toRowW) s
theorem seen1 (w : World) : (PySem.W.openEnds treeTable pw w 12000).map (λ s => (PySem.W.openSeen vw [] (importedModules pw.main.body) xt true s, ())) = some (PySem.W.openGood vw [], ()) := by
  unfold PySem.W.openEnds PySem.W.topFrom
  rw [PySem.W.Fast.te14082659384304107361, PySem.W.Fast.te4187177175401517315, PySem.W.Fast.te14364793385576792824]
  kernel_rfl
noncomputable def beg (w : World) : Shared := (PySem.W.fencedOpening treeTable pw w 12000).getD {}
noncomputable def fin (w : World) : Shared := (PySem.W.Fast.tw14082659384304107361 PySem.W.Fast.tw14364793385576792824 pw w (beg w).heap.objs.size ((beg w).heap.nsMap mainGlobals "__annotations__") 12000 (beg w) (PySem.W.topStub pw)).getD {}
theorem fin_of {w : World} {s : Shared} (h : PySem.W.openEnds treeTable pw w 12000 = some s) : s = fin w := by
  unfold PySem.W.openEnds at h
  obtain ⟨a, ha, hb⟩ := Option.bind_eq_some_iff.mp h
  have eb : beg w = a := by unfold beg; rw [ha]; rfl
  unfold PySem.W.topFrom at hb
  split at hb
  . obtain ⟨b, h1, h2⟩ := Option.bind_eq_some_iff.mp hb
    split at h2
    . cases h2
      rw [PySem.W.Fast.te14082659384304107361, PySem.W.Fast.te14364793385576792824] at h1
      unfold fin
      rw [eb, h1]
      rfl
    . cases h2
  . cases hb
theorem left : PySem.W.LeftO pw vw [] xt (λ s => s) fin 12000 := λ w => by
  have h := seen1 w
  obtain ⟨s, hs, e⟩ := Option.map_eq_some_iff.mp h
  rw [hs]
  show some (PySem.W.openSeen vw [] (importedModules pw.main.body) xt true s, s) = some (PySem.W.openGood vw [], fin w)
  rw [show PySem.W.openSeen vw [] (importedModules pw.main.body) xt true s = PySem.W.openGood vw [] from congrArg Prod.fst e, <- fin_of hs]
noncomputable def K (w : World) : PySem.W.Frag := (List.range 600).filterMap λ a => ((fin w).heap.get? a).map λ o => (a, o)
theorem k_in (w : World) : (K w).In (fin w).heap := λ a o e => by
  unfold K at e
  generalize List.range 600 = l at e
  induction l with
  | nil => cases e
  | cons x r ih =>
    rw [List.filterMap_cons] at e
    cases hx : (fin w).heap.get? x with
    | none => rw [hx] at e; exact ih e
    | some y =>
      rw [hx] at e
      have e : List.lookup a ((x, y) :: r.filterMap λ a => ((fin w).heap.get? a).map λ o => (a, o)) = some o := e
      rw [List.lookup_cons] at e
      by_cases q : a = x
      . subst q
        rw [beq_self_eq_true] at e
        have e : some y = some o := e
        rw [hx, e]
      . have q : (a == x) = false := beq_eq_false_iff_ne.mpr q
        rw [q] at e
        exact ih e
def xA (K : PySem.W.Frag) (x : Str) : Addr := match PySem.W.nsIn K mainGlobals x with
  | some (some (.ref a)) => a
  | _ => 0
def xM (K : PySem.W.Frag) (x : Str) : Addr := match PySem.W.findIn K (.ref (xA K "House")) x with
  | some (some (.ref a)) => a
  | _ => 0
def xT (K : PySem.W.Frag) (x : Str) : Tok := match PySem.W.nsIn K mainGlobals x with
  | some (some (.str _ t)) => t
  | some (some (.int _ t)) => t
  | _ => 0
def xO (K : PySem.W.Frag) (a : Addr) : Obj := (K.lookup a).getD { cls := .none }
def xF (K : PySem.W.Frag) (a : Addr) : FuncData := match (xO K a).data with
  | .func f => f
  | _ => default
theorem use {l : PySem.W.OpenLaw} {w : World} {h : Heap} {mg : Str -> Option Value} {fa : Addr} (X : (K w).In h) (G : h.Ns mainGlobals mg) (hfa : mg "law" = some (.ref fa)) : ∃ fd : FuncData, (∀ (s : Shared) (v : Value), BindsTo s fd ⟨[v], []⟩ [("_law_script", v)]) /\ ∀ base : Heap, (K w).In base -> base.Ns mainGlobals mg -> FnOk l.prog w (K w) mg base (CXE l.prog w) 10 fa fd ["_law_script"] (Nu.a3j (K w)) :=
  all_mk (l := l) (w := w) (K := K w) (C := xA (K w) "House") (NH := xA (K w) "NoHouse") (NX := xA (K w) "NoText") (VE := xA (K w) "VeilError") (NB := xA (K w) "NoBase") (NP := xA (K w) "NoPlace") (NR := xA (K w) "NoRow") (NS := xA (K w) "NoSecret") (NT := xA (K w) "NoTable") (PI := xA (K w) "Pinned") (SE := xA (K w) "Secret") (TF := xA (K w) "TooFar") (fname := xA (K w) "is_name") (ocname := (xO (K w) (xA (K w) "is_name")).cls) (odname := (xO (K w) (xA (K w) "is_name")).dict) (anname := (xF (K w) (xA (K w) "is_name")).annotations) (slname := (xO (K w) (xA (K w) "is_name")).slots) (kVname := (xF (K w) (xA (K w) "is_name")).kwdefaults) (dcname := (xF (K w) (xA (K w) "is_name")).doc) (pmname := (xF (K w) (xA (K w) "is_name")).pyModule) (cdname := (xF (K w) (xA (K w) "is_name")).code) (ctname := (xF (K w) (xA (K w) "is_name")).closureTuple) (fplain := xA (K w) "plain_text") (ocplain := (xO (K w) (xA (K w) "plain_text")).cls) (odplain := (xO (K w) (xA (K w) "plain_text")).dict) (anplain := (xF (K w) (xA (K w) "plain_text")).annotations) (slplain := (xO (K w) (xA (K w) "plain_text")).slots) (kVplain := (xF (K w) (xA (K w) "plain_text")).kwdefaults) (dcplain := (xF (K w) (xA (K w) "plain_text")).doc) (pmplain := (xF (K w) (xA (K w) "plain_text")).pyModule) (cdplain := (xF (K w) (xA (K w) "plain_text")).code) (ctplain := (xF (K w) (xA (K w) "plain_text")).closureTuple) (fcname := xA (K w) "checked_name") (occname := (xO (K w) (xA (K w) "checked_name")).cls) (odcname := (xO (K w) (xA (K w) "checked_name")).dict) (ancname := (xF (K w) (xA (K w) "checked_name")).annotations) (slcname := (xO (K w) (xA (K w) "checked_name")).slots) (kVcname := (xF (K w) (xA (K w) "checked_name")).kwdefaults) (dccname := (xF (K w) (xA (K w) "checked_name")).doc) (pmcname := (xF (K w) (xA (K w) "checked_name")).pyModule) (cdcname := (xF (K w) (xA (K w) "checked_name")).code) (ctcname := (xF (K w) (xA (K w) "checked_name")).closureTuple) (fcabove := xA (K w) "checked_above") (occabove := (xO (K w) (xA (K w) "checked_above")).cls) (odcabove := (xO (K w) (xA (K w) "checked_above")).dict) (ancabove := (xF (K w) (xA (K w) "checked_above")).annotations) (slcabove := (xO (K w) (xA (K w) "checked_above")).slots) (kVcabove := (xF (K w) (xA (K w) "checked_above")).kwdefaults) (dccabove := (xF (K w) (xA (K w) "checked_above")).doc) (pmcabove := (xF (K w) (xA (K w) "checked_above")).pyModule) (cdcabove := (xF (K w) (xA (K w) "checked_above")).code) (ctcabove := (xF (K w) (xA (K w) "checked_above")).closureTuple) (fccols := xA (K w) "checked_columns") (occcols := (xO (K w) (xA (K w) "checked_columns")).cls) (odccols := (xO (K w) (xA (K w) "checked_columns")).dict) (anccols := (xF (K w) (xA (K w) "checked_columns")).annotations) (slccols := (xO (K w) (xA (K w) "checked_columns")).slots) (kVccols := (xF (K w) (xA (K w) "checked_columns")).kwdefaults) (dcccols := (xF (K w) (xA (K w) "checked_columns")).doc) (pmccols := (xF (K w) (xA (K w) "checked_columns")).pyModule) (cdccols := (xF (K w) (xA (K w) "checked_columns")).code) (ctccols := (xF (K w) (xA (K w) "checked_columns")).closureTuple) (fcparts := xA (K w) "checked_parts") (occparts := (xO (K w) (xA (K w) "checked_parts")).cls) (odcparts := (xO (K w) (xA (K w) "checked_parts")).dict) (ancparts := (xF (K w) (xA (K w) "checked_parts")).annotations) (slcparts := (xO (K w) (xA (K w) "checked_parts")).slots) (kVcparts := (xF (K w) (xA (K w) "checked_parts")).kwdefaults) (dccparts := (xF (K w) (xA (K w) "checked_parts")).doc) (pmcparts := (xF (K w) (xA (K w) "checked_parts")).pyModule) (cdcparts := (xF (K w) (xA (K w) "checked_parts")).code) (ctcparts := (xF (K w) (xA (K w) "checked_parts")).closureTuple) (fturned := xA (K w) "turned_about") (octurned := (xO (K w) (xA (K w) "turned_about")).cls) (odturned := (xO (K w) (xA (K w) "turned_about")).dict) (anturned := (xF (K w) (xA (K w) "turned_about")).annotations) (slturned := (xO (K w) (xA (K w) "turned_about")).slots) (kVturned := (xF (K w) (xA (K w) "turned_about")).kwdefaults) (dcturned := (xF (K w) (xA (K w) "turned_about")).doc) (pmturned := (xF (K w) (xA (K w) "turned_about")).pyModule) (cdturned := (xF (K w) (xA (K w) "turned_about")).code) (ctturned := (xF (K w) (xA (K w) "turned_about")).closureTuple) (finit := xM (K w) "__init__") (ocinit := (xO (K w) (xM (K w) "__init__")).cls) (odinit := (xO (K w) (xM (K w) "__init__")).dict) (aninit := (xF (K w) (xM (K w) "__init__")).annotations) (slinit := (xO (K w) (xM (K w) "__init__")).slots) (kVinit := (xF (K w) (xM (K w) "__init__")).kwdefaults) (dcinit := (xF (K w) (xM (K w) "__init__")).doc) (pminit := (xF (K w) (xM (K w) "__init__")).pyModule) (cdinit := (xF (K w) (xM (K w) "__init__")).code) (ctinit := (xF (K w) (xM (K w) "__init__")).closureTuple) (fmparts := xM (K w) "parts") (ocmparts := (xO (K w) (xM (K w) "parts")).cls) (odmparts := (xO (K w) (xM (K w) "parts")).dict) (anmparts := (xF (K w) (xM (K w) "parts")).annotations) (slmparts := (xO (K w) (xM (K w) "parts")).slots) (kVmparts := (xF (K w) (xM (K w) "parts")).kwdefaults) (dcmparts := (xF (K w) (xM (K w) "parts")).doc) (pmmparts := (xF (K w) (xM (K w) "parts")).pyModule) (cdmparts := (xF (K w) (xM (K w) "parts")).code) (ctmparts := (xF (K w) (xM (K w) "parts")).closureTuple) (fmcols := xM (K w) "columns") (ocmcols := (xO (K w) (xM (K w) "columns")).cls) (odmcols := (xO (K w) (xM (K w) "columns")).dict) (anmcols := (xF (K w) (xM (K w) "columns")).annotations) (slmcols := (xO (K w) (xM (K w) "columns")).slots) (kVmcols := (xF (K w) (xM (K w) "columns")).kwdefaults) (dcmcols := (xF (K w) (xM (K w) "columns")).doc) (pmmcols := (xF (K w) (xM (K w) "columns")).pyModule) (cdmcols := (xF (K w) (xM (K w) "columns")).code) (ctmcols := (xF (K w) (xM (K w) "columns")).closureTuple) (fplainN := xA (K w) "plain_text") (ocplainN := (xO (K w) (xA (K w) "plain_text")).cls) (odplainN := (xO (K w) (xA (K w) "plain_text")).dict) (anplainN := (xF (K w) (xA (K w) "plain_text")).annotations) (slplainN := (xO (K w) (xA (K w) "plain_text")).slots) (kVplainN := (xF (K w) (xA (K w) "plain_text")).kwdefaults) (dcplainN := (xF (K w) (xA (K w) "plain_text")).doc) (pmplainN := (xF (K w) (xA (K w) "plain_text")).pyModule) (cdplainN := (xF (K w) (xA (K w) "plain_text")).code) (ctplainN := (xF (K w) (xA (K w) "plain_text")).closureTuple) (fisfig := xA (K w) "is_figures") (ocisfig := (xO (K w) (xA (K w) "is_figures")).cls) (odisfig := (xO (K w) (xA (K w) "is_figures")).dict) (anisfig := (xF (K w) (xA (K w) "is_figures")).annotations) (slisfig := (xO (K w) (xA (K w) "is_figures")).slots) (kVisfig := (xF (K w) (xA (K w) "is_figures")).kwdefaults) (dcisfig := (xF (K w) (xA (K w) "is_figures")).doc) (pmisfig := (xF (K w) (xA (K w) "is_figures")).pyModule) (cdisfig := (xF (K w) (xA (K w) "is_figures")).code) (ctisfig := (xF (K w) (xA (K w) "is_figures")).closureTuple) (fctext := xA (K w) "checked_text") (occtext := (xO (K w) (xA (K w) "checked_text")).cls) (odctext := (xO (K w) (xA (K w) "checked_text")).dict) (anctext := (xF (K w) (xA (K w) "checked_text")).annotations) (slctext := (xO (K w) (xA (K w) "checked_text")).slots) (kVctext := (xF (K w) (xA (K w) "checked_text")).kwdefaults) (dcctext := (xF (K w) (xA (K w) "checked_text")).doc) (pmctext := (xF (K w) (xA (K w) "checked_text")).pyModule) (cdctext := (xF (K w) (xA (K w) "checked_text")).code) (ctctext := (xF (K w) (xA (K w) "checked_text")).closureTuple) (fnwords := xA (K w) "number_words") (ocnwords := (xO (K w) (xA (K w) "number_words")).cls) (odnwords := (xO (K w) (xA (K w) "number_words")).dict) (annwords := (xF (K w) (xA (K w) "number_words")).annotations) (slnwords := (xO (K w) (xA (K w) "number_words")).slots) (kVnwords := (xF (K w) (xA (K w) "number_words")).kwdefaults) (dcnwords := (xF (K w) (xA (K w) "number_words")).doc) (pmnwords := (xF (K w) (xA (K w) "number_words")).pyModule) (cdnwords := (xF (K w) (xA (K w) "number_words")).code) (ctnwords := (xF (K w) (xA (K w) "number_words")).closureTuple) (frfig := xA (K w) "read_figures") (ocrfig := (xO (K w) (xA (K w) "read_figures")).cls) (odrfig := (xO (K w) (xA (K w) "read_figures")).dict) (anrfig := (xF (K w) (xA (K w) "read_figures")).annotations) (slrfig := (xO (K w) (xA (K w) "read_figures")).slots) (kVrfig := (xF (K w) (xA (K w) "read_figures")).kwdefaults) (dcrfig := (xF (K w) (xA (K w) "read_figures")).doc) (pmrfig := (xF (K w) (xA (K w) "read_figures")).pyModule) (cdrfig := (xF (K w) (xA (K w) "read_figures")).code) (ctrfig := (xF (K w) (xA (K w) "read_figures")).closureTuple) (freads := xA (K w) "read_numbers") (ocreads := (xO (K w) (xA (K w) "read_numbers")).cls) (odreads := (xO (K w) (xA (K w) "read_numbers")).dict) (anreads := (xF (K w) (xA (K w) "read_numbers")).annotations) (slreads := (xO (K w) (xA (K w) "read_numbers")).slots) (kVreads := (xF (K w) (xA (K w) "read_numbers")).kwdefaults) (dcreads := (xF (K w) (xA (K w) "read_numbers")).doc) (pmreads := (xF (K w) (xA (K w) "read_numbers")).pyModule) (cdreads := (xF (K w) (xA (K w) "read_numbers")).code) (ctreads := (xF (K w) (xA (K w) "read_numbers")).closureTuple) (fcell := xA (K w) "_law_cell_at") (occell := (xO (K w) (xA (K w) "_law_cell_at")).cls) (odcell := (xO (K w) (xA (K w) "_law_cell_at")).dict) (ancell := (xF (K w) (xA (K w) "_law_cell_at")).annotations) (slcell := (xO (K w) (xA (K w) "_law_cell_at")).slots) (kVcell := (xF (K w) (xA (K w) "_law_cell_at")).kwdefaults) (dccell := (xF (K w) (xA (K w) "_law_cell_at")).doc) (pmcell := (xF (K w) (xA (K w) "_law_cell_at")).pyModule) (cdcell := (xF (K w) (xA (K w) "_law_cell_at")).code) (ctcell := (xF (K w) (xA (K w) "_law_cell_at")).closureTuple) (flnames := xA (K w) "_law_names") (oclnames := (xO (K w) (xA (K w) "_law_names")).cls) (odlnames := (xO (K w) (xA (K w) "_law_names")).dict) (anlnames := (xF (K w) (xA (K w) "_law_names")).annotations) (sllnames := (xO (K w) (xA (K w) "_law_names")).slots) (kVlnames := (xF (K w) (xA (K w) "_law_names")).kwdefaults) (dclnames := (xF (K w) (xA (K w) "_law_names")).doc) (pmlnames := (xF (K w) (xA (K w) "_law_names")).pyModule) (cdlnames := (xF (K w) (xA (K w) "_law_names")).code) (ctlnames := (xF (K w) (xA (K w) "_law_names")).closureTuple) (flgood := xA (K w) "_law_good") (oclgood := (xO (K w) (xA (K w) "_law_good")).cls) (odlgood := (xO (K w) (xA (K w) "_law_good")).dict) (anlgood := (xF (K w) (xA (K w) "_law_good")).annotations) (sllgood := (xO (K w) (xA (K w) "_law_good")).slots) (kVlgood := (xF (K w) (xA (K w) "_law_good")).kwdefaults) (dclgood := (xF (K w) (xA (K w) "_law_good")).doc) (pmlgood := (xF (K w) (xA (K w) "_law_good")).pyModule) (cdlgood := (xF (K w) (xA (K w) "_law_good")).code) (ctlgood := (xF (K w) (xA (K w) "_law_good")).closureTuple) (flsigns := xA (K w) "_law_signs") (oclsigns := (xO (K w) (xA (K w) "_law_signs")).cls) (odlsigns := (xO (K w) (xA (K w) "_law_signs")).dict) (anlsigns := (xF (K w) (xA (K w) "_law_signs")).annotations) (sllsigns := (xO (K w) (xA (K w) "_law_signs")).slots) (kVlsigns := (xF (K w) (xA (K w) "_law_signs")).kwdefaults) (dclsigns := (xF (K w) (xA (K w) "_law_signs")).doc) (pmlsigns := (xF (K w) (xA (K w) "_law_signs")).pyModule) (cdlsigns := (xF (K w) (xA (K w) "_law_signs")).code) (ctlsigns := (xF (K w) (xA (K w) "_law_signs")).closureTuple) (flwords := xA (K w) "_law_words") (oclwords := (xO (K w) (xA (K w) "_law_words")).cls) (odlwords := (xO (K w) (xA (K w) "_law_words")).dict) (anlwords := (xF (K w) (xA (K w) "_law_words")).annotations) (sllwords := (xO (K w) (xA (K w) "_law_words")).slots) (kVlwords := (xF (K w) (xA (K w) "_law_words")).kwdefaults) (dclwords := (xF (K w) (xA (K w) "_law_words")).doc) (pmlwords := (xF (K w) (xA (K w) "_law_words")).pyModule) (cdlwords := (xF (K w) (xA (K w) "_law_words")).code) (ctlwords := (xF (K w) (xA (K w) "_law_words")).closureTuple) (flspoil := xA (K w) "_law_spoiled") (oclspoil := (xO (K w) (xA (K w) "_law_spoiled")).cls) (odlspoil := (xO (K w) (xA (K w) "_law_spoiled")).dict) (anlspoil := (xF (K w) (xA (K w) "_law_spoiled")).annotations) (sllspoil := (xO (K w) (xA (K w) "_law_spoiled")).slots) (kVlspoil := (xF (K w) (xA (K w) "_law_spoiled")).kwdefaults) (dclspoil := (xF (K w) (xA (K w) "_law_spoiled")).doc) (pmlspoil := (xF (K w) (xA (K w) "_law_spoiled")).pyModule) (cdlspoil := (xF (K w) (xA (K w) "_law_spoiled")).code) (ctlspoil := (xF (K w) (xA (K w) "_law_spoiled")).closureTuple) (flisnum := xA (K w) "_law_is_number") (oclisnum := (xO (K w) (xA (K w) "_law_is_number")).cls) (odlisnum := (xO (K w) (xA (K w) "_law_is_number")).dict) (anlisnum := (xF (K w) (xA (K w) "_law_is_number")).annotations) (sllisnum := (xO (K w) (xA (K w) "_law_is_number")).slots) (kVlisnum := (xF (K w) (xA (K w) "_law_is_number")).kwdefaults) (dclisnum := (xF (K w) (xA (K w) "_law_is_number")).doc) (pmlisnum := (xF (K w) (xA (K w) "_law_is_number")).pyModule) (cdlisnum := (xF (K w) (xA (K w) "_law_is_number")).code) (ctlisnum := (xF (K w) (xA (K w) "_law_is_number")).closureTuple) (flread := xA (K w) "_law_read") (oclread := (xO (K w) (xA (K w) "_law_read")).cls) (odlread := (xO (K w) (xA (K w) "_law_read")).dict) (anlread := (xF (K w) (xA (K w) "_law_read")).annotations) (sllread := (xO (K w) (xA (K w) "_law_read")).slots) (kVlread := (xF (K w) (xA (K w) "_law_read")).kwdefaults) (dclread := (xF (K w) (xA (K w) "_law_read")).doc) (pmlread := (xF (K w) (xA (K w) "_law_read")).pyModule) (cdlread := (xF (K w) (xA (K w) "_law_read")).code) (ctlread := (xF (K w) (xA (K w) "_law_read")).closureTuple) (ftold := xA (K w) "_law_told") (octold := (xO (K w) (xA (K w) "_law_told")).cls) (odtold := (xO (K w) (xA (K w) "_law_told")).dict) (antold := (xF (K w) (xA (K w) "_law_told")).annotations) (sltold := (xO (K w) (xA (K w) "_law_told")).slots) (kVtold := (xF (K w) (xA (K w) "_law_told")).kwdefaults) (dctold := (xF (K w) (xA (K w) "_law_told")).doc) (pmtold := (xF (K w) (xA (K w) "_law_told")).pyModule) (cdtold := (xF (K w) (xA (K w) "_law_told")).code) (cttold := (xF (K w) (xA (K w) "_law_told")).closureTuple) (flaw := xA (K w) "law") (oclaw := (xO (K w) (xA (K w) "law")).cls) (odlaw := (xO (K w) (xA (K w) "law")).dict) (anlaw := (xF (K w) (xA (K w) "law")).annotations) (sllaw := (xO (K w) (xA (K w) "law")).slots) (kVlaw := (xF (K w) (xA (K w) "law")).kwdefaults) (dclaw := (xF (K w) (xA (K w) "law")).doc) (pmlaw := (xF (K w) (xA (K w) "law")).pyModule) (cdlaw := (xF (K w) (xA (K w) "law")).code) (ctlaw := (xF (K w) (xA (K w) "law")).closureTuple) (t_ALL := xT (K w) "ALL") (t_UNTOLD := xT (K w) "UNTOLD") (t_MOST_FIGURES := xT (K w) "MOST_FIGURES") (cdNH := (PySem.W.clsIn (K w) (xA (K w) "NoHouse")).getD default) (cdNX := (PySem.W.clsIn (K w) (xA (K w) "NoText")).getD default) X G hfa
    (by kernel_rfl) (by kernel_rfl) (by kernel_rfl) (by kernel_rfl) (by kernel_rfl) (by kernel_rfl) (by kernel_rfl) (by kernel_rfl) (by kernel_rfl) (by kernel_rfl) (by kernel_rfl) (by kernel_rfl) (by kernel_rfl) (by kernel_rfl) (by kernel_rfl) (by kernel_rfl) (by kernel_rfl) (by kernel_rfl) (by kernel_rfl) (by kernel_rfl) (by kernel_rfl) (by kernel_rfl) (by kernel_rfl) (by kernel_rfl) (by kernel_rfl) (by kernel_rfl) (by kernel_rfl) (by kernel_rfl) (by kernel_rfl) (by kernel_rfl) (by kernel_rfl) (by kernel_rfl) (by kernel_rfl) (by kernel_rfl) (by kernel_rfl) (by kernel_rfl) (by kernel_rfl) (by kernel_rfl) (by kernel_rfl) (by kernel_rfl) (by kernel_rfl) (by kernel_rfl) (by kernel_rfl) (by kernel_rfl) (by kernel_rfl) (by kernel_rfl) (by kernel_rfl) (by kernel_rfl) (by kernel_rfl) (by kernel_rfl) (by kernel_rfl) (by kernel_rfl) (by kernel_rfl) (by kernel_rfl) (by kernel_rfl) (by kernel_rfl) (by kernel_rfl) (by kernel_rfl) (by kernel_rfl) (by kernel_rfl) (by kernel_rfl) (by kernel_rfl) (by kernel_rfl) (by kernel_rfl) (by kernel_rfl) (by kernel_rfl) (by kernel_rfl) (by kernel_rfl) (by kernel_rfl) (by kernel_rfl) (by kernel_rfl) (by kernel_rfl) (by kernel_rfl) (by kernel_rfl) (by kernel_rfl) (by kernel_rfl) (by kernel_rfl) (by kernel_rfl) (by kernel_rfl) (by kernel_rfl) (by kernel_rfl) (by kernel_rfl) (by kernel_rfl) (by kernel_rfl) (by kernel_rfl) (by kernel_rfl) (by kernel_rfl) (by kernel_rfl) (by kernel_rfl) (by kernel_rfl) (by kernel_rfl) (by kernel_rfl) (by kernel_rfl) (by kernel_rfl) (by kernel_rfl) (by kernel_rfl) (by kernel_rfl) (by kernel_rfl) (by kernel_rfl) (by kernel_rfl) (by kernel_rfl) (by kernel_rfl) (by kernel_rfl) (by kernel_rfl) (by kernel_rfl) (by kernel_rfl) (by kernel_rfl) (by kernel_rfl) (by kernel_rfl) (by kernel_rfl) (by kernel_rfl) (by kernel_rfl) (by kernel_rfl) (by kernel_rfl) (by kernel_rfl) (by kernel_rfl) (by kernel_rfl) (by kernel_rfl) (by kernel_rfl) (by kernel_rfl) (by kernel_rfl) (by kernel_rfl) (by kernel_rfl) (by kernel_rfl) (by kernel_rfl) (by kernel_rfl) (by kernel_rfl) (by kernel_rfl) (by kernel_rfl) (by kernel_rfl) (by kernel_rfl) (by kernel_rfl) (by kernel_rfl) (by kernel_rfl) (by kernel_rfl) (by kernel_rfl) (by kernel_rfl) (by kernel_rfl) (by kernel_rfl) (by kernel_rfl) (by kernel_rfl) (by kernel_rfl) (by kernel_rfl) (by kernel_rfl) (by kernel_rfl) (by kernel_rfl) (by kernel_rfl) (by kernel_rfl) (by kernel_rfl) (by kernel_rfl) (by kernel_rfl) (by kernel_rfl) (by kernel_rfl) (by kernel_rfl) (by kernel_rfl) (by kernel_rfl) (by kernel_rfl) (by kernel_rfl) (by kernel_rfl) (by kernel_rfl) (by kernel_rfl) (by kernel_rfl) (by kernel_rfl) (by kernel_rfl) (by kernel_rfl) (by kernel_rfl) (by kernel_rfl) (by kernel_rfl) (by kernel_rfl) (by kernel_rfl) (by kernel_rfl) (by kernel_rfl) (by kernel_rfl)
end P14
open PySem PySem.W PyProof.Rows
set_option maxRecDepth 100000 in
set_option maxHeartbeats 0 in
theorem PySem.Challenge.cw_tallyveil_k14_texts_of_no_numbers_holds : PySem.Challenge.rw_tallyveil_k14_texts_of_no_numbers.Holds := by
  w_on; o_law
  refine holds_openX (q := P14.vw) (loose := []) (Xt := P14.xt) (XP := XL P14.vw []) (Yf := λ s => s) (Ya := P14.fin) (N := 12000) P14.left (λ s e => xl_of s (Bool.and_eq_true_iff.mp e).1) XL.keeps (by rfl) (by rfl) (by rfl) (λ s e => recFacts_of (Bool.and_eq_true_iff.mp e).2) (by rfl) (by first | assumption | decide +kernel) (by decide +kernel) ⟨rfl, rfl, rfl, rfl, rfl, by decide +kernel⟩ ?hw ?hc
  case hw => w_witness2
  case hc =>
    exact P14.walkX P14.k_in (P14.walkW (l := PySem.Challenge.rw_tallyveil_k14_texts_of_no_numbers) (n := 63) (k := 10) (x := "_law_script") (K := P14.K) (CX := λ w => Tv.CXE PySem.Challenge.rw_tallyveil_k14_texts_of_no_numbers.prog w) (sp := λ w => Tv.Nu.a3j (P14.K w)) rfl (by decide) rfl ⟨rfl, by decide, by decide⟩ (λ _ _ Y => Y) (λ w mg fa h X G hfa => P14.use X G hfa) (λ _ _ a ns hl hsh _ hS => ⟨a, ns, rfl, hS, hsh, λ _ => rfl⟩) λ _ _ _ _ _ ⟨_, _, _, _, _, _, _, _, _, _, h⟩ => h)
#print axioms PySem.Challenge.cw_tallyveil_k14_texts_of_no_numbers_holds
