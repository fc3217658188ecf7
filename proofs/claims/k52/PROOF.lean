import PyProof.Rows.All
import Wide.All
import OpenK.AllK
import Wide.FinOn
import Lean
import PyProof.EqAt
import PyProof.EqKinds
import PyProof.TupleCall
import KE.KDictList
import KE.KIntText
import KE.KItemsList
import KE.KEqDict
import PySem.Challenge.RW_tallyveil_k52_whole_shown_is_true
set_option Elab.async false
set_option linter.all false
set_option maxRecDepth 100000
namespace L2
open PySem PySem.Spec PyProof.Rows
abbrev Key := Sum Int Str
def gR : Key -> Value -> Bool
  | .inl k, v => Value.isInt k v
  | .inr x, v => Value.isStrOf x v
def keyH (w : World) : Key -> Int
  | .inl k => hashInt k
  | .inr x => hashStr w x
theorem aG : ∀ {k : Key} {v : Value}, gR k v = true -> (∃ i t, k = Sum.inl i /\ v = Value.int i t) \/ (∃ x t, k = Sum.inr x /\ v = Value.str x t)
  | .inl i, v, h => by
    obtain ⟨t, e⟩ := Value.isInt_shape (k := i) (v := v) h
    exact .inl ⟨i, t, rfl, e⟩
  | .inr x, v, h => by
    obtain ⟨t, e⟩ := Value.isStrOf_shape (x := x) (v := v) h
    exact .inr ⟨x, t, rfl, e⟩
theorem oM (i : Int) (t : Tok) : gR (.inl i) (.int i t) = true := by simp [gR, Value.isInt]
theorem oN (x : Str) (t : Tok) : gR (.inr x) (.str x t) = true := by simp [gR, Value.isStrOf]
theorem key_ll (a b : Int) : decide ((Sum.inl a : Key) = Sum.inl b) = (a == b) := by
  by_cases e : a = b
  . subst e; simp
  . have h : ¬ (Sum.inl a : Key) = Sum.inl b := λ q => e (Sum.inl.inj q)
    rw [decide_eq_false h]
    exact (beq_eq_false_iff_ne.mpr e).symm
theorem key_rr (a b : Str) : decide ((Sum.inr a : Key) = Sum.inr b) = decide (a = b) := by
  by_cases e : a = b
  . subst e; simp
  . have h : ¬ (Sum.inr a : Key) = Sum.inr b := λ q => e (Sum.inr.inj q)
    rw [decide_eq_false h, decide_eq_false e]
theorem key_lr (a : Int) (b : Str) : decide ((Sum.inl a : Key) = Sum.inr b) = false := decide_eq_false (λ q => nomatch q)
theorem key_rl (a : Str) (b : Int) : decide ((Sum.inr a : Key) = Sum.inl b) = false := decide_eq_false (λ q => nomatch q)
def ao (prog : Program) (w : World) : PySem.KeyKind prog w Key where
  is := gR
  hash := keyH w
  inj := λ v a b ha hb => by
    rcases aG ha with ⟨i, t, rfl, rfl⟩ | ⟨x, t, rfl, rfl⟩
    . rcases aG hb with ⟨j, u, rfl, e⟩ | ⟨y, u, rfl, e⟩
      . injection e with e1 _; rw [e1]
      . exact nomatch e
    . rcases aG hb with ⟨j, u, rfl, e⟩ | ⟨y, u, rfl, e⟩
      . exact nomatch e
      . injection e with e1 _; rw [e1]
  byValue := λ k v h => by
    rcases aG h with ⟨i, t, rfl, rfl⟩ | ⟨x, t, rfl, rfl⟩ <;> rfl
  pyHash := λ hv h => by
    rcases aG hv with ⟨i, t, rfl, rfl⟩ | ⟨x, t, rfl, rfl⟩
    . exact wpAny_pyHash_int h
    . exact wpAny_pyHash_str h
  eqBool := λ hu hv h => by
    rcases aG hu with ⟨i, t, rfl, rfl⟩ | ⟨x, t, rfl, rfl⟩
    . rcases aG hv with ⟨j, u, rfl, rfl⟩ | ⟨y, u, rfl, rfl⟩
      . rw [key_ll] at h; exact wpAny_eqBool_int h
      . rw [key_lr] at h; exact SeqAt.EqAt.int_str i t y u _ _ _ _ h
    . rcases aG hv with ⟨j, u, rfl, rfl⟩ | ⟨y, u, rfl, rfl⟩
      . rw [key_rl] at h; exact SeqAt.EqAt.str_int x t j u _ _ _ _ h
      . rw [key_rr] at h; exact wpAny_eqBool_str h
  «strs» := λ k x t v h => by
    rcases aG h with ⟨i, u, rfl, e⟩ | ⟨y, u, rfl, e⟩
    . exact nomatch e
    . injection e with e1 _
      subst e1
      cases v <;> rfl
theorem kG (prog : Program) (w : World) (i : Int) (t : Tok) : (ao prog w).is (.inl i) (.int i t) = true := oM i t
theorem kH (prog : Program) (w : World) (x : Str) (t : Tok) : (ao prog w).is (.inr x) (.str x t) = true := oN x t
end L2
namespace L2
open PySem PySem.Spec PyProof.Rows
inductive V where
  | non | bl (b : Bool) | int (i : Int) | str (x : Str) | byt (b : Array UInt8) | flt (b : UInt64) | ref (a : Addr) | ty (n : String)
  deriving DecidableEq
def RelV : V -> Value -> Prop
  | .non, u => u = Value.none
  | .bl b, u => u = Value.bool b
  | .int i, u => ∃ t, u = Value.int i t
  | .str x, u => ∃ t, u = Value.str x t
  | .byt b, u => ∃ t, u = Value.bytes b t
  | .flt b, u => ∃ t, u = Value.float b t
  | .ref a, u => u = Value.ref a
  | .ty n, u => u = Value.type n
abbrev Vals : List V -> List Value -> Prop := Paired RelV
theorem Vals.length {xs : List V} {us : List Value} (r : Vals xs us) : xs.length = us.length := Paired.length r
theorem Vals.get : ∀ {xs : List V} {us : List Value} {i : Nat} {x : V}, Vals xs us -> xs[i]? = some x -> ∃ u, us[i]? = some u /\ RelV x u
  | _, _, _, _, .nil, e => by simp at e
  | _, _, 0, _, .cons r _, e => by simp at e; subst e; exact ⟨_, rfl, r⟩
  | _, _, i + 1, x, .cons _ t, e => by
    obtain ⟨u, h1, h2⟩ := Vals.get (i := i) (x := x) t (by simpa using e)
    exact ⟨u, by simpa using h1, h2⟩
theorem Vals.set {x : V} {u : Value} (r : RelV x u) : ∀ {xs : List V} {us : List Value} (i : Nat), Vals xs us -> Vals (xs.set i x) (us.set i u)
  | _, _, _, .nil => .nil
  | _, _, 0, .cons _ t => .cons r t
  | _, _, i + 1, .cons q t => .cons q (Vals.set r i t)
theorem Vals.append : ∀ {xs ys : List V} {us ws : List Value}, Vals xs us -> Vals ys ws -> Vals (xs ++ ys) (us ++ ws)
  | _, _, _, _, .nil, s => s
  | _, _, _, _, .cons r t, s => .cons r (Vals.append t s)
theorem Vals.take : ∀ {xs : List V} {us : List Value} (n : Nat), Vals xs us -> Vals (xs.take n) (us.take n)
  | _, _, 0, _ => .nil
  | _, _, _ + 1, .nil => .nil
  | _, _, n + 1, .cons r t => .cons r (Vals.take n t)
theorem Vals.drop : ∀ {xs : List V} {us : List Value} (n : Nat), Vals xs us -> Vals (xs.drop n) (us.drop n)
  | _, _, 0, r => r
  | _, _, _ + 1, .nil => .nil
  | _, _, n + 1, .cons _ t => Vals.drop n t
def RelO : Option V -> Option Value -> Prop
  | some v, some u => RelV v u
  | none, none => True
  | _, _ => False
def KV {κ : Type} : List (κ × V) -> List (κ × Value) -> Prop := Paired λ (p : κ × V) (q : κ × Value) => p.1 = q.1 /\ RelV p.2 q.2
def kV : Key -> V
  | .inl i => .int i
  | .inr x => .str x
inductive HO where
  | lst (xs : List V)
  | tup (xs : List V)
  | dK (kvs : List (Key × V)) | dT (kvs : List (List Key × V))
  | set (S : Int -> Bool) (n : Nat)
  | ins (C dx : Addr) (fs : List (Str × V))
  | own (x : Addr)
  | xd (fs : List (Str × V))
  | met (f x : Addr)
  | rng (lo hi : Int)
  | frz (o : Obj) (u : HO)
  | tbl (ps : Array Value)
  | ext (φ : Heap -> Prop)
abbrev Hp := Addr -> Option HO
def upd (H : Hp) (a : Addr) (o : HO) : Hp := λ b => if b = a then some o else H b
theorem a5 {H : Hp} {a : Addr} {o : HO} : upd H a o a = some o := by unfold upd; rw [if_pos rfl]
theorem a4 {H : Hp} {a b : Addr} {o : HO} (h : b ≠ a) : upd H a o b = H b := by unfold upd; rw [if_neg h]
theorem jG {H : Hp} {a : Addr} {o u : HO} : upd (upd H a o) a u = upd H a u := by
  funext b; unfold upd; split <;> rfl
theorem ne_of {H : Hp} {a b : Addr} {o u : HO} (h : H a = some o) (h' : H b = some u) (d : o ≠ u) : a ≠ b := by
  intro e; subst e; rw [h] at h'; exact d (Option.some.inj h')
theorem ai {H : Hp} {a b : Addr} {o : HO} (h : H a = some o) (h' : H b = none) : a ≠ b := by
  intro e; subst e; rw [h] at h'; cases h'
section
variable (P : Program) (w : World)
def ObjOk (H : Hp) (h : Heap) (a : Addr) : HO -> Prop
  | .lst xs => xs.length <= sizeLine /\ ∃ (its : List Value) (n : Nat), Vals xs its /\ h.get? a = some { cls := .type "list", data := .seq its.toArray n }
  | .tup xs => xs.length <= sizeLine /\ ∃ its : List Value, Vals xs its /\ IsTup h a its.toArray
  | .dK kvs => kvs.length <= sizeLine /\ (a == sysModules) = false /\ ∃ vs, KV kvs vs /\ h.DictOf (ao P w) a vs
  | .dT kvs => kvs.length <= sizeLine /\ (a == sysModules) = false /\ ∃ xs : List (List Key × Addr × Value),
      Paired (λ (p : List Key × V) (q : List Key × Addr × Value) => p.1 = q.1 /\ H q.2.1 = some (.tup (p.1.map kV)) /\ RelV p.2 q.2.2) kvs xs ∧
      ∃ o es ep, h.get? a = some o /\ o.ExactDict /\ o.data = .dict es ep /\ es.toList = xs.map (entryOfKey (tupleKind (ao P w))) /\ (xs.map (·.1)).Nodup
  | .set S n => h.SetOf (intKind P w) a S n
  | .ins C dx fs => H dx = some (.own a) /\ fs.length <= 1000 /\ dx ≠ a /\ h.get? a = some (PySem.W.instObj C dx) ∧
      ∃ mA, h.Ns1 dx mA /\ (∀ f, RelO (fs.lookup f) (mA f)) /\ PySem.Within mA (fs.map (·.1))
  | .own _ => ∃ o, h.get? a = some o
  | .xd fs => ∃ mA, h.Ns1 a mA /\ ∀ f, RelO (fs.lookup f) (mA f)
  | .rng lo hi => ∃ t u v, h.get? a = some { cls := .type "range", data := .fields #[.int lo t, .int hi u, .int 1 v] }
  | .frz o u => h.get? a = some o /\ ObjOk H h a u
  | .tbl ps => h.get? a = some { cls := .none, data := .fields ps }
  | .met f x => h.get? a = some (PySem.W.methodObj (.ref f) (.ref x))
  | .ext φ => φ h /\ (∃ o, h.get? a = some o) /\ ∀ h1 h2 : Heap, φ h1 -> (∀ o, h1.get? a = some o -> h2.get? a = some o) -> φ h2
def HOk (H : Hp) (h : Heap) : Prop := ∀ a o, H a = some o -> ObjOk P w H h a o
end
section
variable {P : Program} {w : World} {H H' : Hp} {h h' : Heap} {a : Addr} {o : HO}
theorem ObjOk.lt (x : ObjOk P w H h a o) : a < h.objs.size := by
  cases o with
  | lst xs => obtain ⟨_, _, _, _, e⟩ := x; exact Heap.lt_size e
  | tup xs => obtain ⟨_, _, _, p⟩ := x; exact p.lt
  | dK kvs => obtain ⟨_, _, _, _, o, _, _, e, _⟩ := x; exact Heap.lt_size e
  | dT kvs => obtain ⟨_, _, _, _, o, _, _, e, _⟩ := x; exact Heap.lt_size e
  | set S n => obtain ⟨o, _, _, _, e, _⟩ := x; exact Heap.lt_size e
  | ins C dx fs => obtain ⟨_, _, _, e, _⟩ := x; exact Heap.lt_size e
  | own y => obtain ⟨_, e⟩ := x; exact Heap.lt_size e
  | xd fs => obtain ⟨_, ⟨_, _, _, e, _⟩, _⟩ := x; exact Heap.lt_size e
  | rng lo hi => obtain ⟨_, _, _, e⟩ := x; exact Heap.lt_size e
  | frz ob u => obtain ⟨e, _⟩ := x; exact Heap.lt_size e
  | tbl ps => exact Heap.lt_size (show h.get? a = some _ from x)
  | met f y => exact Heap.lt_size (show h.get? a = some _ from x)
  | ext φ => obtain ⟨_, ⟨_, e⟩, _⟩ := x; exact Heap.lt_size e
theorem Paired.mapP {α β : Type} {F G : α -> β -> Prop} : ∀ {l₁ : List α} {l₂ : List β}, Paired F l₁ l₂ -> (∀ a b, F a b -> G a b) -> Paired G l₁ l₂
  | _, _, .nil, _ => .nil
  | _, _, .cons r t, f => .cons (f _ _ r) (Paired.mapP t f)
theorem ObjOk.stay (x : ObjOk P w H h a o) (k : ∀ b u, (b = a \/ H b = some (.own a)) -> h.get? b = some u -> h'.get? b = some u)
    (ho : ∀ b, H b = some (.own a) -> H' b = some (.own a)) (ht : ∀ b xs, H b = some (.tup xs) -> H' b = some (.tup xs)) : ObjOk P w H' h' a o := by
  induction o with
  | lst xs => obtain ⟨z, its, n, r, e⟩ := x; exact ⟨z, its, n, r, k _ _ (.inl rfl) e⟩
  | tup xs => obtain ⟨z, its, r, ob, e, c⟩ := x; exact ⟨z, its, r, ob, k _ _ (.inl rfl) e, c⟩
  | dK kvs => obtain ⟨z, y, vs, r, ob, es, ep, e, c⟩ := x; exact ⟨z, y, vs, r, ob, es, ep, k _ _ (.inl rfl) e, c⟩
  | dT kvs =>
    obtain ⟨z, y, xs, r, ob, es, ep, e, c⟩ := x
    exact ⟨z, y, xs, Paired.mapP r λ p q z => ⟨z.1, ht _ _ z.2.1, z.2.2⟩, ob, es, ep, k _ _ (.inl rfl) e, c⟩
  | set S n => obtain ⟨ob, es, ep, t, e, c⟩ := x; exact ⟨ob, es, ep, t, k _ _ (.inl rfl) e, c⟩
  | ins C dx fs =>
    obtain ⟨d, z, ne, e, mA, ⟨od, es, ep, e2, c⟩, r⟩ := x
    exact ⟨ho _ d, z, ne, k _ _ (.inl rfl) e, mA, ⟨od, es, ep, k _ _ (.inr d) e2, c⟩, r⟩
  | own y => obtain ⟨ob, e⟩ := x; exact ⟨ob, k _ _ (.inl rfl) e⟩
  | xd fs => obtain ⟨mA, ⟨od, es, ep, e, c⟩, r⟩ := x; exact ⟨mA, ⟨od, es, ep, k _ _ (.inl rfl) e, c⟩, r⟩
  | rng lo hi => obtain ⟨t, u, v, e⟩ := x; exact ⟨t, u, v, k _ _ (.inl rfl) e⟩
  | frz ob u ih => obtain ⟨e, q⟩ := x; exact ⟨k _ _ (.inl rfl) e, ih q⟩
  | tbl ps =>
    have e : h.get? a = some { cls := .none, data := .fields ps } := x
    show h'.get? a = some { cls := .none, data := .fields ps }
    exact k a _ (.inl rfl) e
  | met f y =>
    have e : h.get? a = some (PySem.W.methodObj (.ref f) (.ref y)) := x
    show h'.get? a = some (PySem.W.methodObj (.ref f) (.ref y))
    exact k a _ (.inl rfl) e
  | ext φ => obtain ⟨p, ⟨o, e⟩, st⟩ := x; exact ⟨st _ _ p λ o q => k _ _ (.inl rfl) q, ⟨o, k _ _ (.inl rfl) e⟩, st⟩
theorem HOk.lt (x : HOk P w H h) (e : H a = some o) : a < h.objs.size := (x a o e).lt
theorem HOk.fresh (x : HOk P w H h) (e : h.objs.size <= a) : H a = none := by
  cases q : H a with
  | none => rfl
  | some u => exact absurd (Nat.lt_of_lt_of_le (x.lt q) e) (Nat.lt_irrefl _)
theorem HOk.kept (x : HOk P w H h) (k : ∀ b u, h.get? b = some u -> h'.get? b = some u) : HOk P w H h' := λ a o e =>
  (x a o e).stay (λ b u _ q => k b u q) (λ _ q => q) λ _ _ q => q
theorem HOk.laid (x : HOk P w H h) (k : ∀ b u, h.get? b = some u -> h'.get? b = some u) (hp : h.objs.size <= a) (new : ObjOk P w (upd H a o) h' a o) : HOk P w (upd H a o) h' := λ b u e => by
  have hn := x.fresh hp
  by_cases hb : b = a
  . subst hb; rw [a5] at e; cases e; exact new
  . rw [a4 hb] at e
    exact (x b u e).stay (λ c v _ q => k c v q) (λ c q => by rw [a4 (ai q hn)]; exact q) λ c xs q => by rw [a4 (ai q hn)]; exact q
end
def Rd (H : Hp) (a : Addr) (u : HO) : Prop := H a = some u \/ ∃ o, H a = some (.frz o u)
theorem Rd.ok {P : Program} {w : World} {H : Hp} {h : Heap} {a : Addr} {u : HO} (r : Rd H a u) (x : HOk P w H h) : ObjOk P w H h a u := by
  rcases r with r | ⟨o, r⟩
  . exact x a u r
  . obtain ⟨_, q⟩ := x a _ r
    exact q
def Mut : Option HO -> Prop
  | some (.lst _) => True
  | some (.dK _) => True
  | some (.dT _) => True
  | some (.set _ _) => True
  | some (.ins _ _ _) => True
  | some (.ext _) => True
  | _ => False
section
variable {P : Program} {w : World} {H : Hp} {h h' : Heap} {x e : Addr} {o' : HO}
theorem HOk.write (ok : HOk P w H h) (mu : Mut (H x)) (he : e = x \/ H e = some (.own x)) (k : ∀ b u, b ≠ e -> h.get? b = some u -> h'.get? b = some u) (heo : ∃ u, h'.get? e = some u)
    (new : ObjOk P w (upd H x o') h' x o') : HOk P w (upd H x o') h' := λ b u q => by
  have nown : ∀ c y, H c = some (.own y) -> c ≠ x := λ c y r z => by subst z; rw [r] at mu; exact mu
  have ntup : ∀ c xs, H c = some (.tup xs) -> c ≠ x := λ c xs r z => by subst z; rw [r] at mu; exact mu
  by_cases hb : b = x
  . subst hb; rw [a5] at q; cases q; exact new
  . rw [a4 hb] at q
    by_cases hbe : b = e
    . have q' : H b = some (.own x) := by
        rcases he with z | z
        . exact absurd (hbe.trans z) hb
        . rw [hbe]; exact z
      rw [q] at q'; cases q'
      obtain ⟨v, hv⟩ := heo
      exact ⟨v, by rw [hbe]; exact hv⟩
    . refine (ok b u q).stay (λ c v hc r => k c v ?_ r) (λ c r => by rw [a4 (nown c b r)]; exact r) λ c xs r => by rw [a4 (ntup c xs r)]; exact r
      rcases hc with rfl | hc
      . exact hbe
      . rintro rfl
        rcases he with z | z
        . exact nown c b hc z
        . rw [hc] at z; cases z; exact hb rfl
end
structure Un (fs ex : List Addr) (H H' : Hp) (h h' : Heap) : Prop where
  keep : ∀ b o, h.get? b = some o -> H b = none -> b ∉ fs -> b ∉ ex -> h'.get? b = some o
  slot : ∀ b o, h.get? b = some o -> H b = none -> b ∈ fs -> b ∉ ex -> ∃ sl, h'.get? b = some { o with slots := sl }
  free : ∀ b o, h.get? b = some o -> H b = none -> b ∉ ex -> H' b = none
  there : ∀ b o, h.get? b = some o -> b ∉ ex -> ∃ o', h'.get? b = some o'
  tups : ∀ b xs, H b = some (.tup xs) -> H' b = some (.tup xs)
  frzs : ∀ b o u, H b = some (.frz o u) -> H' b = some (.frz o u)
  tbls : ∀ b ps, H b = some (.tbl ps) -> ∃ more, H' b = some (.tbl (ps ++ more))
section
variable {fs fs' ex ex' : List Addr} {H H1 H2 : Hp} {h h1 h2 h' : Heap} {a x e : Addr} {o : HO}
theorem Un.any (u : Un fs ex H H1 h h1) {b : Addr} {ob : Obj} (q : h.get? b = some ob) (n : H b = none) (hx : b ∉ ex) : ∃ sl, h1.get? b = some { ob with slots := sl } := by
  by_cases hb : b ∈ fs
  . exact u.slot b ob q n hb hx
  . exact ⟨ob.slots, u.keep b ob q n hb hx⟩
theorem Un.kept (k : ∀ b u, h.get? b = some u -> h'.get? b = some u) : Un fs ex H H h h' :=
  ⟨λ b ob q _ _ _ => k b ob q, λ b ob q _ _ _ => ⟨ob.slots, k b ob q⟩, λ _ _ _ n _ => n, λ b ob q _ => ⟨ob, k b ob q⟩, λ _ _ q => q, λ _ _ _ q => q, λ _ ps q => ⟨#[], by rw [q]; simp⟩⟩
theorem Un.refl : Un fs ex H H h h := Un.kept λ _ _ q => q
theorem Un.laid (k : ∀ b u, h.get? b = some u -> h'.get? b = some u) (hp : h.objs.size <= a) (hn : H a = none) : Un fs ex H (upd H a o) h h' where
  keep := λ b u q _ _ _ => k b u q
  slot := λ b u q _ _ _ => ⟨u.slots, k b u q⟩
  free := λ b u q n _ => by rw [a4 (Nat.ne_of_lt (Nat.lt_of_lt_of_le (Heap.lt_size q) hp))]; exact n
  there := λ b u q _ => ⟨u, k b u q⟩
  tups := λ b xs q => by rw [a4 (ai q hn)]; exact q
  frzs := λ b u xs q => by rw [a4 (ai q hn)]; exact q
  tbls := λ b ps q => ⟨#[], by rw [a4 (ai q hn), q]; simp⟩
theorem Un.write (mu : Mut (H x)) (he : e = x \/ H e = some (.own x)) (k : ∀ b u, b ≠ e -> h.get? b = some u -> h'.get? b = some u) (heo : ∃ u, h'.get? e = some u) : Un fs ex H (upd H x o) h h' := by
  have hx : ∀ b, H b = none -> b ≠ x := λ b n z => by subst z; rw [n] at mu; exact mu
  have hb : ∀ b, H b = none -> b ≠ e := λ b n z => by
    subst z
    rcases he with r | r
    . exact hx b n r
    . rw [n] at r; cases r
  have hm : ∀ b u, H b = some u -> ¬ Mut (some u) -> b ≠ x := λ b u q nm z => by subst z; rw [q] at mu; exact nm mu
  refine ⟨λ b u q n _ _ => k b u (hb b n) q, λ b u q n _ _ => ⟨u.slots, k b u (hb b n) q⟩, λ b u q n _ => by rw [a4 (hx b n)]; exact n, λ b u q _ => ?_,
    λ b xs q => by rw [a4 (hm b _ q λ z => z)]; exact q, λ b u xs q => by rw [a4 (hm b _ q λ z => z)]; exact q, λ b ps q => ⟨#[], by rw [a4 (hm b _ q λ z => z), q]; simp⟩⟩
  by_cases hbe : b = e
  . subst hbe; exact heo
  . exact ⟨u, k b u hbe q⟩
end
def trk (h : Heap) (H : Hp) : List Addr := (List.range h.objs.size).filter λ a => (H a).isSome
def jH (h : Heap) (H : Hp) : Heap := PySem.W.hideAll h (trk h H)
theorem oO (h : Heap) (H : Hp) : (jH h H).objs.size = h.objs.size := PySem.W.hideAll_size _ _
theorem hidT_get {h : Heap} {H : Hp} {b : Addr} {o : Obj} (e : h.get? b = some o) (n : H b = none) : (jH h H).get? b = some o :=
  PySem.W.hideAll_get _ e λ hm => by
    have q : (H b).isSome = true := (List.mem_filter.mp hm).2
    rw [n] at q; simp at q
theorem of_hidT {h : Heap} {H : Hp} {b : Addr} {o : Obj} (e : (jH h H).get? b = some o) : h.get? b = some o /\ H b = none := by
  have e' : h.get? b = some o := PySem.W.of_hideAll (trk h H) e
  refine ⟨e', ?_⟩
  cases q : H b with
  | none => rfl
  | some x =>
    have hm : b ∈ trk h H := List.mem_filter.mpr ⟨List.mem_range.mpr (Heap.lt_size e'), by simp [q]⟩
    have z : (jH h H).get? b = none := PySem.W.hideAll_none (trk h H) hm
    rw [z] at e; cases e
end L2
namespace L2
open PySem PySem.Spec PyProof.Rows
structure Mod (K : PySem.W.Frag) (mg : Str -> Option Value) (base : Heap) : Prop where
  kin : K.In base
  glob : base.Ns mainGlobals mg
  blt : ∃ mb, base.Ns builtinsNs mb /\ ∀ x : Str, x ≠ "__name__" -> mb x = bootBuiltins x
  nolimit : base.NoLimit
structure Cx where
  prog : Program
  w : World
  K : PySem.W.Frag
  mg : Str -> Option Value
  base : Heap
  A : Around
  N : List Str
  s₀ : Shared
  H₀ : Hp
  env : Env
  outer : List Env
  stack : List Env
  ex : List Addr
  fn : Str -> Bool
  calm : Bool
  pn : List (Addr × Obj)
  xe : Value -> Shared -> Prop
def frs (l : List Env) : List Addr := l.filterMap (·.frame)
abbrev Cx.fs (X : Cx) : List Addr := frs X.outer
def Vis (sc : Scope) (x : Str) : Prop := sc.names.lookup x = some .local \/ sc.names.lookup x = some .cell \/ sc.names.lookup x = some .free
def Loc (sc : Scope) (x : Str) : Prop := sc.names.lookup x = some .local \/ sc.names.lookup x = some .cell
def Look (env : Env) (h : Heap) (m : Str -> Option Value) (x : Str) (u : Value) : Prop :=
  (env.kindOf x = some .local /\ m x = some u) \/ ((env.kindOf x = some .cell \/ env.kindOf x = some .free) /\ ∃ c, env.cells.lookup x = some c /\ h.IsCell c (some u))
structure Cx.Ok (X : Cx) : Prop where
  mod : Mod X.K X.mg X.base
  kind : X.env.scope.kind = .function
  glob : X.env.globals = mainGlobals
  blt : X.env.builtins = builtinsNs
  above : X.s₀.heap.objs.size <= X.env.locals
  inj : ∀ x y c, X.env.cells.lookup x = some c -> X.env.cells.lookup y = some c -> x = y
  has : ∀ x, (X.env.kindOf x = some .cell \/ X.env.kindOf x = some .free) -> ∃ c, X.env.cells.lookup x = some c
  cab : ∀ x c, X.fn x = true -> X.env.cells.lookup x = some c -> X.s₀.heap.objs.size <= c
  hd : X.calm = true -> X.A.handled = none
  frames : X.A.frames = some X.stack
  stk : X.stack = X.outer \/ (X.stack = X.env :: X.outer /\ X.env.frame = some X.env.locals)
  exf : ∀ b ∈ X.ex, b ≠ X.env.locals /\ ∀ x c, X.env.cells.lookup x = some c -> c ≠ b
  bs : ∀ b o, X.base.get? b = some o -> X.s₀.heap.get? b = some o /\ X.H₀ b = none
  bsz : X.base.objs.size <= X.s₀.heap.objs.size
  noex : ∀ b o, X.base.get? b = some o -> b ∉ X.ex
  exfs : ∀ b ∈ X.ex, b ∉ X.fs
  funs : X.s₀.heap.FunFrames X.base X.outer
  frf : ∀ b ∈ X.fs, X.H₀ b = none
structure Inv (X : Cx) (pins : List (Addr × Obj)) (σ : List (Option V)) (H : Hp) (s : Shared) : Prop where
  ok : X.Ok
  os : s.os = X.s₀.os
  bare : AllBare s.gens
  base : Un X.fs X.ex X.H₀ H X.s₀.heap s.heap
  loc : ∃ m, s.heap.Ns X.env.locals m /\ ∀ (i : Nat) (x : Str) (v : V), X.N[i]? = some x -> σ[i]? = some (some v) -> Vis X.env.scope x -> ∃ u, RelV v u /\ Look X.env s.heap m x u
  cell : ∀ x c, X.env.cells.lookup x = some c -> ∃ v, s.heap.IsCell c v
  free : H X.env.locals = none
  freeC : ∀ x c, X.env.cells.lookup x = some c -> H c = none
  pin : ∀ p ∈ X.pn ++ pins, s.heap.get? p.1 = some p.2 /\ H p.1 = none /\ p.1 ≠ X.env.locals /\ p.1 ∉ X.fs /\ ∀ v, p.2.data ≠ .cell v
  hok : HOk X.prog X.w H s.heap
  len : σ.length = X.N.length
section
variable {X : Cx} {pins : List (Addr × Obj)} {σ : List (Option V)} {H H' : Hp} {s : Shared} {h' : Heap}
theorem Cx.Ok.nofr (ok : X.Ok) {b : Addr} {o : Obj} (e : X.base.get? b = some o) : b ∉ X.fs := λ hb => by
  have := (ok.funs.mem hb).1
  rw [e] at this; cases this
theorem Inv.bs (I : Inv X pins σ H s) : ∀ b o, X.base.get? b = some o -> s.heap.get? b = some o /\ H b = none := λ b o e =>
  ⟨I.base.keep b o (I.ok.bs b o e).1 (I.ok.bs b o e).2 (I.ok.nofr e) (I.ok.noex b o e), I.base.free b o (I.ok.bs b o e).1 (I.ok.bs b o e).2 (I.ok.noex b o e)⟩
theorem Inv.bk (I : Inv X pins σ H s) : ∀ b o, X.base.get? b = some o -> s.heap.get? b = some o := λ b o e => (I.bs b o e).1
theorem Inv.mod (I : Inv X pins σ H s) : Mod X.K X.mg X.base := I.ok.mod
theorem Inv.kIn (I : Inv X pins σ H s) : X.K.In s.heap := I.ok.mod.kin.keeps I.bk
theorem Inv.lt (I : Inv X pins σ H s) : X.env.locals < s.heap.objs.size := let ⟨_, hn, _⟩ := I.loc; hn.lt
theorem Inv.sz (I : Inv X pins σ H s) : X.s₀.heap.objs.size <= s.heap.objs.size := Nat.le_trans I.ok.above (Nat.le_of_lt I.lt)
theorem Inv.nofs (I : Inv X pins σ H s) {a : Addr} (h : s.heap.objs.size <= a) : a ∉ X.fs := λ hb => by
  obtain ⟨_, o, ho, _⟩ := I.ok.funs.mem hb
  exact absurd (Nat.lt_of_lt_of_le (Heap.lt_size ho) (Nat.le_trans I.sz h)) (Nat.lt_irrefl _)
theorem Inv.cne (I : Inv X pins σ H s) : ∀ x c, X.env.cells.lookup x = some c -> c ≠ X.env.locals := λ x c e z => by
  obtain ⟨v, o, ho, hd⟩ := I.cell x c e
  obtain ⟨m, ⟨o', es, ep, ho', hd', _⟩, _⟩ := I.loc
  rw [z, ho'] at ho; cases ho; rw [hd'] at hd; cases hd
theorem Inv.funs (I : Inv X pins σ H s) : s.heap.FunFrames X.base X.outer := by
  have all : ∀ (l : List Env), (∀ b ∈ frs l, b ∈ X.fs) -> X.s₀.heap.FunFrames X.base l -> s.heap.FunFrames X.base l := by
    intro l
    induction l with
    | nil => intro _ _; trivial
    | cons env r ih =>
      intro hs hl
      obtain ⟨hk, ⟨L, o, hf, hn, ho, hd⟩, hr⟩ := hl
      have hL : L ∈ X.fs := hs L (by unfold frs; rw [List.filterMap_cons, hf]; exact List.mem_cons_self)
      obtain ⟨sl, e⟩ := I.base.slot L o ho (I.ok.frf L hL) hL λ z => I.ok.exfs L z hL
      exact ⟨hk, ⟨L, _, hf, hn, e, hd⟩, ih (λ b hb => hs b (by unfold frs; rw [List.filterMap_cons, hf]; exact List.mem_cons_of_mem _ hb)) hr⟩
  exact all X.outer (λ _ hb => hb) I.ok.funs
theorem Inv.stack (I : Inv X pins σ H s) : s.heap.FunFrames X.base X.stack := by
  rcases I.ok.stk with e | ⟨e, hf⟩
  . rw [e]; exact I.funs
  . rw [e]
    obtain ⟨m, hn, _⟩ := I.loc
    refine .cons (by rw [I.ok.kind]; decide) hf hn ?_ I.funs
    exact Heap.get?_none_of_le (Nat.le_trans I.ok.bsz I.ok.above)
theorem Inv.stkSub (I : Inv X pins σ H s) : ∀ b ∈ frs X.stack, b ∈ X.env.locals :: X.fs := λ b hb => by
  rcases I.ok.stk with e | ⟨e, hf⟩
  . rw [e] at hb; exact List.mem_cons_of_mem _ hb
  . rw [e] at hb
    unfold frs at hb
    rw [List.filterMap_cons, hf] at hb
    exact hb
theorem Inv.stkFree (I : Inv X pins σ H s) : ∀ b ∈ frs X.stack, H b = none := λ b hb => by
  rcases List.mem_cons.mp (I.stkSub b hb) with e | hb
  . rw [e]; exact I.free
  . obtain ⟨_, o, ho, _⟩ := I.ok.funs.mem hb
    exact I.base.free b o ho (I.ok.frf b hb) λ z => I.ok.exfs b z hb
theorem Inv.step {g' : Array GenState} {t' : Nat} {d' : Drawn} {ch : List Addr} (I : Inv X pins σ H s)
    (hch : ∀ b ∈ ch, (b ∈ X.ex \/ X.s₀.heap.objs.size <= b) /\ b ≠ X.env.locals /\ (∀ x c, X.env.cells.lookup x = some c -> c ≠ b) /\ ∀ p ∈ X.pn ++ pins, p.1 ≠ b)
    (keep : ∀ b o, b ≠ X.env.locals -> b ∉ X.fs -> b ∉ ch -> s.heap.get? b = some o -> H b = none -> h'.get? b = some o)
    (slot : ∀ b o, b ≠ X.env.locals -> b ∈ X.fs -> b ∉ ch -> s.heap.get? b = some o -> H b = none -> ∃ sl, h'.get? b = some { o with slots := sl }) (free : ∀ b o, b ∉ ch -> s.heap.get? b = some o -> H b = none -> H' b = none)
    (there : ∀ b o, b ∉ ch -> s.heap.get? b = some o -> ∃ o', h'.get? b = some o')
    (tups : ∀ b xs, H b = some (.tup xs) -> H' b = some (.tup xs)) (frzs : ∀ b o u, H b = some (.frz o u) -> H' b = some (.frz o u)) (tbls : ∀ b ps, H b = some (.tbl ps) -> ∃ more, H' b = some (.tbl (ps ++ more)))
    (ns : ∀ m, s.heap.Ns X.env.locals m -> h'.Ns X.env.locals m) (hok : HOk X.prog X.w H' h') (hg : AllBare g') :
    Inv X pins σ H' { s with heap := h', gens := g', drawn := d', toks := t' } := by
  have neL : ∀ b o, X.s₀.heap.get? b = some o -> b ≠ X.env.locals := λ b o e => Nat.ne_of_lt (Nat.lt_of_lt_of_le (Heap.lt_size e) I.ok.above)
  have neC : ∀ b o, X.s₀.heap.get? b = some o -> b ∉ X.ex -> b ∉ ch := λ b o e hx hb => by
    rcases (hch b hb).1 with z | z
    . exact hx z
    . exact absurd (Nat.lt_of_lt_of_le (Heap.lt_size e) z) (Nat.lt_irrefl _)
  have cellK : ∀ x c, X.env.cells.lookup x = some c -> ∀ v, s.heap.IsCell c v -> h'.IsCell c v := λ x c e v ⟨o, ho, hd⟩ => by
    have nch : c ∉ ch := λ z => (hch c z).2.2.1 x c e rfl
    by_cases hc : c ∈ X.fs
    . obtain ⟨sl, q⟩ := slot c o (I.cne x c e) hc nch ho (I.freeC x c e)
      exact ⟨_, q, hd⟩
    . exact ⟨o, keep c o (I.cne x c e) hc nch ho (I.freeC x c e), hd⟩
  refine ⟨I.ok, I.os, hg, ⟨λ b o e n hb hx => ?_, λ b o e n hb hx => ?_, λ b o e n hx => ?_, λ b o e hx => ?_, λ b xs e => tups b xs (I.base.tups b xs e), λ b o xs e => frzs b o xs (I.base.frzs b o xs e), λ b ps e => ?_⟩, ?_, λ x c e => ?_, ?_, λ x c e => ?_, λ p hp => ?_, hok, I.len⟩
  . exact keep b o (neL b o e) hb (neC b o e hx) (I.base.keep b o e n hb hx) (I.base.free b o e n hx)
  . obtain ⟨sl, e1⟩ := I.base.slot b o e n hb hx
    obtain ⟨sl', e2⟩ := slot b _ (neL b o e) hb (neC b o e hx) e1 (I.base.free b o e n hx)
    exact ⟨sl', e2⟩
  . obtain ⟨o', e1⟩ := I.base.there b o e hx
    exact free b o' (neC b o e hx) e1 (I.base.free b o e n hx)
  . obtain ⟨o', e1⟩ := I.base.there b o e hx
    exact there b o' (neC b o e hx) e1
  . obtain ⟨m1, e1⟩ := I.base.tbls b ps e
    obtain ⟨m2, e2⟩ := tbls b _ e1
    exact ⟨m1 ++ m2, by rw [e2, Array.append_assoc]⟩
  . obtain ⟨m, hn, hl⟩ := I.loc
    refine ⟨m, ns m hn, λ i x v e1 e2 e3 => ?_⟩
    obtain ⟨u, r, l⟩ := hl i x v e1 e2 e3
    refine ⟨u, r, ?_⟩
    rcases l with l | ⟨k, c, e, z⟩
    . exact .inl l
    . exact .inr ⟨k, c, e, cellK x c e _ z⟩
  . obtain ⟨v, z⟩ := I.cell x c e
    exact ⟨v, cellK x c e v z⟩
  . obtain ⟨m, ⟨o, _, _, ho, _⟩, _⟩ := I.loc
    exact free _ o (λ z => (hch _ z).2.1 rfl) ho I.free
  . obtain ⟨v, o, ho, hd⟩ := I.cell x c e
    exact free c o (λ z => (hch c z).2.2.1 x c e rfl) ho (I.freeC x c e)
  . obtain ⟨e, n, ne, nf, d⟩ := I.pin p hp
    have nch : p.1 ∉ ch := λ z => (hch p.1 z).2.2.2 p hp rfl
    exact ⟨keep p.1 p.2 ne nf nch e n, free p.1 p.2 nch e n, ne, nf, d⟩
theorem Inv.un {t' : Nat} (I : Inv X pins σ H s) (u : Un X.fs [] H H' s.heap h') (hok : HOk X.prog X.w H' h') : Inv X pins σ H' { s with heap := h', toks := t' } := by
  obtain ⟨m, ⟨o, es, ep, ho, r⟩, _⟩ := id I.loc
  obtain ⟨sl, hL⟩ := u.any ho I.free (by simp)
  exact I.step (g' := s.gens) (d' := s.drawn) (ch := []) (λ _ z => nomatch z) (λ b o _ hb _ e n => u.keep b o e n hb (by simp)) (λ b o _ hb _ e n => u.slot b o e n hb (by simp)) (λ b o _ e n => u.free b o e n (by simp)) (λ b o _ e => u.there b o e (by simp)) u.tups u.frzs u.tbls (λ m' hm => by
    obtain ⟨o', es', ep', ho', r'⟩ := hm
    rw [ho] at ho'; cases ho'
    exact ⟨_, es', ep', hL, r'⟩) hok I.bare
theorem Inv.call {g' : Array GenState} {t' : Nat} {d' : Drawn} {ch : List Addr} (I : Inv X pins σ H s) (u : Un (frs X.stack) ch H H' s.heap h') (hok : HOk X.prog X.w H' h') (hg : AllBare g')
    (hch : ∀ b ∈ ch, (b ∈ X.ex \/ X.s₀.heap.objs.size <= b) /\ b ≠ X.env.locals /\ (∀ x c, X.env.cells.lookup x = some c -> c ≠ b) /\ ∀ p ∈ X.pn ++ pins, p.1 ≠ b) :
    Inv X pins σ H' { s with heap := h', gens := g', drawn := d', toks := t' } := by
  obtain ⟨m, ⟨o, es, ep, ho, r⟩, _⟩ := id I.loc
  obtain ⟨sl, hL⟩ := u.any ho I.free λ z => (hch _ z).2.1 rfl
  exact I.step (ch := ch) hch (λ b o hL hb hc e n => u.keep b o e n (λ z => (List.mem_cons.mp (I.stkSub b z)).elim hL hb) hc) (λ b o _ _ hc e n => u.any e n hc) (λ b o hc e n => u.free b o e n hc) (λ b o hc e => u.there b o e hc) u.tups u.frzs u.tbls (λ m' hm => by
    obtain ⟨o', es', ep', ho', r'⟩ := hm
    rw [ho] at ho'; cases ho'
    exact ⟨_, es', ep', hL, r'⟩) hok hg
theorem Inv.turned {t' : Nat} {it : Addr} (I : Inv X pins σ H s) (k : ∀ b o, b ≠ it -> s.heap.get? b = some o -> h'.get? b = some o) (hn : H it = none) (hL : it ≠ X.env.locals)
    (h1 : it ∈ X.ex \/ X.s₀.heap.objs.size <= it) (h2 : ∀ x c, X.env.cells.lookup x = some c -> c ≠ it) (h3 : ∀ p ∈ X.pn ++ pins, p.1 ≠ it) : Inv X pins σ H { s with heap := h', toks := t' } := by
  have nit : ∀ b u, H b = some u -> b ≠ it := λ b u e z => by rw [z, hn] at e; cases e
  refine I.step (g' := s.gens) (d' := s.drawn) (ch := [it]) (λ b hb => ?_) (λ b o _ _ hc e _ => k b o (λ z => hc (by simp [z])) e) (λ b o _ _ hc e _ => ⟨o.slots, k b o (λ z => hc (by simp [z])) e⟩) (λ _ _ _ _ n => n)
    (λ b o hc e => ⟨o, k b o (λ z => hc (by simp [z])) e⟩) (λ _ _ e => e) (λ _ _ _ e => e) (λ b ps e => ⟨#[], by rw [e]; simp⟩) (λ m hm => ?_) (λ b u e => ?_) I.bare
  . have e : b = it := by simpa using hb
    subst e
    exact ⟨h1, hL, h2, h3⟩
  . obtain ⟨o, es, ep, ho, r⟩ := hm
    exact ⟨o, es, ep, k _ o (Ne.symm hL) ho, r⟩
  . refine (I.hok b u e).stay (λ c v hc q => k c v ?_ q) (λ _ q => q) λ _ _ q => q
    rcases hc with z | z
    . rw [z]; exact nit b u e
    . exact nit c _ z
theorem Inv.tok (I : Inv X pins σ H s) (t : Nat) : Inv X pins σ H { s with toks := t } := I.un (h' := s.heap) (t' := t) Un.refl I.hok
theorem Inv.kept {t' : Nat} (I : Inv X pins σ H s) (k : ∀ b u, s.heap.get? b = some u -> h'.get? b = some u) : Inv X pins σ H { s with heap := h', toks := t' } := I.un (Un.kept k) (I.hok.kept k)
theorem Inv.laid {a : Addr} {o : HO} {t' : Nat} (I : Inv X pins σ H s) (k : ∀ b u, s.heap.get? b = some u -> h'.get? b = some u) (hp : s.heap.objs.size <= a) (new : ObjOk X.prog X.w (upd H a o) h' a o) :
    Inv X pins σ (upd H a o) { s with heap := h', toks := t' } := I.un (Un.laid k hp (I.hok.fresh hp)) (I.hok.laid k hp new)
theorem Inv.write {x e : Addr} {o : HO} {t' : Nat} (I : Inv X pins σ H s) (mu : Mut (H x)) (he : e = x \/ H e = some (.own x)) (k : ∀ b u, b ≠ e -> s.heap.get? b = some u -> h'.get? b = some u) (heo : ∃ u, h'.get? e = some u)
    (new : ObjOk X.prog X.w (upd H x o) h' x o) : Inv X pins σ (upd H x o) { s with heap := h', toks := t' } := I.un (Un.write mu he k heo) (I.hok.write mu he k heo new)
theorem Inv.weak {σ' : List (Option V)} (I : Inv X pins σ H s) (hl : σ'.length = σ.length) (w : ∀ (i : Nat) v, σ'[i]? = some (some v) -> σ[i]? = some (some v)) : Inv X pins σ' H s :=
  ⟨I.ok, I.os, I.bare, I.base, let ⟨m, hn, hl'⟩ := I.loc; ⟨m, hn, λ i x v e1 e2 e3 => hl' i x v e1 (w i v e2) e3⟩, I.cell, I.free, I.freeC, I.pin, I.hok, hl.trans I.len⟩
theorem Inv.pins_of {pins' : List (Addr × Obj)} (I : Inv X pins σ H s) (h : ∀ p ∈ pins', s.heap.get? p.1 = some p.2 /\ H p.1 = none /\ p.1 ≠ X.env.locals /\ p.1 ∉ X.fs /\ ∀ v, p.2.data ≠ .cell v) : Inv X pins' σ H s :=
  ⟨I.ok, I.os, I.bare, I.base, I.loc, I.cell, I.free, I.freeC, λ p hp => (List.mem_append.mp hp).elim (λ z => I.pin p (List.mem_append_left _ z)) (h p), I.hok, I.len⟩
theorem kI {N : List Str} (hN : N.Nodup) {i j : Nat} {x : Str} (a : N[i]? = some x) (b : N[j]? = some x) : i = j := by
  obtain ⟨h1, e1⟩ := List.getElem?_eq_some_iff.mp a
  obtain ⟨h2, e2⟩ := List.getElem?_eq_some_iff.mp b
  exact (List.getElem_inj hN).mp (e1.trans e2.symm)
theorem j8 {M : Model} {A : Around} {E : Value -> Shared -> Prop} {i : Nat} {x : Str} {v : V} {u : Value} {Q : Unit -> Shared -> Prop} (I : Inv X pins σ H s) (hN : X.N.Nodup) (hi : X.N[i]? = some x) (hx : Loc X.env.scope x) (r : RelV v u)
    (h : ∀ s', Inv X pins (σ.set i (some v)) H s' -> (∃ a, Heap.SameBut a s.heap s'.heap /\ (a = X.env.locals \/ X.env.cells.lookup x = some a)) -> Q () s') (hf : X.fn x = true \/ X.env.scope.names.lookup x = some .local := by first | exact .inl rfl | exact .inr rfl | assumption) : wpAny M A (storeName X.env x u) Q E s := by
  obtain ⟨m, hn, hl⟩ := id I.loc
  have hcls : (X.env.scope.kind == .class || (X.env.scope.kind == .module && X.env.locals != X.env.globals)) = false := by rw [I.ok.kind]; rfl
  have hiσ : i < σ.length := by rw [I.len]; exact (List.getElem?_eq_some_iff.mp hi).1
  have cne := I.cne
  have tracked : ∀ {a : Addr} {h' : Heap}, (∃ o, s.heap.get? a = some o /\ H a = none) -> Heap.SameBut a s.heap h' -> HOk X.prog X.w H h' := λ {a h'} ha hs b ob e => by
    obtain ⟨_, _, hfree⟩ := ha
    refine (I.hok b ob e).stay (λ c w' hc q => (hs.2 c ?_).trans q) (λ _ q => q) λ _ _ q => q
    rintro rfl
    rcases hc with rfl | hc
    . rw [hfree] at e; cases e
    . rw [hfree] at hc; cases hc
  rcases hx with hk | hk
  . refine wpAny_storeName_local hk hn (λ h' hn' hs => ?_) hcls
    obtain ⟨oL, _, _, hoL, _⟩ := id hn
    refine h _ ⟨I.ok, I.os, I.bare, ⟨λ b o e n hb hx => ?_, λ b o e n hb hx => ?_, I.base.free, λ b o e hx => ?_, I.base.tups, I.base.frzs, I.base.tbls⟩, ⟨_, hn', λ j y v' e1 e2 e3 => ?_⟩, λ y c e => ?_, I.free, I.freeC, λ p hp => ?_, tracked ⟨oL, hoL, I.free⟩ hs, by simpa using I.len⟩ ⟨_, hs, .inl rfl⟩
    . exact (hs.2 b (Nat.ne_of_lt (Nat.lt_of_lt_of_le (Heap.lt_size e) I.ok.above))).trans (I.base.keep b o e n hb hx)
    . obtain ⟨sl, e1⟩ := I.base.slot b o e n hb hx
      exact ⟨sl, (hs.2 b (Nat.ne_of_lt (Nat.lt_of_lt_of_le (Heap.lt_size e) I.ok.above))).trans e1⟩
    . obtain ⟨o', e1⟩ := I.base.there b o e hx
      exact ⟨o', (hs.2 b (Nat.ne_of_lt (Nat.lt_of_lt_of_le (Heap.lt_size e) I.ok.above))).trans e1⟩
    . by_cases hj : j = i
      . subst hj
        rw [hi] at e1; cases e1
        rw [List.getElem?_set_self hiσ] at e2
        cases e2
        exact ⟨u, r, .inl ⟨hk, by simp⟩⟩
      . rw [List.getElem?_set_ne (Ne.symm hj)] at e2
        obtain ⟨u', r', q⟩ := hl j y v' e1 e2 e3
        refine ⟨u', r', ?_⟩
        rcases q with ⟨k, e⟩ | ⟨k, c, e, z⟩
        . refine .inl ⟨k, ?_⟩
          have : y ≠ x := λ e => hj (kI hN e1 (e ▸ hi))
          simp [this, e]
        . exact .inr ⟨k, c, e, z.sameBut hs (cne y c e)⟩
    . obtain ⟨w', z⟩ := I.cell y c e
      exact ⟨w', z.sameBut hs (cne y c e)⟩
    . obtain ⟨e, n, ne, nf, d⟩ := I.pin p hp
      exact ⟨(hs.2 p.1 ne).trans e, n, ne, nf, d⟩
  . have hfn : X.fn x = true := by
      rcases hf with z | z
      . exact z
      . rw [z] at hk; cases hk
    obtain ⟨c, hc⟩ := I.ok.has x (.inl hk)
    obtain ⟨w', z⟩ := I.cell x c hc
    refine wpAny_storeName_cell I.ok.kind hk hc z (λ h' hc' hs => ?_)
    obtain ⟨oc, hoc, hocd⟩ := id z
    refine h { s with heap := h' } ⟨I.ok, I.os, I.bare, ⟨λ b o e n hb hx => ?_, λ b o e n hb hx => ?_, I.base.free, λ b o e hx => ?_, I.base.tups, I.base.frzs, I.base.tbls⟩, ⟨m, hn.sameBut hs (Ne.symm (cne x c hc)), λ j y v' e1 e2 e3 => ?_⟩, λ y c' e => ?_, I.free, I.freeC, λ p hp => ?_, tracked ⟨oc, hoc, I.freeC x c hc⟩ hs, by simpa using I.len⟩ ⟨c, hs, .inr hc⟩
    . exact (hs.2 b (Nat.ne_of_lt (Nat.lt_of_lt_of_le (Heap.lt_size e) (I.ok.cab x c hfn hc)))).trans (I.base.keep b o e n hb hx)
    . obtain ⟨sl, e1⟩ := I.base.slot b o e n hb hx
      exact ⟨sl, (hs.2 b (Nat.ne_of_lt (Nat.lt_of_lt_of_le (Heap.lt_size e) (I.ok.cab x c hfn hc)))).trans e1⟩
    . obtain ⟨o', e1⟩ := I.base.there b o e hx
      exact ⟨o', (hs.2 b (Nat.ne_of_lt (Nat.lt_of_lt_of_le (Heap.lt_size e) (I.ok.cab x c hfn hc)))).trans e1⟩
    . by_cases hj : j = i
      . subst hj
        rw [hi] at e1; cases e1
        rw [List.getElem?_set_self hiσ] at e2
        cases e2
        exact ⟨u, r, .inr ⟨.inl hk, c, hc, hc'⟩⟩
      . rw [List.getElem?_set_ne (Ne.symm hj)] at e2
        obtain ⟨u', r', q⟩ := hl j y v' e1 e2 e3
        refine ⟨u', r', ?_⟩
        rcases q with q | ⟨k, c', e, z'⟩
        . exact .inl q
        . refine .inr ⟨k, c', e, z'.sameBut hs ?_⟩
          rintro rfl
          exact hj (kI hN e1 (I.ok.inj _ _ _ e hc ▸ hi))
    . by_cases hcc : c' = c
      . subst hcc; exact ⟨_, hc'⟩
      . obtain ⟨w2, z2⟩ := I.cell y c' e
        exact ⟨w2, z2.sameBut hs hcc⟩
    . obtain ⟨e, n, ne, nf, d⟩ := I.pin p hp
      refine ⟨(hs.2 p.1 ?_).trans e, n, ne, nf, d⟩
      intro q
      rw [q, hoc] at e
      have q' : oc = p.2 := Option.some.inj e
      exact d w' (by rw [<- q']; exact hocd)
theorem gS {M : Model} {A : Around} {E : Value -> Shared -> Prop} {i : Nat} {x : Str} {v : V} {u : Value} {Q : Unit -> Shared -> Prop} (I : Inv X pins σ H s) (hN : X.N.Nodup) (hi : X.N[i]? = some x) (hx : Loc X.env.scope x) (r : RelV v u)
    (h : ∀ s', Inv X pins (σ.set i (some v)) H s' -> Q () s') (hf : X.fn x = true \/ X.env.scope.names.lookup x = some .local := by first | exact .inl rfl | exact .inr rfl | assumption) : wpAny M A (storeName X.env x u) Q E s :=
  j8 I hN hi hx r (λ s' I' _ => h s' I') hf
theorem Inv.call' {s' : Shared} {ch : List Addr} (I : Inv X pins σ H s) (ho : s'.os = s.os) (u : Un (frs X.stack) ch H H' s.heap s'.heap) (hok : HOk X.prog X.w H' s'.heap) (hg : AllBare s'.gens)
    (hch : ∀ b ∈ ch, (b ∈ X.ex \/ X.s₀.heap.objs.size <= b) /\ b ≠ X.env.locals /\ (∀ x c, X.env.cells.lookup x = some c -> c ≠ b) /\ ∀ p ∈ X.pn ++ pins, p.1 ≠ b) : Inv X pins σ H' s' := by
  obtain ⟨h', g', d', t', o'⟩ := s'
  have e : o' = s.os := ho
  subst e
  exact I.call (g' := g') (t' := t') (d' := d') u hok hg hch
end
abbrev XK := Value -> Option Addr -> Hp -> Prop
abbrev St := List (Option V)
abbrev VK := V -> Hp -> Prop
abbrev TE := St -> Hp -> VK -> Prop
abbrev TT := St -> Hp -> (Bool -> Hp -> Prop) -> Prop
abbrev TA := St -> Hp -> (List V -> Hp -> Prop) -> Prop
structure Ends where
  nx : St -> Hp -> Prop
  rt : VK
  bk : St -> Hp -> Prop := λ _ _ => False
  ct : St -> Hp -> Prop := λ _ _ => False
abbrev TS := Ends -> St -> Hp -> Prop
def EP (X : Cx) (pins : List (Addr × Obj)) (σ : St) (Q : VK) (u : Value) (s' : Shared) : Prop := ∃ v H', Inv X pins σ H' s' /\ RelV v u /\ Q v H'
def TP (X : Cx) (pins : List (Addr × Obj)) (σ : St) (Q : Bool -> Hp -> Prop) (b : Bool) (s' : Shared) : Prop := ∃ H', Inv X pins σ H' s' /\ Q b H'
def AP (X : Cx) (pins : List (Addr × Obj)) (σ : St) (Q : List V -> Hp -> Prop) (us : List Value) (s' : Shared) : Prop := ∃ vs H', Inv X pins σ H' s' /\ Vals vs us /\ Q vs H'
def SP (X : Cx) (pins : List (Addr × Obj)) (D : Ends) (f : Flow) (s' : Shared) : Prop :=
  match f with
  | .next => ∃ σ' H', Inv X pins σ' H' s' /\ D.nx σ' H'
  | .brk => ∃ σ' H', Inv X pins σ' H' s' /\ D.bk σ' H'
  | .cont => ∃ σ' H', Inv X pins σ' H' s' /\ D.ct σ' H'
  | .ret u => ∃ v σ' H', Inv X pins σ' H' s' /\ RelV v u /\ D.rt v H'
def PE (X : Cx) (e : Expr) (t : TE) : Prop :=
  ∀ (pins : List (Addr × Obj)) (s : Shared) (σ : St) (H : Hp) (Q : VK), Inv X pins σ H s -> t σ H Q -> wpAny (model X.prog X.w) X.A (eval e X.env) (EP X pins σ Q) X.xe s
def PT (X : Cx) (e : Expr) (t : TT) : Prop :=
  ∀ (pins : List (Addr × Obj)) (s : Shared) (σ : St) (H : Hp) (Q : Bool -> Hp -> Prop), Inv X pins σ H s -> t σ H Q -> wpAny (model X.prog X.w) X.A (isTrue e X.env (eval e X.env)) (TP X pins σ Q) X.xe s
def PW (X : Cx) (e : Expr) (t : TT) : Prop :=
  ∀ (whole : Sem Value) (pins : List (Addr × Obj)) (s : Shared) (σ : St) (H : Hp) (Q : Bool -> Hp -> Prop), Inv X pins σ H s -> t σ H Q -> wpAny (model X.prog X.w) X.A (isTrue e X.env whole) (TP X pins σ Q) X.xe s
theorem PW.pt {X : Cx} {e : Expr} {t : TT} (h : PW X e t) : PT X e t := h _
def PA (X : Cx) (es : List Expr) (t : TA) : Prop :=
  ∀ (pos : Pos) (pins : List (Addr × Obj)) (s : Shared) (σ : St) (H : Hp) (Q : List V -> Hp -> Prop), Inv X pins σ H s -> t σ H Q -> wpAny (model X.prog X.w) X.A (spliced (backTo pos (starEach es X.env))) (AP X pins σ Q) X.xe s
def PS (X : Cx) (st : Stmt) (t : TS) : Prop :=
  ∀ (pins : List (Addr × Obj)) (s : Shared) (σ : St) (H : Hp) (D : Ends), Inv X pins σ H s -> t D σ H -> wpAny (model X.prog X.w) X.A (exec st X.env) (SP X pins D) X.xe s
def PSs (X : Cx) (st : List Stmt) (t : TS) : Prop :=
  ∀ (pins : List (Addr × Obj)) (s : Shared) (σ : St) (H : Hp) (D : Ends), Inv X pins σ H s -> t D σ H -> wpAny (model X.prog X.w) X.A (execs st X.env) (SP X pins D) X.xe s
theorem thn {α : Type} {t : Sem α} {Q Q' : α -> Shared -> Prop} {M : Model} {A : Around} {E : Value -> Shared -> Prop} {s : Shared} (h : wpAny M A t Q E s) (hQ : ∀ a s, Q a s -> Q' a s) : wpAny M A t Q' E s := wpAny_mono h hQ λ _ _ x => x
end L2
namespace L2
open PySem PySem.Spec PyProof.Rows
section
variable {X : Cx}
def tVar (i : Nat) : TE := λ σ H Q => ∃ v, σ[i]? = some (some v) /\ Q v H
def tC (v : V) : TE := λ _ H Q => Q v H
theorem pe_var {i : Nat} {x : Str} {pos : Pos} (hN : X.N[i]? = some x) (hv : Vis X.env.scope x) (hd : (x == ("__debug__" : Str)) = false := by decide) (hcd : (x == ("__classdict__" : Str)) = false := by decide) : PE X (.Name x pos) (tVar i) := by
  intro pins s σ H Q I h
  obtain ⟨v, e, h⟩ := h
  obtain ⟨m, hn, hl⟩ := I.loc
  obtain ⟨u, r, l⟩ := hl i x v hN e hv
  have fin : EP X pins σ Q u s := ⟨v, H, I, r, h⟩
  rcases l with ⟨hk, hm⟩ | ⟨hk, c, hc, hcell⟩
  . exact wpAny_Name (wpAny_loadName_local I.ok.kind hk hn hm fin) hd
  . rcases hk with hk | hk
    . exact wpAny_Name (wpAny_loadName_cell I.ok.kind hk hc hcell fin) hd
    . exact wpAny_Name (wpAny_loadName_free I.ok.kind hk hc hcell fin hcd) hd
theorem pe_int {i j pos} : PE X (.Constant (.int i) j pos) (tC (.int i)) := λ _ _ _ H _ I h => wpAny_Constant_int ⟨.int i, H, I.tok _, ⟨_, rfl⟩, h⟩
theorem pe_bl {b j pos} : PE X (.Constant (.bool b) j pos) (tC (.bl b)) := λ _ _ _ H _ I h => Constant_bool ⟨.bl b, H, I, rfl, h⟩
theorem pe_non {j pos} : PE X (.Constant .none j pos) (tC .non) := λ _ _ _ H _ I h => Constant_none ⟨.non, H, I, rfl, h⟩
theorem pe_str {x j pos} : PE X (.Constant (.str x) j pos) (tC (.str x)) := λ _ _ _ H _ I h => Calls.Constant_str ⟨.str x, H, I.tok _, ⟨_, rfl⟩, h⟩
def Gl (X : Cx) (x : Str) : Prop := X.env.kindOf x = some .globalImplicit
theorem fz {E : Value -> Shared -> Prop} {pins : List (Addr × Obj)} {s : Shared} {σ : St} {H : Hp} {x : Str} {u : Value} {pos : Pos} {Q : Value -> Shared -> Prop} (I : Inv X pins σ H s) (hg : Gl X x) (hm : X.mg x = some u) (h : Q u s)
    (hd : (x == ("__debug__" : Str)) = false := by decide) : wpAny (model X.prog X.w) X.A (eval (.Name x pos) X.env) Q E s :=
  Calls.Name_function_global I.ok.kind hg (Calls.loadGlobal_global (by rw [I.ok.glob]; exact I.mod.glob.keeps I.bk) hm h) hd
theorem gT {E : Value -> Shared -> Prop} {pins : List (Addr × Obj)} {s : Shared} {σ : St} {H : Hp} {x : Str} {u : Value} {pos : Pos} {Q : Value -> Shared -> Prop} (I : Inv X pins σ H s) (hg : Gl X x) (hm : X.mg x = none) (hv : bootBuiltins x = some u) (h : Q u s)
    (hn : x ≠ "__name__" := by decide) (hd : (x == ("__debug__" : Str)) = false := by decide) : wpAny (model X.prog X.w) X.A (eval (.Name x pos) X.env) Q E s := by
  obtain ⟨mb, h1, h2⟩ := I.mod.blt
  exact Calls.Name_function_global I.ok.kind hg (Calls.loadGlobal_builtin (by rw [I.ok.glob]; exact I.mod.glob.keeps I.bk) hm (by rw [I.ok.blt]; exact h1.keeps I.bk) ((h2 x hn).trans hv) h) hd
theorem pe_glob {x : Str} {v : V} {u : Value} {pos : Pos} (hg : Gl X x) (hm : X.mg x = some u) (r : RelV v u) (hd : (x == ("__debug__" : Str)) = false := by decide) : PE X (.Name x pos) (tC v) :=
  λ _ _ _ H _ I h => fz I hg hm ⟨v, H, I, r, h⟩ hd
theorem pe_bltn {x : Str} {v : V} {u : Value} {pos : Pos} (hg : Gl X x) (hm : X.mg x = none) (hv : bootBuiltins x = some u) (r : RelV v u) (hn : x ≠ "__name__" := by decide) (hd : (x == ("__debug__" : Str)) = false := by decide) : PE X (.Name x pos) (tC v) :=
  λ _ _ _ H _ I h => gT I hg hm hv ⟨v, H, I, r, h⟩ hn hd
variable {a b : Expr} {ta tb : TE} {pos : Pos}
variable {tA tB' : TT} {rest : List Expr}
def tAnd (t u : TT) : TT := λ σ H Q => t σ H λ c H1 => if c = true then u σ H1 Q else Q false H1
def tOr (t u : TT) : TT := λ σ H Q => t σ H λ c H1 => if c = true then Q true H1 else u σ H1 Q
def fA (t : TT) : TT := λ σ H Q => t σ H λ c H1 => Q (!c) H1
theorem pw_and1 (ha : PT X a tA) : PW X (.BoolOp .And [a] pos) tA := by
  intro wh pins s σ H Q I h
  refine isTrue_and (thn (ha pins s σ H Q I h) λ c s1 e => ?_)
  cases c with
  | true => exact isTrue_and_nil e
  | false => exact e
theorem pw_or1 (ha : PT X a tA) : PW X (.BoolOp .Or [a] pos) tA := by
  intro wh pins s σ H Q I h
  refine isTrue_or (thn (ha pins s σ H Q I h) λ c s1 e => ?_)
  cases c with
  | false => exact isTrue_or_nil e
  | true => exact e
theorem pw_and (ha : PT X a tA) (hb : PW X (.BoolOp .And (b :: rest) pos) tB') : PW X (.BoolOp .And (a :: b :: rest) pos) (tAnd tA tB') := by
  intro wh pins s σ H Q I h
  refine isTrue_and (thn (ha pins s σ H _ I h) λ c s1 ⟨H1, I1, q1⟩ => ?_)
  cases c with
  | true => exact hb wh pins s1 σ H1 Q I1 q1
  | false => exact ⟨H1, I1, q1⟩
theorem pw_or (ha : PT X a tA) (hb : PW X (.BoolOp .Or (b :: rest) pos) tB') : PW X (.BoolOp .Or (a :: b :: rest) pos) (tOr tA tB') := by
  intro wh pins s σ H Q I h
  refine isTrue_or (thn (ha pins s σ H _ I h) λ c s1 ⟨H1, I1, q1⟩ => ?_)
  cases c with
  | true => exact ⟨H1, I1, q1⟩
  | false => exact hb wh pins s1 σ H1 Q I1 q1
theorem pt_not (ha : PT X a tA) : PT X (.UnaryOp .Not a pos) (fA tA) := by
  intro pins s σ H Q I h
  exact isTrue_not (ha pins s σ H (λ c H1 => Q (!c) H1) I h)
def tAndV (ta tb : TE) : TE := λ σ H Q => ta σ H λ x H1 => ∃ c, x = .bl c /\ if c = true then tb σ H1 Q else Q (.bl false) H1
def tOrV (ta tb : TE) : TE := λ σ H Q => ta σ H λ x H1 => ∃ c, x = .bl c /\ if c = true then Q (.bl true) H1 else tb σ H1 Q
def tNotV (ta : TE) : TE := λ σ H Q => ta σ H λ x H1 => ∃ c, x = .bl c /\ Q (.bl (!c)) H1
theorem pe_one {op} {t : TE} (h : PE X a t) : PE X (.BoolOp op [a] pos) t := λ pins s σ H Q I hw => BoolOp_one (h pins s σ H Q I hw)
theorem pe_and (ha : PE X a ta) (hb : PE X (.BoolOp .And (b :: rest) pos) tb) : PE X (.BoolOp .And (a :: b :: rest) pos) (tAndV ta tb) := by
  intro pins s σ H Q I h
  refine BoolOp_and (thn (ha pins s σ H _ I h) λ v s1 ⟨x, H1, I1, r1, q1⟩ => ?_)
  obtain ⟨c, rfl, q1⟩ := q1
  cases r1
  refine wpAny_truthy_bool ?_
  cases c with
  | true => exact hb pins s1 σ H1 Q I1 q1
  | false => exact ⟨.bl false, H1, I1, rfl, q1⟩
theorem pe_or (ha : PE X a ta) (hb : PE X (.BoolOp .Or (b :: rest) pos) tb) : PE X (.BoolOp .Or (a :: b :: rest) pos) (tOrV ta tb) := by
  intro pins s σ H Q I h
  refine BoolOp_or (thn (ha pins s σ H _ I h) λ v s1 ⟨x, H1, I1, r1, q1⟩ => ?_)
  obtain ⟨c, rfl, q1⟩ := q1
  cases r1
  refine wpAny_truthy_bool ?_
  cases c with
  | false => exact hb pins s1 σ H1 Q I1 q1
  | true => exact ⟨.bl true, H1, I1, rfl, q1⟩
theorem pe_not (ha : PE X a ta) : PE X (.UnaryOp .Not a pos) (tNotV ta) := by
  intro pins s σ H Q I h
  refine UnaryOp_ (thn (ha pins s σ H _ I h) λ v s1 ⟨x, H1, I1, r1, q1⟩ => ?_)
  obtain ⟨c, rfl, q1⟩ := q1
  cases r1
  exact not_of (wpAny_truthy_bool ⟨.bl (!c), H1, I1, rfl, q1⟩)
def tIf (t : TT) (ta tb : TE) : TE := λ σ H Q => t σ H λ c H1 => if c = true then ta σ H1 Q else tb σ H1 Q
theorem pe_ifExp {c : Expr} (hc : PT X c tA) (ha : PE X a ta) (hb : PE X b tb) : PE X (.IfExp c a b pos) (tIf tA ta tb) := by
  intro pins s σ H Q I h
  refine wpAny_IfExp (thn (hc pins s σ H _ I h) λ d s1 ⟨H1, I1, q1⟩ => ?_)
  cases d with
  | true => exact ha pins s1 σ H1 Q I1 q1
  | false => exact hb pins s1 σ H1 Q I1 q1
end
end L2
namespace L2
open PySem PySem.Spec PyProof.Rows
def SqL (K : PySem.W.Frag) (H : Hp) (a : Addr) (xs : List V) : Prop :=
  Rd H a (.lst xs) ∨
    ∃ (o : Obj) (its : Array Value) (n : Nat), K.lookup a = some o /\ o.cls = .type "list" /\ o.dict = none /\ o.data = .seq its n /\ its.size <= sizeLine /\ Vals xs its.toList
def SqT (K : PySem.W.Frag) (H : Hp) (a : Addr) (xs : List V) : Prop :=
  Rd H a (.tup xs) ∨
    ∃ (o : Obj) (its : Array Value) (n : Nat), K.lookup a = some o /\ o.cls = .type "tuple" /\ o.data = .seq its n /\ its.size <= sizeLine /\ Vals xs its.toList
def absV : Value -> Option V
  | .none => some .non
  | .bool b => some (.bl b)
  | .int i _ => some (.int i)
  | .str x _ => some (.str x)
  | .bytes b _ => some (.byt b)
  | .float b _ => some (.flt b)
  | .ref a => some (.ref a)
  | .type n => some (.ty n)
  | _ => none
theorem RelV.abs {x : V} {u : Value} (r : RelV x u) : absV u = some x := by
  cases x with
  | non => cases r; rfl
  | bl _ => cases r; rfl
  | int _ => obtain ⟨t, rfl⟩ := r; rfl
  | str _ => obtain ⟨t, rfl⟩ := r; rfl
  | byt _ => obtain ⟨t, rfl⟩ := r; rfl
  | flt _ => obtain ⟨t, rfl⟩ := r; rfl
  | ref _ => cases r; rfl
  | ty _ => cases r; rfl
theorem RelV.inj {x y : V} {u : Value} (r : RelV x u) (q : RelV y u) : x = y := Option.some.inj (r.abs.symm.trans q.abs)
theorem Vals.inj : ∀ {xs ys : List V} {us : List Value}, Vals xs us -> Vals ys us -> xs = ys
  | _, _, _, .nil, .nil => rfl
  | _, _, _, .cons r t, .cons r' t' => by rw [r.inj r', Vals.inj t t']
section
variable {X : Cx} {pins : List (Addr × Obj)} {σ : St} {H : Hp} {s : Shared} {a : Addr} {xs ys : List V}
theorem Inv.list (I : Inv X pins σ H s) (h : SqL X.K H a xs) : ∃ its : List Value, Vals xs its /\ PlainL s.heap a its.toArray /\ xs.length <= sizeLine := by
  rcases h with h | ⟨o, its, n, hk, hc, hd, hs, hz, r⟩
  . obtain ⟨z, its, n, r, e⟩ := h.ok I.hok
    exact ⟨its, r, ⟨_, n, e, rfl, rfl, rfl⟩, z⟩
  . refine ⟨its.toList, r, ⟨o, n, I.kIn a o hk, hc, hd, by simpa using hs⟩, ?_⟩
    have e := r.length
    simp only [Array.length_toList] at e
    omega
theorem Inv.tuple (I : Inv X pins σ H s) (h : SqT X.K H a xs) : ∃ its : List Value, Vals xs its /\ IsTup s.heap a its.toArray /\ xs.length <= sizeLine := by
  rcases h with h | ⟨o, its, n, hk, hc, hs, hz, r⟩
  . obtain ⟨z, its, r, p⟩ := h.ok I.hok
    exact ⟨its, r, p, z⟩
  . refine ⟨its.toList, r, ⟨o, I.kIn a o hk, hc, n, by simpa using hs⟩, ?_⟩
    have e := r.length
    simp only [Array.length_toList] at e
    omega
theorem Inv.list_inj (I : Inv X pins σ H s) (h : SqL X.K H a xs) (h' : SqL X.K H a ys) : xs = ys := by
  obtain ⟨its, r, ⟨o, n, e, _, _, d⟩, _⟩ := I.list h
  obtain ⟨its', r', ⟨o', n', e', _, _, d'⟩, _⟩ := I.list h'
  rw [e] at e'; cases e'
  rw [d] at d'
  injection d' with d1 _
  have : its = its' := by simpa using congrArg Array.toList d1
  subst this
  exact r.inj r'
theorem Inv.tuple_inj (I : Inv X pins σ H s) (h : SqT X.K H a xs) (h' : SqT X.K H a ys) : xs = ys := by
  obtain ⟨its, r, ⟨o, e, _, n, d⟩, _⟩ := I.tuple h
  obtain ⟨its', r', ⟨o', e', _, n', d'⟩, _⟩ := I.tuple h'
  rw [e] at e'; cases e'
  rw [d] at d'
  injection d' with d1 _
  have : its = its' := by simpa using congrArg Array.toList d1
  subst this
  exact r.inj r'
end
abbrev Cx.wish (X : Cx) (E : Value -> Shared -> Prop) : Cx := { X with xe := E }
abbrev Cx.nox (X : Cx) : Cx := X.wish λ _ _ => False
theorem Cx.Ok.wish {X : Cx} (ok : X.Ok) (E : Value -> Shared -> Prop) : (X.wish E).Ok :=
  ⟨ok.mod, ok.kind, ok.glob, ok.blt, ok.above, ok.inj, ok.has, ok.cab, ok.hd, ok.frames, ok.stk, ok.exf, ok.bs, ok.bsz, ok.noex, ok.exfs, ok.funs, ok.frf⟩
theorem Cx.Ok.unwish {X : Cx} {E : Value -> Shared -> Prop} (ok : (X.wish E).Ok) : X.Ok :=
  ⟨ok.mod, ok.kind, ok.glob, ok.blt, ok.above, ok.inj, ok.has, ok.cab, ok.hd, ok.frames, ok.stk, ok.exf, ok.bs, ok.bsz, ok.noex, ok.exfs, ok.funs, ok.frf⟩
section
variable {X : Cx} {pins : List (Addr × Obj)} {σ : St} {H : Hp} {s : Shared} {E : Value -> Shared -> Prop}
theorem Inv.wish (I : Inv X pins σ H s) (E : Value -> Shared -> Prop) : Inv (X.wish E) pins σ H s := ⟨I.ok.wish E, I.os, I.bare, I.base, I.loc, I.cell, I.free, I.freeC, I.pin, I.hok, I.len⟩
theorem Inv.unwish (I : Inv (X.wish E) pins σ H s) : Inv X pins σ H s := ⟨I.ok.unwish, I.os, I.bare, I.base, I.loc, I.cell, I.free, I.freeC, I.pin, I.hok, I.len⟩
theorem SP.unwish {D : Ends} {f : Flow} {s' : Shared} (h : SP (X.wish E) pins D f s') : SP X pins D f s' := by
  cases f with
  | next => obtain ⟨σ', H', I, q⟩ := h; exact ⟨σ', H', I.unwish, q⟩
  | brk => obtain ⟨σ', H', I, q⟩ := h; exact ⟨σ', H', I.unwish, q⟩
  | cont => obtain ⟨σ', H', I, q⟩ := h; exact ⟨σ', H', I.unwish, q⟩
  | ret u => obtain ⟨v, σ', H', I, r, q⟩ := h; exact ⟨v, σ', H', I.unwish, r, q⟩
theorem PSs.nox {st : List Stmt} {t : TS} (h : PSs X.nox st t) : PSs X st t := λ pins s σ H D I hw =>
  wpAny_mono (h pins s σ H D (I.wish _) hw) (λ _ _ q => q.unwish) λ _ _ z => False.elim z
end
section
variable {X : Cx} {st : Stmt} {rest : List Stmt} {t u : TS} {e : Expr} {te : TE} {pos : Pos}
def ay : TS := λ D σ H => D.nx σ H
def ad (t u : TS) : TS := λ D σ H => t { D with nx := u D } σ H
theorem pss_nil : PSs X [] ay := λ _ _ σ H _ I h => wpAny_execs_nil ⟨σ, H, I, h⟩
theorem pss_cons (h1 : PS X st t) (h2 : PSs X rest u) : PSs X (st :: rest) (ad t u) := by
  intro pins s σ H D I h
  refine wpAny_execs_cons (thn (h1 pins s σ H { D with nx := u D } I h) λ f s1 q => ?_)
  cases f with
  | next =>
    obtain ⟨σ', H', I', q⟩ := q
    exact h2 pins s1 σ' H' D I' q
  | ret v => exact q
  | brk => exact q
  | cont => exact q
theorem pss_one (h1 : PS X st t) : PSs X [st] t := by
  intro pins s σ H D I h
  refine wpAny_execs_cons (thn (h1 pins s σ H D I h) λ f s1 q => ?_)
  cases f with
  | next => exact wpAny_execs_nil q
  | ret v => exact q
  | brk => exact q
  | cont => exact q
theorem ps_pass : PS X (.Pass pos) ay := λ _ _ σ H _ I h => wpAny_Pass ⟨σ, H, I, h⟩
theorem Inv.quiet {pins : List (Addr × Obj)} {σ : St} {H : Hp} {s : Shared} (I : Inv X pins σ H s) : interactive X.env = false := by simp [interactive, I.ok.kind]
theorem ps_doc {x j pos pos'} : PS X (.Expr (.Constant (.str x) j pos) pos') ay := λ _ s σ H _ I h => wpAny_Expr (Calls.Constant_str (show SP X _ _ .next { s with toks := s.toks + 1 } from ⟨σ, H, I.tok _, h⟩)) I.quiet
def cj (te : TE) : TS := λ D σ H => te σ H λ _ H1 => D.nx σ H1
theorem ps_expr (he : PE X e te) (hs : swapsWith e none pos.line X.env = pure false := by rfl) : PS X (.Expr e pos) (cj te) := by
  intro pins s σ H D I h
  exact wpAny_Expr_any (thn (he pins s σ H _ I h) λ v s1 ⟨x, H1, I1, r1, q1⟩ => ⟨σ, H1, I1, q1⟩) I.quiet hs
def aD (te : TE) : TS := λ D σ H => te σ H D.rt
theorem ps_ret (he : PE X e te) : PS X (.Return (some e) pos) (aD te) := by
  intro pins s σ H D I h
  exact wpAny_Return_some (thn (he pins s σ H _ I h) λ v s1 ⟨x, H1, I1, r1, q1⟩ => ⟨x, σ, H1, I1, r1, q1⟩)
def tRetN : TS := λ D _ H => D.rt .non H
theorem ps_retN : PS X (.Return none pos) tRetN := λ _ _ σ H _ I h => wpAny_Return_none ⟨.non, σ, H, I, rfl, h⟩
def tIfS (c : TT) (t u : TS) : TS := λ D σ H => c σ H λ b H1 => if b = true then t D σ H1 else u D σ H1
theorem ps_if {c : Expr} {a b : List Stmt} {tc : TT} (hc : PT X c tc) (ha : PSs X a t) (hb : PSs X b u) : PS X (.If c a b pos) (tIfS tc t u) := by
  intro pins s σ H D I h
  refine wpAny_If (thn (hc pins s σ H _ I h) λ d s1 ⟨H1, I1, q1⟩ => ?_)
  cases d with
  | true => exact ha pins s1 σ H1 D I1 q1
  | false => exact hb pins s1 σ H1 D I1 q1
end
abbrev TG := V -> St -> Hp -> (St -> Hp -> Prop) -> Prop
abbrev TGs := List V -> St -> Hp -> (St -> Hp -> Prop) -> Prop
def PG (X : Cx) (target : Expr) (t : TG) : Prop :=
  ∀ (pins : List (Addr × Obj)) (s : Shared) (σ : St) (H : Hp) (v : V) (u : Value) (Q : St -> Hp -> Prop), Inv X pins σ H s -> RelV v u -> t v σ H Q →
    wpAny (model X.prog X.w) X.A (assign target X.env u) (λ _ s' => ∃ σ' H', Inv X pins σ' H' s' /\ Q σ' H') X.xe s
def PGs (X : Cx) (ts : List Expr) (t : TGs) : Prop :=
  ∀ (pins : List (Addr × Obj)) (s : Shared) (σ : St) (H : Hp) (vs : List V) (us : List Value) (Q : St -> Hp -> Prop), Inv X pins σ H s -> Vals vs us -> t vs σ H Q →
    wpAny (model X.prog X.w) X.A (assignInOrder ((assignEach ts X.env).map (·.2)) us) (λ _ s' => ∃ σ' H', Inv X pins σ' H' s' /\ Q σ' H') X.xe s
abbrev TSet := V -> V -> V -> Hp -> (Hp -> Prop) -> Prop
def PSet (X : Cx) (t : TSet) : Prop :=
  ∀ (pins : List (Addr × Obj)) (s : Shared) (σ : St) (H : Hp) (o i v : V) (ov iv u : Value) (Q : Hp -> Prop), Inv X pins σ H s -> RelV o ov -> RelV i iv -> RelV v u -> t o i v H Q →
    wpAny (model X.prog X.w) X.A (setItem ov iv u) (λ _ s' => ∃ H', Inv X pins σ H' s' /\ Q H') X.xe s
abbrev TIp := V -> V -> Hp -> VK -> Prop
def PIp (X : Cx) (op : Operator) (t : TIp) : Prop :=
  ∀ (pins : List (Addr × Obj)) (s : Shared) (σ : St) (H : Hp) (x y : V) (v u : Value) (Q : VK), Inv X pins σ H s -> RelV x v -> RelV y u -> t x y H Q →
    wpAny (model X.prog X.w) X.A (inplaceOp op v u) (EP X pins σ Q) X.xe s
section
variable {X : Cx} {pos : Pos}
def a6 (i : Nat) : TG := λ v σ H Q => Q (σ.set i (some v)) H
theorem pg_name {i : Nat} {x : Str} (hN : X.N.Nodup) (hi : X.N[i]? = some x) (hx : Loc X.env.scope x) (hf : X.fn x = true \/ X.env.scope.names.lookup x = some .local := by first | exact .inl rfl | exact .inr rfl | assumption) : PG X (.Name x pos) (a6 i) := by
  intro pins s σ H v u Q I r h
  exact wpAny_assign_Name (gS I hN hi hx r (λ s' I' => ⟨_, H, I', h⟩) hf)
def fB : TGs := λ vs σ H Q => vs = [] /\ Q σ H
def b5 (t : TG) (u : TGs) : TGs := λ vs σ H Q => ∃ v r, vs = v :: r /\ t v σ H λ σ' H' => u r σ' H' Q
theorem pgs_nil : PGs X [] fB := by
  intro pins s σ H vs us Q I r h
  obtain ⟨e, h⟩ := h
  subst e
  cases r
  exact assignInOrder_nil ⟨σ, H, I, h⟩
theorem pgs_cons {e : Expr} {es : List Expr} {t : TG} {u : TGs} (h1 : PG X e t) (h2 : PGs X es u)
    (hs : (assignEach (e :: es) X.env).map (·.2) = assign e X.env :: (assignEach es X.env).map (·.2) := by rfl) : PGs X (e :: es) (b5 t u) := by
  intro pins s σ H vs us Q I r h
  obtain ⟨v, vr, e1, h⟩ := h
  subst e1
  cases r with
  | cons r rr =>
    rw [hs]
    refine assignInOrder_cons (thn (h1 pins s σ H _ _ _ I r h) λ _ s1 ⟨σ1, H1, I1, q1⟩ => ?_)
    exact h2 pins s1 σ1 H1 _ _ Q I1 rr q1
def gTup (K : PySem.W.Frag) (n : Nat) (t : TGs) : TG := λ v σ H Q => ∃ a xs, v = .ref a /\ SqT K H a xs /\ xs.length = n /\ t xs σ H Q
theorem pg_tup {es : List Expr} {k : Nat} {t : TGs} {n : Nat} (hc : X.calm = true) (h : PGs X es t)
    (hn : (assignEach es X.env).length = n := by rfl) (hst : (assignEach es X.env).findIdx? (·.1) = none := by rfl) : PG X (.Tuple es k pos) (gTup X.K n t) := by
  intro pins s σ H v u Q I r hw
  obtain ⟨a, xs, e1, hq, hl, hw⟩ := hw
  subst e1
  cases r
  obtain ⟨its, rv, ht, hz⟩ := I.tuple hq
  refine assign_Tuple_tuple (I.ok.hd hc) ht (by simp [hn, <- hl, rv.length]) hst λ h' hx => ?_
  have I1 : Inv X pins σ H { s with heap := h' } := I.kept (t' := s.toks) λ b o e => hx b o (Nat.ne_of_lt (Heap.lt_size e)) e
  exact h pins _ σ H xs _ Q I1 (by simpa using rv) hw
def dS (to ti : TE) (t : TSet) : TG := λ v σ H Q => to σ H λ o H1 => ti σ H1 λ i H2 => t o i v H2 λ H3 => Q σ H3
theorem pg_sub {o i : Expr} {to ti : TE} {t : TSet} (ho : PE X o to) (hi : PE X i ti) (hs : PSet X t)
    (ha : ∀ v, assign (.Subscript o i pos) X.env v = (do
      let ov ← holding [v] (eval o X.env)
      let iv ← holding [v, ov] (eval i X.env)
      standAt pos
      holding [v, ov, iv] (setItem ov iv v)
      release [v, ov, iv] []) := by intro _; rfl) : PG X (.Subscript o i pos) (dS to ti t) := by
  intro pins s σ H v u Q I r h
  rw [ha]
  refine wpAny_bind (wpAny_holding (thn (ho pins s σ H _ I h) λ ov s1 ⟨x, H1, I1, r1, q1⟩ => ?_))
  refine wpAny_bind (wpAny_holding (thn (hi pins s1 σ H1 _ I1 q1) λ iv s2 ⟨y, H2, I2, r2, q2⟩ => ?_))
  refine wpAny_bind (wpAny_standAt (wpAny_bind (wpAny_holding (thn (hs pins s2 σ H2 x y v ov iv u _ I2 r1 r2 r q2) λ _ s3 ⟨H3, I3, q3⟩ => ?_))))
  exact wpAny_release ⟨σ, H3, I3, q3⟩
def ah (te : TE) (g : TG) : TS := λ D σ H => te σ H λ x H1 => g x σ H1 D.nx
theorem ps_asg {tg e : Expr} {te : TE} {g : TG} (he : PE X e te) (hg : PG X tg g) (hs : swapsWithSole [tg] e pos.line X.env = pure false := by rfl) (hw : swappedStores [tg] e X.env = pure none := by rfl)
    (h1 : (assignEach [tg] X.env).map (·.2) = [assign tg X.env] := by rfl) : PS X (.Assign [tg] e pos) (ah te g) := by
  intro pins s σ H D I h
  refine wpAny_Assign_stores (thn (he pins s σ H _ I h) λ v s1 ⟨x, H1, I1, r1, q1⟩ => ?_) hs hw
  rw [h1]
  exact thn (hg pins s1 σ H1 x v _ I1 r1 q1) λ _ s2 q => q
theorem ps_set {i : Nat} {x : Str} {e : Expr} {te : TE} {pos' : Pos} (hN : X.N.Nodup) (hi : X.N[i]? = some x) (hx : Loc X.env.scope x) (he : PE X e te) (hs : swapsWith e (some (.Name x pos')) pos.line X.env = pure false := by rfl) (hf : X.fn x = true \/ X.env.scope.names.lookup x = some .local := by first | exact .inl rfl | exact .inr rfl | assumption) :
    PS X (.Assign [.Name x pos'] e pos) (ah te (a6 i)) := by
  intro pins s σ H D I h
  refine wpAny_Assign_Name (thn (he pins s σ H _ I h) λ v s1 ⟨y, H1, I1, r1, q1⟩ => ?_) hs
  exact gS I1 hN hi hx r1 (λ s2 I2 => ⟨_, H1, I2, q1⟩) hf
def tAug (i : Nat) (te : TE) (ti : TIp) : TS := λ D σ H => ∃ x, σ[i]? = some (some x) /\ te σ H λ y H1 => ti x y H1 λ z H2 => D.nx (σ.set i (some z)) H2
theorem ps_aug {i : Nat} {x : Str} {e : Expr} {te : TE} {op : Operator} {ti : TIp} {pos' : Pos} (hN : X.N.Nodup) (hi : X.N[i]? = some x) (hx : Loc X.env.scope x) (he : PE X e te) (ho : PIp X op ti) (hf : X.fn x = true \/ X.env.scope.names.lookup x = some .local := by first | exact .inl rfl | exact .inr rfl | assumption) :
    PS X (.AugAssign (.Name x pos') op e pos) (tAug i te ti) := by
  intro pins s σ H D I h
  obtain ⟨v, e1, h⟩ := h
  obtain ⟨m, hn, hl⟩ := I.loc
  have vis : Vis X.env.scope x := by rcases hx with k | k; exact .inl k; exact .inr (.inl k)
  obtain ⟨u, r, l⟩ := hl i x v hi e1 vis
  refine wpAny_AugAssign_Name ?_
  have go : wpAny (model X.prog X.w) X.A (eval e X.env) (λ w s₂ => wpAny (model X.prog X.w) X.A (inplaceOp op u w) (λ r s₃ => wpAny (model X.prog X.w) X.A (storeName X.env x r) (λ _ => SP X pins D .next) X.xe s₃) X.xe s₂) X.xe s := by
    refine thn (he pins s σ H _ I h) λ w s1 ⟨y, H1, I1, r1, q1⟩ => ?_
    refine thn (ho pins s1 σ H1 v y u w _ I1 r r1 q1) λ z s2 ⟨zv, H2, I2, r2, q2⟩ => ?_
    exact gS I2 hN hi hx r2 (λ s3 I3 => ⟨_, H2, I3, q2⟩) hf
  rcases l with ⟨hk, hm⟩ | ⟨hk, c, hc, hcell⟩
  . exact wpAny_loadName_local I.ok.kind hk hn hm go
  . rcases hk with hk | hk
    . exact wpAny_loadName_cell I.ok.kind hk hc hcell go
    . rcases hx with k | k
      . have : X.env.scope.names.lookup x = some .free := hk
        rw [k] at this; cases this
      . have : X.env.scope.names.lookup x = some .free := hk
        rw [k] at this; cases this
def ipI (f : Int -> Int -> Int) : TIp := λ x y H Q => ∃ i j, x = .int i /\ y = .int j /\ Q (.int (f i j)) H
theorem ip_add : PIp X .Add (ipI λ i j => i + j) := by
  intro pins s σ H x y v u Q I r1 r2 h
  obtain ⟨i, j, e1, e2, q⟩ := h
  subst e1; subst e2
  obtain ⟨t, rfl⟩ := r1
  obtain ⟨t', rfl⟩ := r2
  exact iadd_int ⟨.int _, H, I.tok _, ⟨_, rfl⟩, q⟩
theorem ip_sub : PIp X .Sub (ipI λ i j => i - j) := by
  intro pins s σ H x y v u Q I r1 r2 h
  obtain ⟨i, j, e1, e2, q⟩ := h
  subst e1; subst e2
  obtain ⟨t, rfl⟩ := r1
  obtain ⟨t', rfl⟩ := r2
  exact isub_int ⟨.int _, H, I.tok _, ⟨_, rfl⟩, q⟩
end
section
variable {X : Cx} {pos : Pos}
end
structure It where
  go : Nat -> Hp -> Prop
  yld : Nat -> Hp -> V -> Hp -> Prop
  stop : Nat -> Hp -> Prop
def jI (X : Cx) (pins : List (Addr × Obj)) (H : Hp) (b : Addr) : Prop :=
  H b = none /\ b ≠ X.env.locals /\ b ∉ X.fs /\ (b ∈ X.ex \/ X.s₀.heap.objs.size <= b) /\ (∀ x c, X.env.cells.lookup x = some c -> c ≠ b) /\ ∀ p ∈ X.pn ++ pins, p.1 ≠ b
theorem Inv.fpOk {X : Cx} {pins : List (Addr × Obj)} {σ : St} {H H' : Hp} {s : Shared} {b : Addr} (I : Inv X pins σ H s) (hb : s.heap.objs.size <= b) (hn : H' b = none) : jI X pins H' b := by
  refine ⟨hn, Nat.ne_of_gt (Nat.lt_of_lt_of_le I.lt hb), I.nofs hb, .inr (Nat.le_trans I.sz hb), λ x c e z => ?_, λ p hp z => ?_⟩
  . obtain ⟨v, q⟩ := I.cell x c e
    exact absurd (Nat.lt_of_lt_of_le q.lt (by rw [z]; exact hb)) (Nat.lt_irrefl _)
  . exact absurd (Nat.lt_of_lt_of_le (Heap.lt_size (I.pin p hp).1) (by rw [z]; exact hb)) (Nat.lt_irrefl _)
structure Turn (P : Program) (w : World) (K : PySem.W.Frag) (tg : Expr) (J : It) (fp : List Addr) (it : Addr) (tn : Nat -> Heap -> Prop) : Prop where
  mem : it ∈ fp
  obj : ∀ i h, tn i h -> ∀ b ∈ fp, ∃ o, h.get? b = some o /\ ∀ v, o.data ≠ .cell v
  keep : ∀ i h h', tn i h -> (∀ b ∈ fp, ∀ o, h.get? b = some o -> h'.get? b = some o) -> tn i h'
  item : ∀ (X : Cx), X.prog = P -> X.w = w -> X.K = K -> X.calm = true -> ∀ (i : Nat) (pins : List (Addr × Obj)) (s : Shared) (σ : St) (H : Hp) (E : Value -> Shared -> Prop), Inv X pins σ H s -> (∀ b ∈ fp, jI X pins H b) -> tn i s.heap -> J.go i H →
    wpAny (model P w) X.A (pyNext (.ref it)) (λ r s1 => ∃ u, r = some u ∧
      wpAny (model P w) X.A (letOwnedTupleGo tg (.ref it) u) (λ _ s2 => ∃ x H', Inv X pins σ H' s2 /\ RelV x u /\ J.yld i H x H' /\ tn (i + 1) s2.heap /\ ∀ b ∈ fp, H' b = none) E s1) E s
  done : ∀ (X : Cx), X.prog = P -> X.w = w -> X.K = K -> X.calm = true -> ∀ (i : Nat) (pins : List (Addr × Obj)) (s : Shared) (σ : St) (H : Hp) (E : Value -> Shared -> Prop), Inv X pins σ H s -> (∀ b ∈ fp, jI X pins H b) -> tn i s.heap -> J.stop i H →
    wpAny (model P w) X.A (pyNext (.ref it)) (λ r s1 => r = none /\ Inv X pins σ H s1) E s
  self : ∀ (A : Around) (i : Nat) (s : Shared) (Q : Value -> Shared -> Prop) (E : Value -> Shared -> Prop), tn i s.heap -> Q (.ref it) s -> wpAny (model P w) A (pyIter (.ref it)) Q E s
abbrev TI := St -> Hp -> (It -> Hp -> Prop) -> Prop
def PIE (X : Cx) (pins : List (Addr × Obj)) (σ : St) (tg : Expr) (R : It -> Hp -> Prop) (itv : Value) (s2 : Shared) : Prop :=
  ∃ (it : Addr) (fp : List Addr) (tn : Nat -> Heap -> Prop) (J : It) (H' : Hp), itv = .ref it /\ Inv X pins σ H' s2 /\ Turn X.prog X.w X.K tg J fp it tn /\ tn 0 s2.heap /\ (∀ b ∈ fp, jI X pins H' b) /\ R J H'
def PI (X : Cx) (tg iter : Expr) (wi : TI) : Prop :=
  ∀ (pins : List (Addr × Obj)) (s : Shared) (σ : St) (H : Hp) (R : It -> Hp -> Prop), Inv X pins σ H s -> wi σ H R →
    wpAny (model X.prog X.w) X.A (eval iter X.env) (λ v s1 => wpAny (model X.prog X.w) X.A (pyIter v) (PIE X pins σ tg R) X.xe s1) X.xe s
theorem gU {M : Model} {A : Around} {E : Value -> Shared -> Prop} {s : Shared} {tg : Expr} {it : Addr} {u : Value} {o : Obj} {n : String} {vs : Array Value} {Q : Unit -> Shared -> Prop} (ho : s.heap.get? it = some o) (hc : o.cls = .type n) (hd : o.data = .fields vs)
    (hn : ["enumerate", "zip", "dict_itemiterator", "dict_reverseitemiterator", "odict_iterator", "itertools.zip_longest", "itertools.pairwise"].contains n = false) (hQ : Q () s) : wpAny M A (letOwnedTupleGo tg (.ref it) u) Q E s := by
  unfold letOwnedTupleGo
  cases tg <;> first
    | exact wpAny_pure hQ
    | (cases u <;> first
        | exact wpAny_pure hQ
        | (refine wpAny_bind (wpAny_load ho ?_)
           rw [hc, hd]
           show wpAny M A (if (["enumerate", "zip", "dict_itemiterator", "dict_reverseitemiterator", "odict_iterator", "itertools.zip_longest", "itertools.pairwise"].contains n && vs[0]? == some (rawInt _)) = true then _ else _) Q E s
           rw [if_neg (by intro h; rw [hn, Bool.false_and] at h; cases h)]
           exact wpAny_pure hQ))
def Itl (K : PySem.W.Frag) (a : Addr) : It :=
  ⟨λ i H => ∃ xs x, SqL K H a xs /\ xs[i]? = some x, λ i H x H' => H' = H /\ ∀ xs, SqL K H a xs -> xs[i]? = some x, λ i H => ∃ xs, SqL K H a xs /\ xs.length <= i⟩
def Itt (K : PySem.W.Frag) (a : Addr) : It :=
  ⟨λ i H => ∃ xs x, SqT K H a xs /\ xs[i]? = some x, λ i H x H' => H' = H /\ ∀ xs, SqT K H a xs -> xs[i]? = some x, λ i H => ∃ xs, SqT K H a xs /\ xs.length <= i⟩
def Itr (lo : Int) (n : Nat) : It := ⟨λ i _ => i < n, λ i H x H' => H' = H /\ x = .int (lo + i), λ i _ => n <= i⟩
theorem oP {P : Program} {w : World} {K : PySem.W.Frag} {tg : Expr} (a it : Addr) : Turn P w K tg (Itl K a) [it] it (λ i h => h.IsListIter it a i) where
  mem := by simp
  obj := λ i h st b hb => by
    have e : b = it := by simpa using hb
    subst e
    obtain ⟨o, e, c, d⟩ := st
    exact ⟨o, e, λ v z => by rw [d] at z; cases z⟩
  keep := λ i h h' st k => st.at λ o e => k it (by simp) o e
  item := by
    intro X hP hw hK hc i pins s σ H E I hf st hg
    subst hP hw hK
    obtain ⟨xs, x, hq, hx⟩ := hg
    obtain ⟨its, rv, p, hz⟩ := I.list hq
    obtain ⟨u, hu, ru⟩ := rv.get hx
    obtain ⟨f0, f1, f2, f3, f4, f5⟩ := hf it (by simp)
    refine wpAny_pyNext_list_item st p.isList (x := u) (by simpa using hu) λ h' st' sb => ?_
    have I1 : Inv X pins σ H { s with heap := h' } := I.turned (t' := s.toks) (λ b o hb e => (sb.2 b hb).trans e) f0 f1 f3 f4 f5
    obtain ⟨o, e, c, d⟩ := id st'
    exact ⟨u, rfl, gU (s := { s with heap := h' }) e c d (by decide) ⟨x, H, I1, ru, ⟨rfl, λ ys hy => by rw [I.list_inj hy hq]; exact hx⟩, st', λ b hb => (hf b hb).1⟩⟩
  done := by
    intro X hP hw hK hc i pins s σ H E I hf st hg
    subst hP hw hK
    obtain ⟨xs, hq, hx⟩ := hg
    obtain ⟨its, rv, p, hz⟩ := I.list hq
    obtain ⟨f0, f1, f2, f3, f4, f5⟩ := hf it (by simp)
    have hl := rv.length
    exact wpAny_pyNext_list_end (I.ok.hd hc) st p.isList (by simp; omega) λ h' eb => ⟨rfl, I.turned (t' := s.toks) (λ b o hb e => eb b o hb e) f0 f1 f3 f4 f5⟩
  self := λ _ _ _ _ _ st h => wpAny_pyIter_listiter st h
theorem m4 {P : Program} {w : World} {K : PySem.W.Frag} {tg : Expr} (a it : Addr) : Turn P w K tg (Itt K a) [it] it (λ i h => h.IsTupleIter it a i) where
  mem := by simp
  obj := λ i h st b hb => by
    have e : b = it := by simpa using hb
    subst e
    obtain ⟨o, e, c, d⟩ := st
    exact ⟨o, e, λ v z => by rw [d] at z; cases z⟩
  keep := λ i h h' st k => st.at λ o e => k it (by simp) o e
  item := by
    intro X hP hw hK hc i pins s σ H E I hf st hg
    subst hP hw hK
    obtain ⟨xs, x, hq, hx⟩ := hg
    obtain ⟨its, rv, p, hz⟩ := I.tuple hq
    obtain ⟨u, hu, ru⟩ := rv.get hx
    obtain ⟨f0, f1, f2, f3, f4, f5⟩ := hf it (by simp)
    refine wpAny_pyNext_tuple_item st (show s.heap.IsTuple a its.toArray from p) (x := u) (by simpa using hu) λ h' st' sb => ?_
    have I1 : Inv X pins σ H { s with heap := h' } := I.turned (t' := s.toks) (λ b o hb e => (sb.2 b hb).trans e) f0 f1 f3 f4 f5
    obtain ⟨o, e, c, d⟩ := id st'
    exact ⟨u, rfl, gU (s := { s with heap := h' }) e c d (by decide) ⟨x, H, I1, ru, ⟨rfl, λ ys hy => by rw [I.tuple_inj hy hq]; exact hx⟩, st', λ b hb => (hf b hb).1⟩⟩
  done := by
    intro X hP hw hK hc i pins s σ H E I hf st hg
    subst hP hw hK
    obtain ⟨xs, hq, hx⟩ := hg
    obtain ⟨its, rv, p, hz⟩ := I.tuple hq
    obtain ⟨f0, f1, f2, f3, f4, f5⟩ := hf it (by simp)
    have hl := rv.length
    exact wpAny_pyNext_tuple_end (I.ok.hd hc) st (show s.heap.IsTuple a its.toArray from p) (by simp; omega) λ h' eb => ⟨rfl, I.turned (t' := s.toks) (λ b o hb e => eb b o hb e) f0 f1 f3 f4 f5⟩
  self := λ _ _ _ _ _ st h => wpAny_pyIter_tupleiter st h
theorem m5 {P : Program} {w : World} {K : PySem.W.Frag} {tg : Expr} (it : Addr) (lo : Int) (n : Nat) : Turn P w K tg (Itr lo n) [it] it (λ i h => IsRangeIter h it (lo + (i : Nat) * 1) ((n : Int) - (i : Nat)) 1) where
  mem := by simp
  obj := λ i h st b hb => by
    have e : b = it := by simpa using hb
    subst e
    exact ⟨_, st, λ v z => by
      have z' : Data.fields _ = Data.cell v := z
      cases z'⟩
  keep := λ i h h' st k => k it (by simp) _ st
  item := by
    intro X hP hw hK hc i pins s σ H E I hf st hg
    subst hP hw hK
    obtain ⟨f0, f1, f2, f3, f4, f5⟩ := hf it (by simp)
    have W := Walks.range (prog := X.prog) (w := X.w) (I.ok.hd hc) it lo 1 n
    refine W.item i s _ _ hg st λ v h' tk hv st' kk => ?_
    obtain ⟨t, rfl⟩ := hv
    have I1 : Inv X pins σ H { s with heap := h', toks := tk } := I.turned (λ b o hb e => kk b o (by simpa using hb) e) f0 f1 f3 f4 f5
    refine ⟨_, rfl, gU (s := { s with heap := h', toks := tk }) (n := "range_iterator") st' rfl rfl (by decide) ⟨.int (lo + i), H, I1, ⟨t, ?_⟩, ⟨rfl, rfl⟩, st', λ b hb => (hf b hb).1⟩⟩
    rw [Int.mul_one]
  done := by
    intro X hP hw hK hc i pins s σ H E I hf st hg
    subst hP hw hK
    obtain ⟨f0, f1, f2, f3, f4, f5⟩ := hf it (by simp)
    exact wpAny_pyNext_range_end (I.ok.hd hc) st (by have : n <= i := hg; omega) λ h' eb => ⟨rfl, I.turned (t' := s.toks) (λ b o hb e => eb b o hb e) f0 f1 f3 f4 f5⟩
  self := λ _ _ _ _ _ st h => wpAny_pyIter_rangeiter st h
end L2
namespace L2
open PySem PySem.Spec PyProof.Rows
section
variable {X : Cx} {tg : Expr}
theorem kJ {pins : List (Addr × Obj)} {σ : St} {H : Hp} {s : Shared} {R : It -> Hp -> Prop} {E : Value -> Shared -> Prop} {lo hi : Int} {t u v : Tok} {tk : Nat} (I : Inv X pins σ H s) (h1 : -(2 ^ 62) <= lo) (h2 : lo < 2 ^ 62) (h3 : -(2 ^ 62) <= hi) (h4 : hi < 2 ^ 62)
    (q : R (Itr lo (hi - lo).toNat) H) : wpAny (model X.prog X.w) X.A (pyIter (.ref s.heap.objs.size)) (PIE X pins σ tg R) E { s with heap := s.heap.push { cls := .type "range", data := .fields #[.int lo t, .int hi u, .int 1 v] }, toks := tk } := by
  refine wpAny_pyIter_range (IsRange.new ..) (small_one h1 h2 h3 h4) ?_
  have I1 : Inv X pins σ H { s with heap := s.heap.push { cls := .type "range", data := .fields #[.int lo t, .int hi u, .int 1 v] }, toks := tk } := I.kept λ b o e => Heap.get?_push_of_some _ e
  refine ⟨(s.heap.push { cls := .type "range", data := .fields #[.int lo t, .int hi u, .int 1 v] }).objs.size, [(s.heap.push { cls := .type "range", data := .fields #[.int lo t, .int hi u, .int 1 v] }).objs.size], _, _, H, rfl,
    I1.kept (t' := tk) λ b o e => Heap.get?_push_of_some _ e, m5 _ lo (hi - lo).toNat, ?_, λ b hb => ?_, q⟩
  . have e1 : lo + ((0 : Nat) : Int) * 1 = lo := by simp
    have e2 : (((hi - lo).toNat : Nat) : Int) - ((0 : Nat) : Int) = Builtin.Range.rangeSize lo hi 1 := by rw [rangeSize_one]; split <;> omega
    show IsRangeIter _ _ (lo + ((0 : Nat) : Int) * 1) ((((hi - lo).toNat : Nat) : Int) - ((0 : Nat) : Int)) 1
    rw [e1, e2]
    exact Heap.get?_push_size _ rfl
  . have e : b = (s.heap.push { cls := .type "range", data := .fields #[.int lo t, .int hi u, .int 1 v] }).objs.size := by simpa using hb
    subst e
    exact I1.fpOk (Nat.le_refl _) (I1.hok.fresh (Nat.le_refl _))
def tFor (wi : TI) (g : TG) (tb : TS) : TS := λ D σ H => wi σ H λ J H1 => ∃ W : Nat -> Nat -> St -> Hp -> Prop, (∃ m, W 0 m σ H1) /\ ∀ i m σ H, W i m σ H →
  (J.stop i H /\ D.nx σ H) \/ (J.go i H /\ ∃ N : St -> Hp -> Prop, (∀ σ' H', N σ' H' -> ∃ m', m' < m /\ W (i + 1) m' σ' H') /\ ∀ x H', J.yld i H x H' -> g x σ H' λ σ2 H2 => tb { D with nx := N, ct := N, bk := D.nx } σ2 H2)
def gW (fp : List Addr) (h : Heap) : List (Addr × Obj) := fp.filterMap λ b => (h.get? b).map λ o => (b, o)
theorem di {fp : List Addr} {h : Heap} {b : Addr} {o : Obj} (hb : b ∈ fp) (e : h.get? b = some o) : (b, o) ∈ gW fp h := List.mem_filterMap.mpr ⟨b, hb, by rw [e]; rfl⟩
theorem oQ {fp : List Addr} {h : Heap} {p : Addr × Obj} (hp : p ∈ gW fp h) : p.1 ∈ fp /\ h.get? p.1 = some p.2 := by
  obtain ⟨b, hb, e⟩ := List.mem_filterMap.mp hp
  cases q : h.get? b with
  | none => rw [q] at e; cases e
  | some o =>
    rw [q] at e
    have e' : (b, o) = p := Option.some.inj e
    subst e'
    exact ⟨hb, q⟩
theorem Inv.pinned {pins : List (Addr × Obj)} {σ : St} {H : Hp} {s : Shared} {fp : List Addr} (I : Inv X pins σ H s) (hf : ∀ b ∈ fp, jI X pins H b) (ho : ∀ b ∈ fp, ∃ o, s.heap.get? b = some o /\ ∀ v, o.data ≠ .cell v) : Inv X (pins ++ gW fp s.heap) σ H s :=
  I.pins_of λ p hp => (List.mem_append.mp hp).elim (λ z => I.pin p (List.mem_append_right _ z)) λ z => by
    obtain ⟨hb, e⟩ := oQ z
    obtain ⟨f0, f1, f2, _⟩ := hf p.1 hb
    obtain ⟨o, e', d⟩ := ho p.1 hb
    rw [e] at e'; cases e'
    exact ⟨e, f0, f1, f2, d⟩
theorem Inv.unpinned {pins pl : List (Addr × Obj)} {σ : St} {H : Hp} {s : Shared} (I : Inv X (pins ++ pl) σ H s) : Inv X pins σ H s := I.pins_of λ p hp => I.pin p (List.mem_append_right _ (List.mem_append_left _ hp))
theorem ps_for {iter : Expr} {body : List Stmt} {wi : TI} {g : TG} {tb : TS} {pos : Pos} (hp : PassesOwn (model X.prog X.w) X.A X.env X.xe) (hc : X.calm = true) (hi : PI X tg iter wi) (hg : PG X tg g) (hb : PSs X body tb)
    (hs : ∀ x, foldedSetIterable iter X.env x = pure x := by intro _; rfl) : PS X (.For tg iter body [] pos) (tFor wi g tb) := by
  intro pins s σ H D I h
  refine wpAny_For (thn (hi pins s σ H _ I h) λ v s1 h1 => thn h1 λ itv s2 h2 => ?_) hs
  obtain ⟨it, fp, tn, J, H2, e, I2, T, st2, f2, W, ⟨m0, w0⟩, turn⟩ := h2
  subst e
  have stat : ∀ {H' : Hp}, (∀ b ∈ fp, H' b = none) -> ∀ b ∈ fp, jI X pins H' b := λ hn b hb => ⟨hn b hb, (f2 b hb).2⟩
  refine codeAny_forLoop_any (λ n s' => ∃ i σ' H', Inv X pins σ' H' s' /\ tn i s'.heap /\ (∀ b ∈ fp, H' b = none) /\ W i n σ' H') ?_ m0 ⟨0, σ, H2, I2, st2, λ b hb => (f2 b hb).1, w0⟩
  rintro n s3 ⟨i, σ3, H3, I3, st3, fr3, w3⟩
  rcases turn i n σ3 H3 w3 with ⟨stop, qn⟩ | ⟨go, N, hN, step⟩
  . refine wpAny_passesOwn hp (thn (T.done X rfl rfl rfl hc i pins s3 σ3 H3 X.xe I3 (stat fr3) st3 stop) λ r s4 ⟨hr, I4⟩ => ?_)
    subst hr
    exact wpAny_execs_nil ⟨σ3, H3, I4, qn⟩
  . refine wpAny_passesOwn hp (thn (T.item X rfl rfl rfl hc i pins s3 σ3 H3 X.xe I3 (stat fr3) st3 go) λ r s4 ⟨u, hr, h4⟩ => ?_)
    subst hr
    refine wpAny_passesOwn hp (thn h4 λ _ s5 ⟨x, H5, I5, r5, y5, st5, fr5⟩ => ?_)
    have I5' := I5.pinned (stat fr5) (T.obj _ _ st5)
    refine wpAny_passesOwn hp (thn (hg _ s5 σ3 H5 x u _ I5' r5 (step x H5 y5)) λ _ s6 ⟨σ6, H6, I6, q6⟩ => ?_)
    refine wpAny_passesOwn hp (thn (hb _ s6 σ6 H6 _ I6 q6) λ f s7 q7 => ?_)
    have again : ∀ {σ7 : St} {H7 : Hp}, Inv X (pins ++ gW fp s5.heap) σ7 H7 s7 -> N σ7 H7 -> ∃ m, m < n /\ ∃ i σ' H', Inv X pins σ' H' s7 /\ tn i s7.heap /\ (∀ b ∈ fp, H' b = none) /\ W i m σ' H' := λ {σ7 H7} I7 n7 => by
      obtain ⟨m', hm, w7⟩ := hN σ7 H7 n7
      refine ⟨m', hm, i + 1, σ7, H7, I7.unpinned, T.keep _ _ _ st5 λ b hb o e => (I7.pin (b, o) (List.mem_append_right _ (List.mem_append_right _ (di hb e)))).1, λ b hb => ?_, w7⟩
      obtain ⟨o, e, d⟩ := T.obj _ _ st5 b hb
      exact (I7.pin (b, o) (List.mem_append_right _ (List.mem_append_right _ (di hb e)))).2.1
    cases f with
    | next => obtain ⟨σ7, H7, I7, n7⟩ := q7; exact again I7 n7
    | cont => obtain ⟨σ7, H7, I7, n7⟩ := q7; exact again I7 n7
    | brk => obtain ⟨σ7, H7, I7, q7⟩ := q7; exact ⟨σ7, H7, I7.unpinned, q7⟩
    | ret v => obtain ⟨x7, σ7, H7, I7, r7, q7⟩ := q7; exact ⟨x7, σ7, H7, I7.unpinned, r7, q7⟩
end
theorem oR {lo : Int} {n : Nat} {g : TG} {tb : TS} {D : Ends} {σ : St} {H : Hp} (Pv : Nat -> St -> Hp -> Prop) (h0 : Pv 0 σ H)
    (hs : ∀ i σ H, i < n -> Pv i σ H -> g (.int (lo + i)) σ H λ σ2 H2 => tb { D with nx := Pv (i + 1), ct := Pv (i + 1), bk := D.nx } σ2 H2) (hd : ∀ σ H, Pv n σ H -> D.nx σ H) :
    ∃ W : Nat -> Nat -> St -> Hp -> Prop, (∃ m, W 0 m σ H) /\ ∀ i m σ H, W i m σ H →
      ((Itr lo n).stop i H /\ D.nx σ H) \/ ((Itr lo n).go i H /\ ∃ N : St -> Hp -> Prop, (∀ σ' H', N σ' H' -> ∃ m', m' < m /\ W (i + 1) m' σ' H') /\ ∀ x H', (Itr lo n).yld i H x H' -> g x σ H' λ σ2 H2 => tb { D with nx := N, ct := N, bk := D.nx } σ2 H2) := by
  refine ⟨λ i m σ H => m = n - i /\ i <= n /\ Pv i σ H, ⟨n, by simp, Nat.zero_le _, h0⟩, ?_⟩
  rintro i m σ H ⟨rfl, hi, p⟩
  by_cases hlt : i < n
  . refine .inr ⟨hlt, Pv (i + 1), λ σ' H' p' => ⟨n - (i + 1), by omega, rfl, hlt, p'⟩, λ x H' y => ?_⟩
    obtain ⟨e, y⟩ := y
    subst e y
    exact hs i σ _ hlt p
  . have e : i = n := by omega
    subst e
    exact .inl ⟨Nat.le_refl _, hd σ H p⟩
end L2
namespace L2
open PySem PySem.Spec PyProof.Rows
abbrev R2 := V -> V -> Hp -> VK -> Prop
def OpR (X : Cx) (f : Value -> Value -> Sem Value) (r : R2) : Prop :=
  ∀ (pins : List (Addr × Obj)) (s : Shared) (σ : St) (H : Hp) (x y : V) (v u : Value) (Q : VK), Inv X pins σ H s -> RelV x v -> RelV y u -> r x y H Q →
    wpAny (model X.prog X.w) X.A (f v u) (EP X pins σ Q) X.xe s
def UnR (X : Cx) (f : Value -> Sem Value) (r : V -> Hp -> VK -> Prop) : Prop :=
  ∀ (pins : List (Addr × Obj)) (s : Shared) (σ : St) (H : Hp) (x : V) (v : Value) (Q : VK), Inv X pins σ H s -> RelV x v -> r x H Q →
    wpAny (model X.prog X.w) X.A (f v) (EP X pins σ Q) X.xe s
def CallR (X : Cx) (f : Value) (r : List V -> Hp -> VK -> Prop) : Prop :=
  ∀ (pins : List (Addr × Obj)) (s : Shared) (σ : St) (H : Hp) (xs : List V) (us : List Value) (Q : VK), Inv X pins σ H s -> Vals xs us -> r xs H Q →
    wpAny (model X.prog X.w) X.A (call f us) (EP X pins σ Q) X.xe s
def TruR (X : Cx) (r : V -> Hp -> (Bool -> Hp -> Prop) -> Prop) : Prop :=
  ∀ (pins : List (Addr × Obj)) (s : Shared) (σ : St) (H : Hp) (x : V) (v : Value) (Q : Bool -> Hp -> Prop), Inv X pins σ H s -> RelV x v -> r x H Q →
    wpAny (model X.prog X.w) X.A (truthy v) (TP X pins σ Q) X.xe s
def tOp (r : R2) (ta tb : TE) : TE := λ σ H Q => ta σ H λ x H1 => tb σ H1 λ y H2 => r x y H2 Q
def tUn (r : V -> Hp -> VK -> Prop) (ta : TE) : TE := λ σ H Q => ta σ H λ x H1 => r x H1 Q
def rI (C : Int -> Int -> Prop) (g : Int -> Int -> V) : R2 := λ x y H Q => ∃ i j, x = .int i /\ y = .int j /\ C i j /\ Q (g i j) H
def rI0 (g : Int -> Int -> V) : R2 := λ x y H Q => ∃ i j, x = .int i /\ y = .int j /\ Q (g i j) H
def rU (g : Int -> V) : V -> Hp -> VK -> Prop := λ x H Q => ∃ i, x = .int i /\ Q (g i) H
section
variable {X : Cx} {a b c : Expr} {ta tb tc : TE} {pos : Pos}
theorem binT (ha : PE X a ta) (hb : PE X b tb) {pins : List (Addr × Obj)} {s : Shared} {σ : St} {H : Hp} {R : V -> V -> Hp -> Prop} (I : Inv X pins σ H s)
    (h : ta σ H λ x H1 => tb σ H1 λ y H2 => R x y H2) {Q : Value -> Shared -> Prop} {f : Value -> Value -> Sem Value}
    (hf : ∀ v u s2 x y H2, Inv X pins σ H2 s2 -> RelV x v -> RelV y u -> R x y H2 -> wpAny (model X.prog X.w) X.A (f v u) Q X.xe s2) :
    wpAny (model X.prog X.w) X.A (eval a X.env) (λ v s₁ => wpAny (model X.prog X.w) X.A (eval b X.env) (λ u s₂ => wpAny (model X.prog X.w) X.A (f v u) Q X.xe s₂) X.xe s₁) X.xe s := by
  refine thn (ha pins s σ H _ I h) λ v s1 ⟨x, H1, I1, r1, q1⟩ => ?_
  refine thn (hb pins s1 σ H1 _ I1 q1) λ u s2 ⟨y, H2, I2, r2, q2⟩ => ?_
  exact hf v u s2 x y H2 I2 r1 r2 q2
theorem pe_op {op : Operator} {r : R2} (ho : OpR X (binaryOp op) r) (ha : PE X a ta) (hb : PE X b tb) : PE X (.BinOp a op b pos) (tOp r ta tb) := by
  intro pins s σ H Q I h
  exact wpAny_BinOp (binT ha hb I h λ v u s2 x y H2 I2 rx ry q => ho pins s2 σ H2 x y v u Q I2 rx ry q)
theorem pe_un {op : UnaryOp} {r : V -> Hp -> VK -> Prop} (ho : UnR X (unaryOp op) r) (ha : PE X a ta) : PE X (.UnaryOp op a pos) (tUn r ta) := by
  intro pins s σ H Q I h
  exact UnaryOp_ (thn (ha pins s σ H _ I h) λ v s1 ⟨x, H1, I1, r1, q1⟩ => ho pins s1 σ H1 x v Q I1 r1 q1)
theorem opI {f : Value -> Value -> Sem Value} {C : Int -> Int -> Prop} {g : Int -> Int -> Int}
    (rule : ∀ (i j : Int) (t u : Tok) (s : Shared) (Q : Value -> Shared -> Prop) (E : Value -> Shared -> Prop), C i j -> Q (.int (g i j) s.toks) { s with toks := s.toks + 1 } -> wpAny (model X.prog X.w) X.A (f (.int i t) (.int j u)) Q E s) :
    OpR X f (rI C λ i j => .int (g i j)) := by
  intro pins s σ H x y v u Q I rx ry h
  obtain ⟨i, j, rfl, rfl, hc, q⟩ := h
  obtain ⟨t, rfl⟩ := rx
  obtain ⟨t', rfl⟩ := ry
  exact rule i j t t' s _ _ hc ⟨.int (g i j), H, I.tok _, ⟨_, rfl⟩, q⟩
theorem opI0 {f : Value -> Value -> Sem Value} {g : Int -> Int -> Int}
    (rule : ∀ (i j : Int) (t u : Tok) (s : Shared) (Q : Value -> Shared -> Prop) (E : Value -> Shared -> Prop), Q (.int (g i j) s.toks) { s with toks := s.toks + 1 } -> wpAny (model X.prog X.w) X.A (f (.int i t) (.int j u)) Q E s) :
    OpR X f (rI0 λ i j => .int (g i j)) := by
  intro pins s σ H x y v u Q I rx ry h
  obtain ⟨i, j, rfl, rfl, q⟩ := h
  obtain ⟨t, rfl⟩ := rx
  obtain ⟨t', rfl⟩ := ry
  exact rule i j t t' s _ _ ⟨.int (g i j), H, I.tok _, ⟨_, rfl⟩, q⟩
theorem opB0 {f : Value -> Value -> Sem Value} {g : Int -> Int -> Bool}
    (rule : ∀ (i j : Int) (t u : Tok) (s : Shared) (Q : Value -> Shared -> Prop) (E : Value -> Shared -> Prop), Q (.bool (g i j)) s -> wpAny (model X.prog X.w) X.A (f (.int i t) (.int j u)) Q E s) :
    OpR X f (rI0 λ i j => .bl (g i j)) := by
  intro pins s σ H x y v u Q I rx ry h
  obtain ⟨i, j, rfl, rfl, q⟩ := h
  obtain ⟨t, rfl⟩ := rx
  obtain ⟨t', rfl⟩ := ry
  exact rule i j t t' s _ _ ⟨.bl (g i j), H, I, rfl, q⟩
def CPow (i j : Int) : Prop := 0 <= j /\ j <= 1000000 /\ i.natAbs < 2 ^ 64
def CMul (i j : Int) : Prop := (-(2 ^ 64) < i /\ i < 2 ^ 64) \/ (-(2 ^ 64) < j /\ j < 2 ^ 64)
theorem CMul.ok {i j : Int} (h : CMul i j) : IntMulOk i j := by
  rcases h with ⟨h1, h2⟩ | ⟨h1, h2⟩
  . exact .of_left (intBits_le_64 h1 h2)
  . exact .of_right (intBits_le_64 h1 h2)
theorem op_add : OpR X (binaryOp .Add) (rI0 λ i j => .int (i + j)) := opI0 λ _ _ _ _ _ _ _ q => add_int q
theorem op_sub : OpR X (binaryOp .Sub) (rI0 λ i j => .int (i - j)) := opI0 λ _ _ _ _ _ _ _ q => sub_int q
theorem op_mod : OpR X (binaryOp .Mod) (rI (λ _ j => 0 < j) λ i j => .int (i % j)) := opI λ i j _ _ _ _ _ hc q => by
  have h1 : (0 : Int) < j := hc
  exact mod_int' (by omega) (by rw [Int.fmod_eq_emod_of_nonneg i (by omega)]; exact q)
theorem op_pow : OpR X (binaryOp .Pow) (rI CPow λ i j => .int (i ^ j.toNat)) := opI λ _ _ _ _ _ _ _ hc q => pow_int_small hc.1 hc.2.1 hc.2.2 q
theorem unI {f : Value -> Sem Value} {g : Int -> Int}
    (rule : ∀ (i : Int) (t : Tok) (s : Shared) (Q : Value -> Shared -> Prop) (E : Value -> Shared -> Prop), Q (.int (g i) s.toks) { s with toks := s.toks + 1 } -> wpAny (model X.prog X.w) X.A (f (.int i t)) Q E s) :
    UnR X f (rU λ i => .int (g i)) := by
  intro pins s σ H x v Q I rx h
  obtain ⟨i, rfl, q⟩ := h
  obtain ⟨t, rfl⟩ := rx
  exact rule i t s _ _ ⟨.int (g i), H, I.tok _, ⟨_, rfl⟩, q⟩
theorem un_neg : UnR X (unaryOp .USub) (rU λ i => .int (-i)) := unI λ _ _ _ _ _ q => neg_int q
end
section
variable {X : Cx} {a b c : Expr} {ta tb tc : TE} {pos : Pos}
theorem fZ {pins : List (Addr × Obj)} {σ : St} {H : Hp} {s : Shared} {Q : VK} {k k' : Bool} (I : Inv X pins σ H s) (q : Q (.bl k) H) (e : k = k') : EP X pins σ Q (.bool k') s := by
  subst e
  exact ⟨.bl k, H, I, rfl, q⟩
theorem op_lt : OpR X (compareOp .Lt) (rI0 λ i j => .bl (decide (i < j))) := opB0 λ _ _ _ _ _ _ _ q => lt_int q
theorem op_le : OpR X (compareOp .LtE) (rI0 λ i j => .bl (decide (i <= j))) := opB0 λ _ _ _ _ _ _ _ q => le_int q
theorem op_gt : OpR X (compareOp .Gt) (rI0 λ i j => .bl (decide (j < i))) := opB0 λ _ _ _ _ _ _ _ q => gt_int q
theorem op_ge : OpR X (compareOp .GtE) (rI0 λ i j => .bl (decide (j <= i))) := opB0 λ _ _ _ _ _ _ _ q => ge_int q
theorem oS : OpR X (compareOp .Lt) (λ x y H Q => ∃ i j, x = .str i /\ y = .str j /\ Q (.bl (decide (i.cps.toList < j.cps.toList))) H) := by
  intro pins s σ H x y v u Q I rx ry h
  obtain ⟨i, j, rfl, rfl, q⟩ := h
  obtain ⟨t, rfl⟩ := rx
  obtain ⟨t', rfl⟩ := ry
  exact lt_str (fZ I q rfl)
theorem oT : OpR X (compareOp .In) (λ x y H Q => ∃ i j, x = .str i /\ y = .str j /\ Q (.bl (!(Builtin.Str.occurrences j i 0 j.length 1).isEmpty)) H) := by
  intro pins s σ H x y v u Q I rx ry h
  obtain ⟨i, j, rfl, rfl, q⟩ := h
  obtain ⟨t, rfl⟩ := rx
  obtain ⟨t', rfl⟩ := ry
  exact in_str (fZ I q rfl)
theorem op_isN : OpR X (compareOp .Is) (λ x y H Q => y = .non /\ Q (.bl (decide (x = .non))) H) := by
  intro pins s σ H x y v u Q I rx ry h
  obtain ⟨rfl, q⟩ := h
  cases ry
  refine is_none_gen (fZ I q ?_)
  cases x <;> first
    | (cases rx; rfl)
    | (obtain ⟨t, rfl⟩ := rx; rfl)
theorem op_notN : OpR X (compareOp .IsNot) (λ x y H Q => y = .non /\ Q (.bl (!decide (x = .non))) H) := by
  intro pins s σ H x y v u Q I rx ry h
  obtain ⟨rfl, q⟩ := h
  cases ry
  refine isnot_none_gen (fZ I q ?_)
  cases x <;> first
    | (cases rx; rfl)
    | (obtain ⟨t, rfl⟩ := rx; rfl)
theorem jJ : OpR X (compareOp .NotIn) (λ x y H Q => ∃ i j, x = .str i /\ y = .str j /\ Q (.bl (!(!(Builtin.Str.occurrences j i 0 j.length 1).isEmpty))) H) := by
  intro pins s σ H x y v u Q I rx ry h
  obtain ⟨i, j, rfl, rfl, q⟩ := h
  obtain ⟨t, rfl⟩ := rx
  obtain ⟨t', rfl⟩ := ry
  exact notIn_str (fZ I q rfl)
theorem OpR.or {f : Value -> Value -> Sem Value} {r r' : R2} (h : OpR X f r) (h' : OpR X f r') : OpR X f (λ x y H Q => r x y H Q \/ r' x y H Q) := by
  intro pins s σ H x y v u Q I rx ry q
  rcases q with q | q
  . exact h pins s σ H x y v u Q I rx ry q
  . exact h' pins s σ H x y v u Q I rx ry q
theorem pe_cmpR {op : CmpOp} {r : R2} (ho : OpR X (compareOp op) r) (ha : PE X a ta) (hb : PE X b tb) (hm : behindInMarks op b = false) : PE X (.Compare a [op] [b] pos) (tOp r ta tb) := by
  intro pins s σ H Q I h
  exact wpAny_Compare1 (binT ha hb I h λ v u s2 x y H2 I2 rx ry q => ho pins s2 σ H2 x y v u Q I2 rx ry q) hm
def tTest (t : TE) : TT := λ σ H Q => t σ H λ x H' => ∃ k, x = .bl k /\ Q k H'
theorem pt_cmpR {op : CmpOp} {r : R2} (ho : OpR X (compareOp op) r) (ha : PE X a ta) (hb : PE X b tb) (hm : behindInMarks op b = false) : PT X (.Compare a [op] [b] pos) (tTest (tOp r ta tb)) := by
  intro pins s σ H Q I h
  refine wpAny_isTrue_Compare1 (thn (ha pins s σ H _ I h) λ v s1 ⟨x, H1, I1, r1, q1⟩ => thn (hb pins s1 σ H1 _ I1 q1) λ u s2 ⟨y, H2, I2, r2, q2⟩ =>
    thn (ho pins s2 σ H2 x y v u _ I2 r1 r2 q2) λ c s3 ⟨z, H3, I3, r3, k, e, q3⟩ => ?_) hm
  subst e
  cases r3
  exact wpAny_truthy_bool ⟨H3, I3, q3⟩
def tChain (r r' : R2) (ta tb tc : TE) : TE := λ σ H Q => ta σ H λ x H1 => tb σ H1 λ y H2 => r x y H2 λ z H3 => ∃ k, z = .bl k ∧
  (if k = true then tc σ H3 λ w' H4 => r' y w' H4 Q else Q (.bl false) H3)
theorem pe_chain {op op' : CmpOp} {r r' : R2} (ho : OpR X (compareOp op) r) (ho' : OpR X (compareOp op') r') (ha : PE X a ta) (hb : PE X b tb) (hc : PE X c tc)
    (hm : lastMarks [op, op'] [b, c] = false := by with_unfolding_all rfl) : PE X (.Compare a [op, op'] [b, c] pos) (tChain r r' ta tb tc) := by
  intro pins s σ H Q I h
  refine Compare_chain (thn (ha pins s σ H _ I h) λ v s1 ⟨x, H1, I1, r1, q1⟩ => chain_link (thn (hb pins s1 σ H1 _ I1 q1) λ u s2 ⟨y, H2, I2, r2, q2⟩ =>
    thn (ho pins s2 σ H2 x y v u _ I2 r1 r2 q2) λ d s3 ⟨z, H3, I3, r3, k, e, q3⟩ => ?_)) hm
  subst e
  cases r3
  refine wpAny_truthy_bool ?_
  cases k with
  | false => exact ite_ff ⟨.bl false, H3, I3, rfl, q3⟩
  | true => exact ite_tt (chain_last (thn (hc pins s3 σ H3 _ I3 q3) λ w' s4 ⟨z', H4, I4, r4, q4⟩ => ho' pins s4 σ H4 y z' u w' Q I4 r2 r4 q4))
theorem pt_chain {op op' : CmpOp} {r r' : R2} (ho : OpR X (compareOp op) r) (ho' : OpR X (compareOp op') r') (ha : PE X a ta) (hb : PE X b tb) (hc : PE X c tc)
    (hm : lastMarks [op, op'] [b, c] = false := by with_unfolding_all rfl) : PT X (.Compare a [op, op'] [b, c] pos) (tTest (tChain r r' ta tb tc)) := by
  intro pins s σ H Q I h
  refine isTrue_chain (thn (ha pins s σ H _ I h) λ v s1 ⟨x, H1, I1, r1, q1⟩ => test_link (thn (hb pins s1 σ H1 _ I1 q1) λ u s2 ⟨y, H2, I2, r2, q2⟩ =>
    thn (ho pins s2 σ H2 x y v u _ I2 r1 r2 q2) λ d s3 ⟨z, H3, I3, r3, k, e, q3⟩ => ?_)) hm
  subst e
  cases r3
  refine wpAny_truthy_bool ?_
  cases k with
  | false =>
    obtain ⟨k', e', q'⟩ := q3
    cases e'
    exact ite_ff ⟨H3, I3, q'⟩
  | true =>
    refine ite_tt (test_last (thn (hc pins s3 σ H3 _ I3 q3) λ w' s4 ⟨z', H4, I4, r4, q4⟩ => thn (ho' pins s4 σ H4 y z' u w' _ I4 r2 r4 q4) λ d' s5 ⟨z2, H5, I5, r5, k2, e2, q5⟩ => ?_))
    subst e2
    cases r5
    exact wpAny_truthy_bool ⟨H5, I5, q5⟩
def TruV (K : PySem.W.Frag) (x : V) (H : Hp) (k : Bool) : Prop :=
  match x with
  | .non => k = false
  | .bl b => k = b
  | .int i => k = (i != 0)
  | .str y => y.length <= sizeLine /\ k = ((y.length : Int) != 0)
  | .byt y => y.size <= sizeLine /\ k = ((y.size : Int) != 0)
  | .ref p => (∃ xs, SqL K H p xs /\ k = !xs.isEmpty) \/ (∃ xs, SqT K H p xs /\ k = !xs.isEmpty) \/ ∃ kvs, H p = some (.dK kvs) /\ k = !kvs.isEmpty
  | _ => False
theorem m6 {κ : Type} {kvs : List (κ × V)} {vs : List (κ × Value)} (r : KV kvs vs) : (!vs.isEmpty) = !kvs.isEmpty := by
  cases r <;> rfl
theorem gX {xs : List V} {its : List Value} (r : Vals xs its) : (!its.toArray.isEmpty) = !xs.isEmpty := by
  cases r <;> simp
theorem fb : (sizeLine : Nat) < 2 ^ 63 := by rw [sizeLine_eq]; decide
theorem tru_ok : TruR X (λ x H Q => ∃ k, TruV X.K x H k /\ Q k H) := by
  intro pins s σ H x v Q I rx h
  obtain ⟨k, e, q⟩ := h
  have hl := fb
  have hs : sizeLine = 16777216 := sizeLine_eq
  cases x with
  | non =>
    cases rx
    have e' : k = false := e
    subst e'
    exact truthy_none ⟨H, I, q⟩
  | bl b =>
    cases rx
    have e' : k = b := e
    subst e'
    exact wpAny_truthy_bool ⟨H, I, q⟩
  | int i =>
    obtain ⟨t, rfl⟩ := rx
    have e' : k = (i != 0) := e
    subst e'
    exact PySem.P.truthy_int ⟨H, I, q⟩
  | str y =>
    obtain ⟨t, rfl⟩ := rx
    obtain ⟨hy, e'⟩ : y.length <= sizeLine /\ k = ((y.length : Int) != 0) := e
    subst e'
    exact PySem.P.truthy_str (by omega) ⟨H, I.tok _, q⟩
  | byt y =>
    obtain ⟨t, rfl⟩ := rx
    obtain ⟨hy, e'⟩ : y.size <= sizeLine /\ k = ((y.size : Int) != 0) := e
    subst e'
    exact PySem.W.truthy_bytes (by omega) ⟨H, I.tok _, q⟩
  | ref p =>
    cases rx
    have e' : (∃ xs, SqL X.K H p xs /\ k = !xs.isEmpty) \/ (∃ xs, SqT X.K H p xs /\ k = !xs.isEmpty) \/ ∃ kvs, H p = some (.dK kvs) /\ k = !kvs.isEmpty := e
    rcases e' with ⟨xs, hx, e'⟩ | ⟨xs, hx, e'⟩ | ⟨kvs, hx, e'⟩
    . subst e'
      obtain ⟨its, r, pl, hz⟩ := I.list hx
      have hlen := r.length
      exact wpAny_truthy_list pl.isList (by simp only [List.size_toArray]; omega) ⟨H, I.tok _, by rw [gX r]; exact q⟩
    . subst e'
      obtain ⟨its, r, pl, hz⟩ := I.tuple hx
      have hlen := r.length
      exact truthy_tuple pl (by simp only [List.size_toArray]; omega) ⟨H, I.tok _, by rw [gX r]; exact q⟩
    . subst e'
      obtain ⟨hz, hS, vs, r, m⟩ : kvs.length <= sizeLine /\ (p == sysModules) = false /\ ∃ vs, KV kvs vs /\ s.heap.DictOf (ao X.prog X.w) p vs := I.hok p _ hx
      have hlen : kvs.length = vs.length := Paired.length r
      exact wpAny_truthy_dict hS m (by omega) ⟨H, I.tok _, by rw [m6 r]; exact q⟩
  | _ => exact (show False from e).elim
theorem m7 : OpR X (binaryOp .Add) (λ x y H Q => ∃ i j, x = .str i /\ y = .str j /\ i.length + j.length <= sizeLine /\ Q (.str (i ++ j)) H) := by
  intro pins s σ H x y v u Q I rx ry h
  obtain ⟨i, j, rfl, rfl, hz, q⟩ := h
  obtain ⟨t, rfl⟩ := rx
  obtain ⟨t', rfl⟩ := ry
  exact add_str (λ t' tk => ⟨.str (i ++ j), H, I.tok _, ⟨_, rfl⟩, q⟩) hz
theorem kK : OpR X (inplaceOp .Add) (λ x y H Q => ∃ i j, x = .str i /\ y = .str j /\ i.length + j.length <= sizeLine /\ Q (.str (i ++ j)) H) := by
  intro pins s σ H x y v u Q I rx ry h
  obtain ⟨i, j, rfl, rfl, hz, q⟩ := h
  obtain ⟨t, rfl⟩ := rx
  obtain ⟨t', rfl⟩ := ry
  exact iadd_str (λ t' tk => ⟨.str (i ++ j), H, I.tok _, ⟨_, rfl⟩, q⟩) hz
theorem bq {x : V} {us : List Value} (r : Vals [x] us) : ∃ u, us = [u] /\ RelV x u := by
  cases r with
  | cons r1 r2 => cases r2; exact ⟨_, rfl, r1⟩
theorem nA {x y : V} {us : List Value} (r : Vals [x, y] us) : ∃ u w', us = [u, w'] /\ RelV x u /\ RelV y w' := by
  cases r with
  | cons r1 r2 =>
    cases r2 with
    | cons r3 r4 => cases r4; exact ⟨_, _, rfl, r1, r3⟩
theorem j9 : CallR X (.type "int") (λ xs H Q => (∃ i, xs = [.int i] /\ Q (.int i) H) \/ ∃ k, xs = [.bl k] /\ Q (.int (if k then 1 else 0)) H) := by
  intro pins s σ H xs us Q I r h
  rcases h with ⟨i, rfl, q⟩ | ⟨k, rfl, q⟩
  . obtain ⟨u, rfl, t, rfl⟩ := bq r
    exact call_int_int ⟨.int i, H, I, ⟨_, rfl⟩, q⟩
  . obtain ⟨u, rfl, r1⟩ := bq r
    cases r1
    exact call_int_bool ⟨.int (if k then 1 else 0), H, I.tok _, ⟨_, rfl⟩, q⟩
end
end L2
namespace L2
open PySem PySem.Spec PyProof.Rows
structure ObjM (h : Heap) (x dx C : Addr) (mA : Str -> Option Value) : Prop where
  obj : h.get? x = some (PySem.W.instObj C dx)
  ns : h.Ns1 dx mA
  ne : dx ≠ x
theorem oU {h : Heap} {dx : Addr} {mA : Str -> Option Value} (n : h.Ns1 dx mA) : ∃ od, h.get? dx = some od /\ ∀ name, PySem.W.lookIn name od = some (mA name) := by
  obtain ⟨o, es, ep, ho, hd, hk, _, hm⟩ := n
  refine ⟨o, ho, λ name => ?_⟩
  have e := hm name
  unfold nsFind findBy at e
  rw [<- Array.find?_toList] at e
  unfold PySem.W.lookIn
  rw [hd]
  dsimp only
  split
  . rename_i y q
    rw [q] at e
    exact congrArg some e
  . rename_i q
    rw [q] at e
    have a : es.toList.any (·.refKey) = false := by
      rw [List.any_eq_false]
      intro y hy
      obtain ⟨z, t, hkey⟩ := hk y (Array.mem_toList_iff.mp hy)
      simp [DictEntry.refKey, hkey]
    have a' : ¬ es.toList.any (·.refKey) = true := by rw [a]; exact Bool.false_ne_true
    rw [if_neg a']
    exact congrArg some e
theorem ObjM.look {h : Heap} {x dx C : Addr} {mA : Str -> Option Value} (I : ObjM h x dx C mA) : ∃ od, PySem.W.InstAt h x (PySem.W.instObj C dx) C (some od) /\ ∀ name, PySem.W.lookIn name od = some (mA name) :=
  let ⟨od, ho, hl⟩ := oU I.ns
  ⟨od, ⟨I.obj, rfl, rfl, ho⟩, hl⟩
section
variable {prog : Program} {w : World} {A : Around} {E : Value -> Shared -> Prop} {s : Shared} {K : PySem.W.Frag} {x dx C f : Addr} {mA : Str -> Option Value} {name : Str} {v : Value}
theorem get_map {expr : Bool} {Q : Value -> Shared -> Prop} (X : K.In s.heap) (I : ObjM s.heap x dx C mA) (hg : PySem.W.plainGet K C name = true) (hh : PySem.W.hasDictIn K C = true)
    (ha : PySem.W.findIn K (.ref C) name = some none) (hv : mA name = some v) (hv' : PySem.W.handedIn v = true) (h : Q v { s with toks := s.toks + 1 }) :
    wpAny (model prog w) A (getAttr (.ref x) name expr) Q E s := by
  obtain ⟨od, J, hl⟩ := I.look
  exact PySem.W.get_value X J (PySem.W.plainGet_of hg).1 (PySem.W.findObj_own hh ha rfl (by rw [hl, hv])) hv' h
theorem get_meth {pl : Sem Bool} {Q : Value × List Value -> Shared -> Prop} (X : K.In s.heap) (I : ObjM s.heap x dx C mA) (hg : PySem.W.plainGet K C name = true)
    (hf : PySem.W.findIn K (.ref C) name = some (some (.ref f))) (ht : PySem.W.isFn K (.ref f) = true) (hv : mA name = none) (h : Q (.ref f, [.ref x]) s) :
    wpAny (model prog w) A (getMethod (.ref x) name pl) Q E s := by
  obtain ⟨od, J, hl⟩ := I.look
  exact PySem.W.method_fn X J (PySem.W.plainGet_of hg).1 (PySem.W.plainGet_of hg).2 hf (beq_iff_eq.mp ht) (by show (PySem.W.lookIn name od).map (·.isSome) = some false; rw [hl, hv]; rfl) h
theorem set_map {ns : List Str} {Q : Unit -> Shared -> Prop} (X : K.In s.heap) (I : ObjM s.heap x dx C mA)
    (hs : PySem.W.findIn K (.ref C) "__setattr__" = some (some (.builtin "object.__setattr__"))) (hp : PySem.W.plainOver K C = true) (ht : PySem.W.takerIn K C name = some none) (hh : PySem.W.hasDictIn K C = true)
    (hw : PySem.Within mA ns) (hsz : ns.length <= sizeLine)
    (h : ∀ h', ObjM h' x dx C (λ y => if y = name then some v else mA y) -> Heap.SameBut dx s.heap h' -> Q () { s with heap := h', toks := s.toks + 2 }) :
    wpAny (model prog w) A (setAttr (.ref x) name v) Q E s := by
  obtain ⟨od, J, hl⟩ := I.look
  refine PySem.W.set_plain X J hs (PySem.W.osa_open (s := { s with toks := s.toks + 1 }) (r := none) X J hp ht λ b => ?_)
  obtain ⟨cd, hc, hd'⟩ := PySem.W.any_some hh
  have hx : s.heap.get? x = some ⟨.ref C, some dx, .plain, #[]⟩ := I.obj
  refine wpAny_bind (wpAny_pure (wpAny_bind (wpAny_bind (wpAny_loadPart hx (wpAny_bind (PySem.W.Looks.here (s := { s with toks := s.toks + 1 }) (PySem.W.looks_clsIn X hc) ?_))))))
  rw [hd']
  refine wpAny_pure (a := some dx) (wpAny_bind (wpAny_pure (wpAny_bind ?_)))
  refine wpAny_nsSet1 (s := { s with toks := s.toks + 1 }) I.ns λ h' hn2 hs2 => ?_
  obtain ⟨oD, esD, epD, hoD, hdD, hcD⟩ := hn2.count (PySem.Within.cons name v hw)
  refine wpAny_bind (wpAny_lookBehind hoD (by rw [hdD]; exact pastItsLine_dict (Nat.le_trans hcD (by rw [List.length_cons]; omega))) ?_)
  exact wpAny_pure (h _ ⟨(hs2.2 _ (Ne.symm I.ne)).trans I.obj, hn2, I.ne⟩ hs2)
theorem make_map {R : Result -> Shared -> Prop} {vs : List Value} {kw : List (Str × Value)} (X : K.In s.heap) (hm : PySem.W.makesIn K C = true)
    (hi : PySem.W.findIn K (.ref C) "__init__" = some (some (.ref f))) (hf : PySem.W.typeIn K (.ref f) = some (.type "function"))
    (h : codeAny (model prog w) (A.under (.builtin "type.__call__" ⟨.ref C :: vs, kw⟩)) (.call (.ref f) ⟨.ref (s.heap.objs.size + 1) :: vs, kw⟩) (PySem.W.InitBack (s.heap.objs.size + 1) R)
      { s with heap := (s.heap.push PySem.W.emptyDict).push (PySem.W.instObj C s.heap.objs.size) }) :
    codeAny (model prog w) A (.call (.ref C) ⟨vs, kw⟩) R s := by
  obtain ⟨hh, g, d, t, os⟩ := s
  exact PySem.W.make_core (PySem.W.makes_of X hm) (PySem.W.looks_findIn X hi) (λ self => PySem.W.bind_fn X self hf) (.inl rfl) h
end
def putF (f : Str) (v : V) : List (Str × V) -> List (Str × V)
  | [] => [(f, v)]
  | (g, x) :: r => if g = f then (g, v) :: r else (g, x) :: putF f v r
theorem gk (f g : Str) (v : V) : ∀ fs : List (Str × V), (putF f v fs).lookup g = if g = f then some v else fs.lookup g
  | [] => by
    show List.lookup g [(f, v)] = _
    by_cases h : g = f
    . have hb : (g == f) = true := beq_iff_eq.mpr h
      simp only [List.lookup, hb, if_pos h]
    . have hb : (g == f) = false := beq_eq_false_iff_ne.mpr h
      simp only [List.lookup, hb, if_neg h]
  | (k, x) :: r => by
    have ih := gk f g v r
    rw [show putF f v ((k, x) :: r) = (if k = f then (k, v) :: r else (k, x) :: putF f v r) from rfl]
    by_cases hk : k = f
    . rw [if_pos hk]
      by_cases h : g = k
      . have hb : (g == k) = true := beq_iff_eq.mpr h
        simp only [List.lookup, hb, if_pos (h.trans hk)]
      . have hb : (g == k) = false := beq_eq_false_iff_ne.mpr h
        simp only [List.lookup, hb, if_neg (λ e : g = f => h (e.trans hk.symm))]
    . rw [if_neg hk]
      by_cases h : g = k
      . have hb : (g == k) = true := beq_iff_eq.mpr h
        simp only [List.lookup, hb, if_neg (λ e : g = f => hk (h.symm.trans e))]
      . have hb : (g == k) = false := beq_eq_false_iff_ne.mpr h
        simp only [List.lookup, hb]
        exact ih
theorem g0 (f : Str) (v : V) : ∀ fs : List (Str × V), f ∈ (putF f v fs).map (·.1) /\ ∀ g, g ∈ fs.map (·.1) -> g ∈ (putF f v fs).map (·.1)
  | [] => ⟨by simp [putF], λ g h => by simp at h⟩
  | (k, x) :: r => by
    obtain ⟨i1, i2⟩ := g0 f v r
    rw [show putF f v ((k, x) :: r) = (if k = f then (k, v) :: r else (k, x) :: putF f v r) from rfl]
    by_cases hk : k = f
    . rw [if_pos hk]
      subst hk
      exact ⟨by simp, λ g h => by simpa using h⟩
    . rw [if_neg hk]
      refine ⟨?_, λ g h => ?_⟩
      . rw [List.map_cons]
        exact List.mem_cons_of_mem _ i1
      . rw [List.map_cons] at h ⊢
        rcases List.mem_cons.mp h with e | e
        . exact List.mem_cons.mpr (.inl e)
        . exact List.mem_cons_of_mem _ (i2 g e)
theorem gm (f : Str) (v : V) : ∀ fs : List (Str × V), (putF f v fs).length <= fs.length + 1
  | [] => by simp [putF]
  | (k, x) :: r => by
    have ih := gm f v r
    rw [show putF f v ((k, x) :: r) = (if k = f then (k, v) :: r else (k, x) :: putF f v r) from rfl]
    by_cases hk : k = f
    . rw [if_pos hk, List.length_cons, List.length_cons]; omega
    . rw [if_neg hk, List.length_cons, List.length_cons]; omega
theorem RelO.some_of {v : V} {o : Option Value} (r : RelO (some v) o) : ∃ u, o = some u /\ RelV v u := by
  cases o with
  | none => exact (show False from r).elim
  | some u => exact ⟨u, rfl, r⟩
theorem RelO.none_of {o : Option Value} (r : RelO none o) : o = none := by
  cases o with
  | none => rfl
  | some u => exact (show False from r).elim
theorem oV {v : V} {u : Value} (r : RelV v u) : PySem.W.handedIn u = true := by
  cases v with
  | non => cases (show u = Value.none from r); rfl
  | bl b => cases (show u = Value.bool b from r); rfl
  | int i => obtain ⟨t, e⟩ := (show ∃ t, u = Value.int i t from r); cases e; rfl
  | str x => obtain ⟨t, e⟩ := (show ∃ t, u = Value.str x t from r); cases e; rfl
  | byt b => obtain ⟨t, e⟩ := (show ∃ t, u = Value.bytes b t from r); cases e; rfl
  | flt b => obtain ⟨t, e⟩ := (show ∃ t, u = Value.float b t from r); cases e; rfl
  | ref a => cases (show u = Value.ref a from r); rfl
  | ty n => cases (show u = Value.type n from r); rfl
section
variable {P : Program} {w : World} {H H' : Hp} {h h' : Heap} {a C dx : Addr} {fs fs' : List (Str × V)}
theorem gM (hok : HOk P w H h) (e : H a = some (.ins C dx fs)) : ∃ mA, ObjM h a dx C mA /\ (∀ f, RelO (fs.lookup f) (mA f)) /\ PySem.Within mA (fs.map (·.1)) /\ fs.length <= 1000 /\ H dx = some (.own a) := by
  obtain ⟨d, z, ne, ob, mA, n, r, q⟩ := (show ObjOk P w H h a (.ins C dx fs) from hok a _ e)
  exact ⟨mA, ⟨ob, n, ne⟩, r, q, z, d⟩
end
structure Cls (K : PySem.W.Frag) (C : Addr) : Prop where
  pg : PySem.W.plainGet K C Str.empty = true
  hd : PySem.W.hasDictIn K C = true
  po : PySem.W.plainOver K C = true
  sa : PySem.W.findIn K (.ref C) "__setattr__" = some (some (.builtin "object.__setattr__"))
theorem Cls.get {K : PySem.W.Frag} {C : Addr} (c : Cls K C) (f : Str) : PySem.W.plainGet K C f = true := c.pg
def NoAttr (K : PySem.W.Frag) (C : Addr) (f : Str) : Prop := PySem.W.findIn K (.ref C) f = some none
theorem NoAttr.taker {K : PySem.W.Frag} {C : Addr} {f : Str} (n : NoAttr K C f) : PySem.W.takerIn K C f = some none := by
  unfold PySem.W.takerIn
  rw [show PySem.W.findIn K (.ref C) f = some none from n]
  rfl
structure Meth (K : PySem.W.Frag) (C : Addr) (m : Str) (f : Addr) : Prop where
  at_ : PySem.W.findIn K (.ref C) m = some (some (.ref f))
  fn : PySem.W.isFn K (.ref f) = true
  kp : PySem.W.keepIn K (.ref f) = true
section
variable {X : Cx} {pins : List (Addr × Obj)} {σ : St} {H : Hp} {s : Shared} {a C dx : Addr} {fs : List (Str × V)} {f : Str} {v : V} {A : Around} {E : Value -> Shared -> Prop}
theorem m8 {b : Bool} {Q : Value -> Shared -> Prop} (I : Inv X pins σ H s) (e : H a = some (.ins C dx fs)) (c : Cls X.K C) (n : NoAttr X.K C f) (l : fs.lookup f = some v)
    (h : ∀ u s', Inv X pins σ H s' -> RelV v u -> Q u s') : wpAny (model X.prog X.w) A (getAttr (.ref a) f b) Q E s := by
  obtain ⟨mA, O, r, _, _, _⟩ := gM I.hok e
  obtain ⟨u, hu, ru⟩ := RelO.some_of (v := v) (o := mA f) (by rw [<- l]; exact r f)
  exact get_map I.kIn O (c.get f) c.hd n hu (oV ru) (h u _ (I.tok _) ru)
theorem gY {m : Str} {g : Addr} {pl : Sem Bool} {Q : Value × List Value -> Shared -> Prop} (I : Inv X pins σ H s) (e : H a = some (.ins C dx fs)) (c : Cls X.K C) (k : Meth X.K C m g) (l : fs.lookup m = none)
    (h : Q (.ref g, [.ref a]) s) : wpAny (model X.prog X.w) A (getMethod (.ref a) m pl) Q E s := by
  obtain ⟨mA, O, r, _, _, _⟩ := gM I.hok e
  have hn : mA m = none := RelO.none_of (by rw [<- l]; exact r m)
  exact get_meth I.kIn O (c.get m) k.at_ k.fn hn h
theorem m9 {y : V} {u : Value} {Q : Unit -> Shared -> Prop} (I : Inv X pins σ H s) (e : H a = some (.ins C dx fs)) (c : Cls X.K C) (n : NoAttr X.K C f) (hl : fs.length < 1000) (ry : RelV y u)
    (h : ∀ s', Inv X pins σ (upd H a (.ins C dx (putF f y fs))) s' -> Q () s') : wpAny (model X.prog X.w) A (setAttr (.ref a) f u) Q E s := by
  obtain ⟨mA, O, r, wi, _, ho⟩ := gM I.hok e
  have hz : (fs.map (·.1)).length <= sizeLine := by rw [List.length_map, sizeLine_eq]; omega
  refine set_map I.kIn O c.sa c.po n.taker c.hd wi hz λ h' O' sb => h _ ?_
  have hd : ∃ o, h'.get? dx = some o := let ⟨o, _, _, e', _⟩ := O'.ns; ⟨o, e'⟩
  refine I.write (x := a) (e := dx) (by rw [e]; exact True.intro) (.inr ho) (λ b q hb z => (sb.2 b hb).trans z) hd ?_
  refine ⟨by rw [a4 O.ne]; exact ho, ?_, O.ne, O'.obj, _, O'.ns, λ g => ?_, λ g hg => ?_⟩
  . have := gm f y fs; omega
  . show RelO ((putF f y fs).lookup g) (if g = f then some u else mA g)
    rw [gk]
    by_cases q : g = f
    . rw [if_pos q, if_pos q]; exact ry
    . rw [if_neg q, if_neg q]; exact r g
  . by_cases q : g = f
    . rw [q]; exact (g0 f y fs).1
    . refine (g0 f y fs).2 g (wi g λ z => hg ?_)
      show (if g = f then some u else mA g) = none
      rw [if_neg q]; exact z
theorem Inv.made (I : Inv X pins σ H s) : Inv X pins σ (upd (upd H s.heap.objs.size (.own (s.heap.objs.size + 1))) (s.heap.objs.size + 1) (.ins C s.heap.objs.size []))
    { s with heap := (s.heap.push PySem.W.emptyDict).push (PySem.W.instObj C s.heap.objs.size) } := by
  have e1 : (s.heap.push PySem.W.emptyDict).get? s.heap.objs.size = some PySem.W.emptyDict := Heap.get?_push_size s.heap rfl
  have e2 : ((s.heap.push PySem.W.emptyDict).push (PySem.W.instObj C s.heap.objs.size)).get? (s.heap.objs.size + 1) = some (PySem.W.instObj C s.heap.objs.size) := by
    have := Heap.get?_push_size (s.heap.push PySem.W.emptyDict) (o := PySem.W.instObj C s.heap.objs.size) rfl
    rwa [Heap.size_push] at this
  have e3 : (s.heap.push PySem.W.emptyDict).Ns s.heap.objs.size (λ _ => none) := ⟨PySem.W.emptyDict, #[], _, e1, rfl, (λ e he => absurd he (by simp)), λ _ => rfl⟩
  have I1 := I.laid (a := s.heap.objs.size) (o := .own (s.heap.objs.size + 1)) (h' := s.heap.push PySem.W.emptyDict) (t' := s.toks) (λ b u q => Heap.get?_push_of_some _ q) (Nat.le_refl _) ⟨_, e1⟩
  refine I1.laid (a := s.heap.objs.size + 1) (o := .ins C s.heap.objs.size []) (t' := s.toks) (λ b u q => Heap.get?_push_of_some _ q) (Nat.le_of_eq (Heap.size_push _ _)) ?_
  have ne : s.heap.objs.size ≠ s.heap.objs.size + 1 := Nat.ne_of_lt (Nat.lt_succ_self _)
  refine ⟨by rw [a4 ne, a5], Nat.zero_le _, ne, e2, λ _ => none, (Heap.Ns1.of_empty e3).at λ o q => Heap.get?_push_of_some _ q, λ _ => True.intro, λ y hy => absurd rfl hy⟩
theorem attr_of {prog : Program} {w : World} {env : Env} {e : Expr} {f : Str} {pos : Pos} {s : Shared} {Q : Value -> Shared -> Prop} (hb : attributeBase e f env (eval e env) = eval e env)
    (h : wpAny (model prog w) A (eval e env) (λ o s₁ => wpAny (model prog w) A (getAttr o f true) Q E s₁) E s) : wpAny (model prog w) A (eval (.Attribute e f pos) env) Q E s :=
  Attribute_any_ h (by rw [arm_eval_Attribute, hb])
end
def sFld (K : PySem.W.Frag) (ta tv : TE) (f : Str) : TS := λ D σ H => tv σ H λ y H1 => ta σ H1 λ x H2 => ∃ a C dx fs, x = .ref a /\ H2 a = some (.ins C dx fs) /\ Cls K C /\ NoAttr K C f /\ fs.length < 1000 ∧
  D.nx σ (upd H2 a (.ins C dx (putF f y fs)))
section
variable {X : Cx} {o e value : Expr} {f : Str} {pos pos' tpos : Pos} {ta tv : TE}
theorem ps_fld (ha : PE X o ta) (hv : PE X value tv) (hs : swapsWith value (some (.Attribute o f pos')) pos.line X.env = pure false) : PS X (.Assign [.Attribute o f pos'] value pos) (sFld X.K ta tv f) := by
  intro pins s σ H D I h
  refine plainObj_wpAny_Assign_Attribute (thn (hv pins s σ H _ I h) λ u s1 ⟨y, H1, I1, ry, q⟩ => thn (ha pins s1 σ H1 _ I1 q) λ ov s2 ⟨x, H2, I2, rx, a, C, dx, fs, ex, ea, c, n, l, q2⟩ => ?_) hs
  subst ex
  obtain rfl : ov = Value.ref a := rx
  exact m9 I2 ea c n l ry λ s3 I3 => ⟨σ, _, I3, q2⟩
end
section
variable {X : Cx} {pins : List (Addr × Obj)} {σ : St} {H : Hp} {s : Shared} {A : Around} {E : Value -> Shared -> Prop} {Q : Value -> Shared -> Prop} {c : Value} {b : Bool}
inductive TyOf (K : PySem.W.Frag) (H : Hp) : V -> Value -> Prop where
  | non : TyOf K H .non (.type "NoneType")
  | bl (x : Bool) : TyOf K H (.bl x) (.type "bool")
  | int (i : Int) : TyOf K H (.int i) (.type "int")
  | str (x : Str) : TyOf K H (.str x) (.type "str")
  | flt (x : UInt64) : TyOf K H (.flt x) (.type "float")
  | lst {a : Addr} {xs : List V} (e : H a = some (.lst xs)) : TyOf K H (.ref a) (.type "list")
  | frz {a : Addr} {o : Obj} {xs : List V} (e : H a = some (.frz o (.lst xs))) : TyOf K H (.ref a) (.type "list")
  | tup {a : Addr} {xs : List V} (e : H a = some (.tup xs)) : TyOf K H (.ref a) (.type "tuple")
  | dK {a : Addr} {kvs : List (Key × V)} (e : H a = some (.dK kvs)) : TyOf K H (.ref a) (.type "dict")
  | dT {a : Addr} {kvs : List (List Key × V)} (e : H a = some (.dT kvs)) : TyOf K H (.ref a) (.type "dict")
  | ins {a C dx : Addr} {fs : List (Str × V)} (e : H a = some (.ins C dx fs)) (cl : Cls K C) (ha : PySem.W.findIn K (.ref C) "__class__" = some (some (.builtin "object.__class__")))
      (hn : PySem.W.specialIn K (.builtin "object.__class__") "__get__" = some (some (.builtin "getset_descriptor.__get__"))) (htk : PySem.W.takesIn K (.builtin "object.__class__") = some true)
      (hm : PySem.W.mroIn K C (.type "object") = some true) : TyOf K H (.ref a) (.ref C)
theorem ja {x : V} {u t : Value} (I : Inv X pins σ H s) (rx : RelV x u) (ty : TyOf X.K H x t) (e : PySem.W.kitOne X.K t c = some b) (h : ∀ tk, Q (.bool b) { s with toks := tk }) :
    wpAny (model X.prog X.w) A (call (.builtin "isinstance") [u, c]) Q E s := by
  cases ty with
  | non => cases (show u = Value.none from rx); exact PySem.W.kia_one PySem.W.kitx_none I.kIn True.intro e (λ z => nomatch z) h
  | bl y => cases (show u = Value.bool y from rx); exact PySem.W.kia_one PySem.W.kitx_bool I.kIn True.intro e (λ z => nomatch z) h
  | int i => obtain ⟨t, q⟩ := (show ∃ t, u = Value.int i t from rx); cases q; exact PySem.W.kia_one PySem.W.kitx_int I.kIn True.intro e (λ z => nomatch z) h
  | str y => obtain ⟨t, q⟩ := (show ∃ t, u = Value.str y t from rx); cases q; exact PySem.W.kia_one PySem.W.kitx_str I.kIn True.intro e (λ z => nomatch z) h
  | flt y => obtain ⟨t, q⟩ := (show ∃ t, u = Value.float y t from rx); cases q; exact PySem.W.kia_one PySem.W.kitx_float I.kIn True.intro e (λ z => nomatch z) h
  | @lst a xs ea =>
    cases (show u = Value.ref a from rx)
    obtain ⟨_, _, n, _, h1⟩ := (show ObjOk X.prog X.w H s.heap a (.lst xs) from I.hok a _ ea)
    exact PySem.W.kia_one PySem.W.kitx_list I.kIn ⟨_, h1, rfl⟩ e (λ z => nomatch z) h
  | @frz a ob xs ea =>
    cases (show u = Value.ref a from rx)
    obtain ⟨_, _, _, n, _, h1⟩ := (show ObjOk X.prog X.w H s.heap a (.frz ob (.lst xs)) from I.hok a _ ea)
    exact PySem.W.kia_one PySem.W.kitx_list I.kIn ⟨_, h1, rfl⟩ e (λ z => nomatch z) h
  | @tup a xs ea =>
    cases (show u = Value.ref a from rx)
    obtain ⟨_, _, _, p⟩ := (show ObjOk X.prog X.w H s.heap a (.tup xs) from I.hok a _ ea)
    obtain ⟨o, h1, h2, _⟩ := p
    exact PySem.W.kia_one PySem.W.kitx_tuple I.kIn ⟨o, h1, h2⟩ e (λ z => nomatch z) h
  | @dK a kvs ea =>
    cases (show u = Value.ref a from rx)
    obtain ⟨_, _, vs, _, p⟩ := (show ObjOk X.prog X.w H s.heap a (.dK kvs) from I.hok a _ ea)
    obtain ⟨o, es, ep, h1, h2, _⟩ := p
    exact PySem.W.kia_one PySem.W.kitx_dict I.kIn ⟨o, h1, h2.1⟩ e (λ z => nomatch z) h
  | @dT a kvs ea =>
    cases (show u = Value.ref a from rx)
    obtain ⟨_, _, xs, _, o, es, ep, h1, h2, _⟩ := (show ObjOk X.prog X.w H s.heap a (.dT kvs) from I.hok a _ ea)
    exact PySem.W.kia_one PySem.W.kitx_dict I.kIn ⟨o, h1, h2.1⟩ e (λ z => nomatch z) h
  | @ins a C dx fs ea cl ha hn htk hm =>
    cases (show u = Value.ref a from rx)
    obtain ⟨mA, O, _⟩ := gM I.hok ea
    obtain ⟨od, J, _⟩ := O.look
    exact PySem.W.kia_one (PySem.W.kitx_own (cl.get _) cl.hd ha hn htk hm) I.kIn J e (λ z => nomatch z) h
end
end L2
namespace L2
open PySem PySem.Spec PyProof.Rows
structure Room (k : Nat) (A : Around) : Prop where
  hd : A.handled = none
  dp : A.depth + 3 * k + 5 < recursionLimit
  un : A.units + 16 * k + 200 < cLine
theorem Room.mono {j k : Nat} {A : Around} (r : Room k A) (h : j <= k) : Room j A := ⟨r.hd, by have := r.dp; omega, by have := r.un; omega⟩
theorem Room.deeper {k : Nat} {A : Around} (r : Room (k + 1) A) (env : Env) : Room k (A.deeper env) :=
  ⟨r.hd, by have := r.dp; show A.depth + 1 + 3 * k + 5 < _; omega, by have := r.un; show A.units + 3 + 16 * k + 200 < _; omega⟩
theorem ma {A : Around} {C : Addr} {us : List Value} {kw : List (Str × Value)} : (A.under (.builtin "type.__call__" ⟨.ref C :: us, kw⟩)).depth = A.depth + 1 := by
  first | rfl | simp [Around.under, Code.weight, Code.isCreation, Code.isGuard, Code.isCaller, Code.frames, Code.isFrame, guardIds]
theorem md {A : Around} {C : Addr} {us : List Value} {kw : List (Str × Value)} : (A.under (.builtin "type.__call__" ⟨.ref C :: us, kw⟩)).units = A.units + 1 := by
  first | rfl | simp [Around.under, Code.cUnits, Code.frames, Code.isFrame]
theorem Room.make {k : Nat} {A : Around} (r : Room (k + 1) A) (C : Addr) (us : List Value) (kw : List (Str × Value)) : Room k (A.under (.builtin "type.__call__" ⟨.ref C :: us, kw⟩)) :=
  ⟨r.hd, by have := r.dp; rw [ma]; omega, by have := r.un; rw [md]; omega⟩
theorem Room.depth {k : Nat} {A : Around} (r : Room k A) : A.depth < recursionLimit := by have := r.dp; omega
theorem Room.units {k : Nat} {A : Around} (r : Room k A) : A.units + 64 < cLine := by have := r.un; omega
def a8 : TA := λ _ H Q => Q [] H
def a3 (ta : TE) (tr : TA) : TA := λ σ H Q => ta σ H λ x H1 => tr σ H1 λ xs H2 => Q (x :: xs) H2
section
variable {X : Cx} {e : Expr} {es : List Expr} {te : TE} {t : TA} {pos : Pos}
theorem pa_nil : PA X [] a8 := λ _ _ _ _ H Q I h => Calls.spliced_nil ⟨[], H, I, .nil, h⟩
theorem pa_cons (ha : PE X e te) (hr : PA X es t) (hs : starEach (e :: es) X.env = (false, eval e X.env) :: starEach es X.env := by rfl) : PA X (e :: es) (a3 te t) := by
  intro pos pins s σ H Q I h
  rw [hs]
  show wpAny _ _ (spliced ((false, eval e X.env) :: backTo pos (starEach es X.env))) _ _ s
  refine Calls.spliced_cons (thn (ha pins s σ H _ I h) λ u s1 ⟨x, H1, I1, r1, q1⟩ => ?_)
  exact thn (hr pos pins s1 σ H1 _ I1 q1) λ us s2 ⟨xs, H2, I2, r2, q2⟩ => ⟨x :: xs, H2, I2, .cons r1 r2, q2⟩
def tTup (t : TA) : TE := λ σ H Q => t σ H λ xs H1 => xs.length <= sizeLine /\ ∀ p, H1 p = none -> Q (.ref p) (upd H1 p (.tup xs))
def tLst (t : TA) : TE := λ σ H Q => t σ H λ xs H1 => xs.length <= sizeLine /\ ∀ p, H1 p = none -> Q (.ref p) (upd H1 p (.lst xs))
theorem pe_tup {x1} (h : PA X es t) : PE X (.Tuple es x1 pos) (tTup t) := by
  intro pins s σ H Q I hq
  refine wpAny_Tuple_spliced (thn (h pos pins s σ H _ I hq) λ us s1 ⟨xs, H1, I1, r, z, q⟩ => ⟨by rw [<- r.length]; exact z, ?_⟩)
  have hf : H1 s1.heap.objs.size = none := I1.hok.fresh (Nat.le_refl _)
  refine ⟨.ref s1.heap.objs.size, upd H1 s1.heap.objs.size (.tup xs), I1.laid (t' := s1.toks) (λ b u e => Heap.get?_push_of_some _ e) (Nat.le_refl _) ?_, rfl, q _ hf⟩
  exact ⟨z, us, r, ⟨_, Heap.get?_push_size _ rfl, rfl, _, rfl⟩⟩
theorem pe_lst (h : PA X es t) : PE X (.List es pos) (tLst t) := by
  intro pins s σ H Q I hq
  refine wpAny_List_spliced (thn (h pos pins s σ H _ I hq) λ us s1 ⟨xs, H1, I1, r, z, q⟩ => ⟨by rw [<- r.length]; exact z, ?_⟩)
  have hf : H1 s1.heap.objs.size = none := I1.hok.fresh (Nat.le_refl _)
  refine ⟨.ref s1.heap.objs.size, upd H1 s1.heap.objs.size (.lst xs), I1.laid (t' := s1.toks) (λ b u e => Heap.get?_push_of_some _ e) (Nat.le_refl _) ?_, rfl, q _ hf⟩
  exact ⟨z, us, 0, r, Heap.get?_push_size _ rfl⟩
end
abbrev Sp := List V -> Hp -> VK -> XK -> Prop
abbrev CXT := List Env -> Hp -> Shared -> XK -> Value -> Shared -> Prop
structure Env0 (P : Program) (w : World) (K : PySem.W.Frag) (mg : Str -> Option Value) (base : Heap) (A : Around) (outer : List Env) (s : Shared) (H : Hp) : Prop where
  frames : A.frames = some outer
  mod : Mod K mg base
  bs : ∀ b o, base.get? b = some o -> s.heap.get? b = some o /\ H b = none
  bsz : base.objs.size <= s.heap.objs.size
  funs : s.heap.FunFrames base outer
  frf : ∀ b ∈ frs outer, H b = none
  hok : HOk P w H s.heap
  bare : AllBare s.gens
def CE (outer : List Env) (P : Program) (w : World) (H : Hp) (s : Shared) (Q : VK) (u : Value) (s' : Shared) : Prop :=
  ∃ v H', s'.os = s.os /\ AllBare s'.gens /\ Un (frs outer) [] H H' s.heap s'.heap /\ HOk P w H' s'.heap /\ RelV v u /\ Q v H'
def CR (CX : CXT) (outer : List Env) (P : Program) (w : World) (H : Hp) (s : Shared) (Q : VK) (E : XK) (r : Result) (s' : Shared) : Prop :=
  match r with
  | .ok (.ret u) => CE outer P w H s Q u s'
  | .ok _ => False
  | .error e => CX outer H s E e s'
structure FnOk (P : Program) (w : World) (K : PySem.W.Frag) (mg : Str -> Option Value) (base : Heap) (CX : CXT) (k : Nat) (f : Addr) (fd : FuncData) (ps : List Str) (sp : Sp) : Prop where
  len : ∀ vs H Q E, sp vs H Q E -> vs.length = ps.length
  run : ∀ (A : Around) (outer : List Env) (s : Shared) (H : Hp) (args : Args) (us : List Value) (vs : List V) (Q : VK) (E : XK), Room k A -> Env0 P w K mg base A outer s H -> BindsTo s fd args (ps.zip us) -> Vals vs us -> sp vs H Q E →
    codeAny (model P w) A (.call (.ref f) args) (CR CX outer P w H s Q E) s
theorem FnOk.mono {P : Program} {w : World} {K : PySem.W.Frag} {mg : Str -> Option Value} {base : Heap} {CX : CXT} {j k : Nat} {f : Addr} {fd : FuncData} {ps : List Str} {sp : Sp} (F : FnOk P w K mg base CX j f fd ps sp) (h : j <= k) :
    FnOk P w K mg base CX k f fd ps sp := ⟨F.len, λ A outer s H args us vs Q E hr => F.run A outer s H args us vs Q E (hr.mono h)⟩
theorem Env0.make {P : Program} {w : World} {K : PySem.W.Frag} {mg : Str -> Option Value} {base : Heap} {A : Around} {outer : List Env} {s : Shared} {H : Hp} (e : Env0 P w K mg base A outer s H) (C : Addr) (us : List Value) (kw : List (Str × Value)) :
    Env0 P w K mg base (A.under (.builtin "type.__call__" ⟨.ref C :: us, kw⟩)) outer s H := ⟨by first | exact e.frames | (simpa [Around.under, Code.envs, Code.isFrame, pushEnvs] using e.frames), e.mod, e.bs, e.bsz, e.funs, e.frf, e.hok, e.bare⟩
section
variable {X : Cx} {pins : List (Addr × Obj)} {σ : St} {H : Hp} {s s' : Shared}
theorem Inv.env0 (I : Inv X pins σ H s) : Env0 X.prog X.w X.K X.mg X.base X.A X.stack s H :=
  ⟨I.ok.frames, I.ok.mod, I.bs, Nat.le_trans I.ok.bsz I.sz, I.stack, I.stkFree, I.hok, I.bare⟩
theorem Inv.after {Q : VK} {u : Value} (I : Inv X pins σ H s) (h : CE X.stack X.prog X.w H s Q u s') : EP X pins σ Q u s' := by
  obtain ⟨v, H', os, bare, un, hok, r, q⟩ := h
  obtain ⟨hh, g, d, t, os'⟩ := s'
  obtain rfl : os' = s.os := os
  exact ⟨v, H', I.call (h' := hh) (g' := g) (d' := d) (t' := t) (ch := []) un hok bare (λ b z => absurd z (by simp)), r, q⟩
end
def am (sp : Sp) (dvs : List V) (E : XK) (t : TA) : TE := λ σ H Q => t σ H λ vs H1 => sp (vs ++ dvs) H1 Q E
def tMeth (C : Addr) (m : Str) (sp : Sp) (dvs : List V) (E : XK) (ta : TE) (t : TA) : TE := λ σ H Q => ta σ H λ x H1 => ∃ a dx fs, x = .ref a /\ H1 a = some (.ins C dx fs) /\ fs.lookup m = none ∧
  t σ H1 λ vs H2 => sp (x :: (vs ++ dvs)) H2 Q E
def nB (C : Addr) (sp : Sp) (dvs : List V) (E : XK) (t : TA) : TE := λ σ H Q => t σ H λ vs H1 => ∀ x dx, H1 x = none -> H1 dx = none -> dx ≠ x →
  sp (.ref x :: (vs ++ dvs)) (upd (upd H1 dx (.own x)) x (.ins C dx [])) (λ v H2 => v = .non /\ Q (.ref x) H2) E
def Binds (K : PySem.W.Frag) (fd : FuncData) (ps : List Str) (ds : List Value) : Prop :=
  ∀ (s : Shared) (us : List Value), K.In s.heap -> (us ++ ds).length = ps.length -> BindsTo s fd ⟨us, []⟩ (ps.zip (us ++ ds))
theorem Binds.all {K : PySem.W.Frag} {fd : FuncData} {ps : List Str} (h : ∀ us : List Value, us.length = ps.length -> bindArgs fd ⟨us, []⟩ = pure (ps.zip us)) : Binds K fd ps [] := λ s us _ hl => by
  rw [List.append_nil] at hl ⊢
  exact .of_eq (h us hl)
def bU (CX : CXT) (X : Cx) (E : XK) : Prop := ∀ (pins : List (Addr × Obj)) (σ : St) (H : Hp) (s : Shared) (e : Value) (s' : Shared), Inv X pins σ H s -> CX X.stack H s E e s' -> X.xe e s'
section
variable {X : Cx} {CX : CXT} {k : Nat} {f C : Addr} {fd : FuncData} {ps : List Str} {sp : Sp} {dvs : List V} {ds : List Value} {E : XK} {x m : Str} {p pos apos : Pos} {e o : Expr} {es : List Expr} {ta : TE} {t : TA}
theorem jK {pins : List (Addr × Obj)} {σ : St} {H : Hp} {s : Shared} {Q : VK} {us : List Value} {vs : List V} (F : FnOk X.prog X.w X.K X.mg X.base CX k f fd ps sp) (hr : Room k X.A) (hb : Binds X.K fd ps ds) (hd : Vals dvs ds) (hx : bU CX X E)
    (I : Inv X pins σ H s) (r : Vals vs us) (h : sp (vs ++ dvs) H Q E) : wpAny (model X.prog X.w) X.A (call (.ref f) us) (EP X pins σ Q) X.xe s := by
  have r2 : Vals (vs ++ dvs) (us ++ ds) := r.append hd
  have hl : (us ++ ds).length = ps.length := by rw [<- r2.length]; exact F.len _ _ _ _ h
  refine wpAny_call (codeAny_mono (F.run X.A X.stack s H ⟨us, []⟩ (us ++ ds) (vs ++ dvs) Q E hr I.env0 (hb s us I.kIn hl) r2 h) λ r s' hq => ?_)
  cases r with
  | error e => exact hx pins σ H s e s' I hq
  | ok fl =>
    cases fl with
    | ret u => exact I.after hq
    | next => exact False.elim hq
    | brk => exact False.elim hq
    | cont => exact False.elim hq
theorem pe_call (F : FnOk X.prog X.w X.K X.mg X.base CX k f fd ps sp) (hr : Room k X.A) (hg : Gl X x) (hm : X.mg x = some (.ref f)) (hk : PySem.W.keepIn X.K (.ref f) = true) (hb : Binds X.K fd ps ds) (hd : Vals dvs ds) (hx : bU CX X E)
    (ha : PA X (e :: es) t) (hdb : (x == ("__debug__" : Str)) = false := by decide) (he : starEach (e :: es) X.env = (false, eval e X.env) :: starEach es X.env := by rfl) (hpl : (backTo pos (starEach es X.env)).any (·.1) = false := by rfl) :
    PE X (.Call (.Name x p) (e :: es) [] pos) (am sp dvs E t) := by
  intro pins s σ H Q I h
  refine wpAny_Call_Name_kw (fz I hg hm ?_ hdb)
  refine PySem.W.callWith_K (h₀ := X.base) I.ok.mod.kin hk (thn (ha pos pins s σ H _ I h) λ us s1 ⟨vs, H1, I1, r, q⟩ => ⟨I1.kIn, ?_⟩) he hpl
  exact jK F hr hb hd hx I1 r q
theorem pe_call0 (F : FnOk X.prog X.w X.K X.mg X.base CX k f fd ps sp) (hr : Room k X.A) (hg : Gl X x) (hm : X.mg x = some (.ref f)) (hk : PySem.W.keepIn X.K (.ref f) = true) (hb : Binds X.K fd ps ds) (hd : Vals dvs ds) (hx : bU CX X E)
    (hdb : (x == ("__debug__" : Str)) = false := by decide) : PE X (.Call (.Name x p) [] [] pos) (am sp dvs E a8) := by
  intro pins s σ H Q I h
  refine wpAny_Call_Name_kw (fz I hg hm ?_ hdb)
  exact PySem.W.callWith_K0 I.kIn hk (jK (us := []) F hr hb hd hx I .nil h)
theorem pe_meth {pl : Sem Bool} (he : PE X o ta) (c : Cls X.K C) (hm : Meth X.K C m f) (F : FnOk X.prog X.w X.K X.mg X.base CX k f fd ps sp) (hr : Room k X.A) (hb : Binds X.K fd ps ds) (hd : Vals dvs ds) (hx : bU CX X E) (ha : PA X (e :: es) t)
    (hst : starEach (e :: es) X.env = (false, eval e X.env) :: starEach es X.env := by rfl) (hpl : (backTo pos (starEach es X.env)).any (·.1) = false := by rfl)
    (ht : eval (.Call (.Attribute o m apos) (e :: es) [] pos) X.env = (do
      let ov ← eval o X.env
      standAt apos.atName
      let (f, first) ← holding [ov] (getMethod ov m pl)
      callWith pos f first (backTo pos (starEach (e :: es) X.env)) (backToKw pos (keywordEach [] X.env))) := by rfl) :
    PE X (.Call (.Attribute o m apos) (e :: es) [] pos) (tMeth C m sp dvs E ta t) := by
  intro pins s σ H Q I h
  refine PySem.W.methodCall_KW (pl := pl) (thn (he pins s σ H _ I h) λ u s1 ⟨x, H1, I1, rx, a, dx, fs, ex, ea, l, q⟩ => ?_) ht
  subst ex
  obtain rfl : u = Value.ref a := rx
  refine gY I1 ea c hm l ?_
  refine PySem.W.callWith_K (first := [.ref a]) (h₀ := X.base) I.ok.mod.kin hm.kp (thn (ha pos pins s1 σ H1 _ I1 q) λ us s2 ⟨vs, H2, I2, r, q2⟩ => ⟨I2.kIn, ?_⟩) hst hpl
  exact jK (us := .ref a :: us) (vs := .ref a :: vs) F hr hb hd hx I2 (.cons rfl r) q2
theorem pe_meth0 {pl : Sem Bool} (he : PE X o ta) (c : Cls X.K C) (hm : Meth X.K C m f) (F : FnOk X.prog X.w X.K X.mg X.base CX k f fd ps sp) (hr : Room k X.A) (hb : Binds X.K fd ps ds) (hd : Vals dvs ds) (hx : bU CX X E)
    (ht : eval (.Call (.Attribute o m apos) [] [] pos) X.env = (do
      let ov ← eval o X.env
      standAt apos.atName
      let (f, first) ← holding [ov] (getMethod ov m pl)
      callWith pos f first (backTo pos (starEach [] X.env)) (backToKw pos (keywordEach [] X.env))) := by rfl) :
    PE X (.Call (.Attribute o m apos) [] [] pos) (tMeth C m sp dvs E ta a8) := by
  intro pins s σ H Q I h
  refine PySem.W.methodCall_KW (pl := pl) (thn (he pins s σ H _ I h) λ u s1 ⟨x, H1, I1, rx, a, dx, fs, ex, ea, l, q⟩ => ?_) ht
  subst ex
  obtain rfl : u = Value.ref a := rx
  refine gY I1 ea c hm l ?_
  exact PySem.W.callWith_K0 (first := [.ref a]) I1.kIn hm.kp (jK (us := [.ref a]) (vs := [.ref a]) F hr hb hd hx I1 (.cons rfl .nil) q)
structure Mk (K : PySem.W.Frag) (C f : Addr) : Prop where
  makes : PySem.W.makesIn K C = true
  init : PySem.W.findIn K (.ref C) "__init__" = some (some (.ref f))
  fn : PySem.W.isFn K (.ref f) = true
  kp : PySem.W.keepIn K (.ref C) = true
theorem kL {pins : List (Addr × Obj)} {σ : St} {H : Hp} {s : Shared} {Q : VK} {us : List Value} {vs : List V} (M : Mk X.K C f) (F : FnOk X.prog X.w X.K X.mg X.base CX k f fd ps sp) (hr : Room (k + 1) X.A) (hb : Binds X.K fd ps ds) (hd : Vals dvs ds)
    (hx : bU CX X E) (I : Inv X pins σ H s) (r : Vals vs us)
    (h : ∀ x dx, H x = none -> H dx = none -> dx ≠ x -> sp (.ref x :: (vs ++ dvs)) (upd (upd H dx (.own x)) x (.ins C dx [])) (λ v H2 => v = .non /\ Q (.ref x) H2) E) :
    wpAny (model X.prog X.w) X.A (call (.ref C) us) (EP X pins σ Q) X.xe s := by
  have hq := h (s.heap.objs.size + 1) s.heap.objs.size (I.hok.fresh (Nat.le_succ _)) (I.hok.fresh (Nat.le_refl _)) (Nat.ne_of_lt (Nat.lt_succ_self _))
  have I2 := Inv.made (C := C) I
  have r2 : Vals (V.ref (s.heap.objs.size + 1) :: (vs ++ dvs)) (Value.ref (s.heap.objs.size + 1) :: (us ++ ds)) := .cons rfl (r.append hd)
  have hl : (Value.ref (s.heap.objs.size + 1) :: us ++ ds).length = ps.length := by
    have e := r2.length
    rw [F.len _ _ _ _ hq] at e
    exact e.symm
  refine wpAny_call (make_map (f := f) I.kIn M.makes M.init (beq_iff_eq.mp M.fn) (codeAny_mono (F.run _ X.stack _ _ ⟨Value.ref (s.heap.objs.size + 1) :: us, []⟩ (Value.ref (s.heap.objs.size + 1) :: (us ++ ds)) _ _ E (hr.make C us [])
    (I2.env0.make C us []) (hb _ (Value.ref (s.heap.objs.size + 1) :: us) I2.kIn hl) r2 hq) λ r s' hq' => ?_))
  cases r with
  | error e => exact hx pins σ _ _ e s' I2 hq'
  | ok fl =>
    cases fl with
    | ret u =>
      obtain ⟨v, H', I3, rv, ev, q3⟩ := I2.after hq'
      subst ev
      exact ⟨rv, ⟨V.ref (s.heap.objs.size + 1), H', I3, rfl, q3⟩⟩
    | next => exact False.elim hq'
    | brk => exact False.elim hq'
    | cont => exact False.elim hq'
theorem pe_make (M : Mk X.K C f) (F : FnOk X.prog X.w X.K X.mg X.base CX k f fd ps sp) (hr : Room (k + 1) X.A) (hg : Gl X x) (hm : X.mg x = some (.ref C)) (hb : Binds X.K fd ps ds) (hd : Vals dvs ds) (hx : bU CX X E)
    (ha : PA X (e :: es) t) (hdb : (x == ("__debug__" : Str)) = false := by decide) (he : starEach (e :: es) X.env = (false, eval e X.env) :: starEach es X.env := by rfl) (hpl : (backTo pos (starEach es X.env)).any (·.1) = false := by rfl) :
    PE X (.Call (.Name x p) (e :: es) [] pos) (nB C sp dvs E t) := by
  intro pins s σ H Q I h
  refine wpAny_Call_Name_kw (fz I hg hm ?_ hdb)
  refine PySem.W.callWith_K (h₀ := X.base) I.ok.mod.kin M.kp (thn (ha pos pins s σ H _ I h) λ us s1 ⟨vs, H1, I1, r, q⟩ => ⟨I1.kIn, ?_⟩) he hpl
  exact kL M F hr hb hd hx I1 r q
theorem pe_make0 (M : Mk X.K C f) (F : FnOk X.prog X.w X.K X.mg X.base CX k f fd ps sp) (hr : Room (k + 1) X.A) (hg : Gl X x) (hm : X.mg x = some (.ref C)) (hb : Binds X.K fd ps ds) (hd : Vals dvs ds) (hx : bU CX X E)
    (hdb : (x == ("__debug__" : Str)) = false := by decide) : PE X (.Call (.Name x p) [] [] pos) (nB C sp dvs E a8) := by
  intro pins s σ H Q I h
  refine wpAny_Call_Name_kw (fz I hg hm ?_ hdb)
  exact PySem.W.callWith_K0 I.kIn M.kp (kL (us := []) M F hr hb hd hx I .nil h)
end
section
variable {X : Cx} {CX : CXT} {k : Nat} {f C : Addr} {fd : FuncData} {ps ks : List Str} {sp : Sp} {E : XK} {x m : Str} {p pos apos kpos : Pos} {e o : Expr} {es : List Expr} {kws : List Keyword} {te ta : TE} {t tk : TA} {nm : Option Str}
variable {g : List Value -> List Value -> List Value} {gV : List V -> List V -> List V}
end
structure FnScope (N P : List Str) (sc : Scope) : Prop where
  kind : sc.kind = .function
  co : sc.isCoroutine = false
  gen : sc.isGenerator = false
  nd : N.Nodup
  pre : N.take P.length = P
  par : ∀ x ∈ P, sc.names.lookup x = some .local \/ sc.names.lookup x = some .cell
  nofree : ∀ y ∈ sc.names, y.2 ≠ .free
theorem jb {kindOf : Str -> Option NameKind} {x : Str} : ∀ {binds : List (Str × Value)} {m : Str -> Option Value}, (∀ v, (x, v) ∉ binds) -> bindL kindOf binds m x = m x
  | [], _, _ => rfl
  | (n, v) :: r, m, h => by
    unfold bindL
    rw [jb λ w hw => h w (List.mem_cons_of_mem _ hw)]
    split
    . have : x ≠ n := by rintro rfl; exact h v List.mem_cons_self
      simp [this]
    . rfl
theorem jc {kindOf : Str -> Option NameKind} {x : Str} : ∀ {binds : List (Str × Value)} {m : Str -> Option Value}, (∀ v, (x, v) ∉ binds) -> bindC kindOf binds m x = m x
  | [], _, _ => rfl
  | (n, v) :: r, m, h => by
    unfold bindC
    rw [jc λ w hw => h w (List.mem_cons_of_mem _ hw)]
    split
    . rfl
    . have : x ≠ n := by rintro rfl; exact h v List.mem_cons_self
      simp [this]
theorem jd {kindOf : Str -> Option NameKind} {x : Str} {v : Value} : ∀ {P : List Str} {vs : List Value} {i : Nat} {m : Str -> Option Value}, P.Nodup -> P[i]? = some x -> vs[i]? = some v -> kindOf x = some .local →
    bindL kindOf (P.zip vs) m x = some v
  | [], _, _, _, _, h, _, _ => by simp at h
  | _ :: _, [], _, _, _, _, h, _ => by simp at h
  | p :: P, w :: vs, 0, m, nd, h1, h2, hk => by
    simp at h1 h2; subst h1; subst h2
    show bindL kindOf ((p, w) :: P.zip vs) m p = _
    unfold bindL
    rw [jb λ v hv => (List.nodup_cons.mp nd).1 (List.of_mem_zip hv).1, if_pos hk]
    simp
  | p :: P, w :: vs, i + 1, m, nd, h1, h2, hk => by
    show bindL kindOf ((p, w) :: P.zip vs) m x = _
    unfold bindL
    exact jd (i := i) (List.nodup_cons.mp nd).2 (by simpa using h1) (by simpa using h2) hk
theorem je {kindOf : Str -> Option NameKind} {x : Str} {v : Value} : ∀ {P : List Str} {vs : List Value} {i : Nat} {m : Str -> Option Value}, P.Nodup -> P[i]? = some x -> vs[i]? = some v -> kindOf x ≠ some .local →
    bindC kindOf (P.zip vs) m x = some v
  | [], _, _, _, _, h, _, _ => by simp at h
  | _ :: _, [], _, _, _, _, h, _ => by simp at h
  | p :: P, w :: vs, 0, m, nd, h1, h2, hk => by
    simp at h1 h2; subst h1; subst h2
    show bindC kindOf ((p, w) :: P.zip vs) m p = _
    unfold bindC
    rw [jc λ v hv => (List.nodup_cons.mp nd).1 (List.of_mem_zip hv).1, if_neg hk]
    simp
  | p :: P, w :: vs, i + 1, m, nd, h1, h2, hk => by
    show bindC kindOf ((p, w) :: P.zip vs) m x = _
    unfold bindC
    exact je (i := i) (List.nodup_cons.mp nd).2 (by simpa using h1) (by simpa using h2) hk
def dJ (N : List Str) (vs : List V) : St := vs.map some ++ List.replicate (N.length - vs.length) none
def me (CX : CXT) (P : Program) (w : World) (K : PySem.W.Frag) (mg : Str -> Option Value) (base : Heap) (N : List Str) (qual : Str) (scope : Scope) (f : Addr) (cd : Value) (A : Around) (outer : List Env) (s : Shared) (H : Hp) (E : XK) : Cx where
  prog := P
  w := w
  K := K
  mg := mg
  base := base
  A := A.deeper (envOfC qual scope s.heap.objs.size f cd)
  N := N
  s₀ := s
  H₀ := H
  env := envOfC qual scope s.heap.objs.size f cd
  outer := outer
  stack := envOfC qual scope s.heap.objs.size f cd :: outer
  ex := []
  calm := true
  fn := λ _ => true
  pn := []
  xe := λ e s' => wpAny (model P w) (A.deeper (envOfC qual scope s.heap.objs.size f cd)) (leaving (envOfC qual scope s.heap.objs.size f cd) e) (λ _ s'' => CX outer H s E e s'') (λ e' s'' => CX outer H s E e' s'') s'
theorem kM {sc : Scope} {n : Nat} {x : Str} (h : sc.names.lookup x = some .cell) : ∃ c, (cellsFrom n sc.names []).lookup x = some c := by
  have q := PySem.W.cellsFrom_some sc.names n [] (.inl h)
  exact Option.isSome_iff_exists.mp q
theorem oW {CX : CXT} {P : Program} {w : World} {K : PySem.W.Frag} {mg : Str -> Option Value} {base : Heap} {N ps : List Str} {qual : Str} {scope : Scope} {f : Addr} {cd : Value} {A : Around} {outer : List Env} {s s1 : Shared} {H : Hp} {E : XK} {us : List Value} {vs : List V}
    (S : FnScope N ps scope) (hd : A.handled = none) (e0 : Env0 P w K mg base A outer s H) (hl : vs.length = ps.length) (r : Vals vs us)
    (x : InCallC s s.heap.objs.size (bindL (envOfC qual scope s.heap.objs.size f cd).kindOf (ps.zip us) λ _ => none) (cellsFrom (s.heap.objs.size + 1) scope.names []) (bindC (envOfC qual scope s.heap.objs.size f cd).kindOf (ps.zip us) λ _ => none) s1) :
    Inv (me CX P w K mg base N qual scope f cd A outer s H E) [] (dJ N vs) H s1 := by
  have hpl : ps.length <= N.length := by have := congrArg List.length S.pre; rw [List.length_take] at this; omega
  obtain ⟨h1, tk, rfl, hk⟩ := x.done
  have noA : ∀ b : Addr, b ∉ (me CX P w K mg base N qual scope f cd A outer s H E).ex := λ b z => absurd (show b ∈ ([] : List Addr) from z) (by simp)
  refine ⟨⟨e0.mod, S.kind, rfl, rfl, Nat.le_refl _, λ y z c h1 h2 => ?_, λ y hy => ?_, λ y c _ h => ?_, λ _ => hd, Around.frames_deeper e0.frames, .inr ⟨rfl, rfl⟩, λ b z => absurd z (noA b), e0.bs, e0.bsz, λ b _ _ => noA b, λ b z => absurd z (noA b), e0.funs, e0.frf⟩,
    rfl, e0.bare, Un.kept hk, ⟨_, x.toInCall.ns, λ i y v h1 h2 h3 => ?_⟩, λ y c h => ⟨_, x.cell y c h⟩, e0.hok.fresh (Nat.le_refl _), λ y c h => ?_, λ p hp => absurd (show p ∈ ([] : List (Addr × Obj)) from hp) (by simp), e0.hok.kept hk, ?_⟩
  . exact name_of_addr x.apart (PySem.mem_of_lookup h1) (PySem.mem_of_lookup h2)
  . have hy : scope.names.lookup y = some .cell \/ scope.names.lookup y = some .free := hy
    rcases hy with hy | hy
    . exact kM hy
    . exact absurd rfl (S.nofree _ (PySem.mem_of_lookup hy))
  . exact Nat.le_of_lt (x.above y c (PySem.mem_of_lookup h))
  . have hi : i < vs.length := by
      unfold dJ at h2
      by_cases hi : i < vs.length
      . exact hi
      . rw [List.getElem?_append_right (by simpa using hi)] at h2
        rw [List.getElem?_replicate] at h2
        split at h2 <;> cases h2
    have ha : vs[i]? = some v := by
      unfold dJ at h2
      rw [List.getElem?_append_left (by simpa using hi), List.getElem?_map] at h2
      cases e : vs[i]? with
      | none => rw [e] at h2; cases h2
      | some a => rw [e] at h2; cases h2; rfl
    obtain ⟨u, hu, rv⟩ := r.get ha
    have hp : ps[i]? = some y := by
      rw [<- S.pre, List.getElem?_take_of_lt (by omega)]; exact h1
    have ndP : ps.Nodup := by rw [<- S.pre]; exact S.nd.sublist (List.take_sublist _ _)
    refine ⟨u, rv, ?_⟩
    rcases S.par y (List.mem_of_getElem? hp) with k | k
    . exact .inl ⟨k, jd ndP hp hu k⟩
    . obtain ⟨c, e⟩ := kM (n := s.heap.objs.size + 1) k
      refine .inr ⟨.inl k, c, e, ?_⟩
      have q := x.cell y c e
      rw [je ndP hp hu (by show scope.names.lookup y ≠ _; rw [k]; decide)] at q
      exact q
  . exact e0.hok.fresh (Nat.le_of_lt (x.above y c (PySem.mem_of_lookup h)))
  . unfold dJ
    show _ = N.length
    rw [List.length_append, List.length_map, List.length_replicate]
    omega
theorem fn_of {CX : CXT} {P : Program} {w : World} {K : PySem.W.Frag} {mg : Str -> Option Value} {base : Heap} {k : Nat} {f : Addr} {name qual : Str} {params : Arguments} {body : List Stmt} {scope : Scope} {dV kV doc pm cdv ct oc : Value} {an od : Option Addr}
    {osl : Array (Option Value)} {N ps : List Str} {sp : Sp} (lk : K.lookup f = some ⟨oc, od, .func (PySem.W.fnOf name qual params body scope dV kV doc pm an cdv ct), osl⟩) (hcd : PySem.W.codeIn K cdv qual = true) (S : FnScope N ps scope)
    (len : ∀ vs H Q E, sp vs H Q E -> vs.length = ps.length)
    (hbody : ∀ (A : Around) (outer : List Env) (s : Shared) (H : Hp) (vs : List V) (Q : VK) (E : XK), Room k (A.deeper (envOfC qual scope s.heap.objs.size f cdv)) -> sp vs H Q E →
      ∃ t, PSs (me CX P w K mg base N qual scope f cdv A outer s H E) body t /\ t { nx := λ _ H' => Q .non H', rt := Q } (dJ N vs) H) :
    FnOk P w K mg base CX (k + 1) f (PySem.W.fnOf name qual params body scope dV kV doc pm an cdv ct) ps sp := by
  refine ⟨len, λ A outer s H args us vs Q E hr e0 hb r hsp => ?_⟩
  have hl := len _ _ _ _ hsp
  have KX : K.In s.heap := e0.mod.kin.keeps λ b o e => (e0.bs b o e).1
  have lim : s.heap.NoLimit := e0.mod.nolimit.keeps λ b o e => (e0.bs b o e).1
  have hkind : ∀ y ∈ ps.zip us, scope.names.lookup y.1 = some .local \/ (scope.names.lookup y.1 = some .cell /\ ((cellsFrom (s.heap.objs.size + 1) scope.names []).lookup y.1).isSome = true) := λ ⟨n, v⟩ hy => by
    rcases S.par n (List.of_mem_zip hy).1 with q | q
    . exact .inl q
    . exact .inr ⟨q, PySem.W.cellsFrom_some _ _ _ (.inl q)⟩
  refine codeAny_call_function hr.depth (KX _ _ lk) rfl S.co S.gen rfl (PySem.W.codeRec_of KX hcd) (hb _ _ _ _ ?_)
  refine wpAny_newFunctionEnv_cells S.kind hkind λ env he s1 x => ?_
  subst he
  refine ⟨lim.keeps x.toInCall.keep, codeAny_func ?_⟩
  obtain ⟨t, ht, hq⟩ := hbody A outer s H vs Q E (hr.deeper _) hsp
  have I : Inv (me CX P w K mg base N qual scope f cdv A outer s H E) [] (dJ N vs) H s1 := oW S hr.hd e0 hl r x
  refine wpAny_mono (ht [] s1 (dJ N vs) H _ I hq) (λ fl s' hs => ?_) λ e s' hs => hs
  have fin : ∀ {σ' : St} {H' : Hp} {v : V} {u : Value}, Inv (me CX P w K mg base N qual scope f cdv A outer s H E) [] σ' H' s' -> RelV v u -> Q v H' -> CE outer P w H s Q u s' :=
    λ {σ' H' v u} J rv q => ⟨v, H', J.os, J.bare, J.base, J.hok, rv, q⟩
  cases fl with
  | ret u =>
    obtain ⟨v, σ', H', J, rv, q⟩ := hs
    exact fin J rv q
  | next =>
    obtain ⟨σ', H', J, q⟩ := hs
    exact fin (v := V.non) (u := Value.none) J rfl q
  | brk =>
    obtain ⟨_, _, _, q⟩ := hs
    exact False.elim q
  | cont =>
    obtain ⟨_, _, _, q⟩ := hs
    exact False.elim q
end L2
namespace L2
open PySem PySem.Spec PyProof.Rows
section
variable {X : Cx} {x : Str} {p pos : Pos} {e : Expr} {es : List Expr} {t : TA} {id T : String} {r : List V -> Hp -> VK -> Prop}
def tCB (r : List V -> Hp -> VK -> Prop) (t : TA) : TE := λ σ H Q => t σ H λ vs H1 => r vs H1 Q
theorem gZ (hc : CallR X (.builtin id) r) (hg : Gl X x) (hm : X.mg x = none) (hv : bootBuiltins x = some (.builtin id)) (ha : PA X (e :: es) t) (hn : x ≠ "__name__" := by decide) (hdb : (x == ("__debug__" : Str)) = false := by decide)
    (he : starEach (e :: es) X.env = (false, eval e X.env) :: starEach es X.env := by rfl) (hpl : (backTo pos (starEach es X.env)).any (·.1) = false := by rfl) : PE X (.Call (.Name x p) (e :: es) [] pos) (tCB r t) := by
  intro pins s σ H Q I h
  refine wpAny_Call_Name_kw (gT I hg hm hv ?_ hn hdb)
  exact PyProof.Rows.callWith_builtin1 (thn (ha pos pins s σ H _ I h) λ us s1 ⟨vs, H1, I1, r1, q1⟩ => hc pins s1 σ H1 vs us Q I1 r1 q1) he hpl
theorem oX (hc : CallR X (.type T) r) (hg : Gl X x) (hm : X.mg x = none) (hv : bootBuiltins x = some (.type T)) (ha : PA X (e :: es) t) (hn : x ≠ "__name__" := by decide) (hdb : (x == ("__debug__" : Str)) = false := by decide)
    (he : starEach (e :: es) X.env = (false, eval e X.env) :: starEach es X.env := by rfl) (hpl : (backTo pos (starEach es X.env)).any (·.1) = false := by rfl) : PE X (.Call (.Name x p) (e :: es) [] pos) (tCB r t) := by
  intro pins s σ H Q I h
  refine wpAny_Call_Name_kw (gT I hg hm hv ?_ hn hdb)
  exact PyProof.Rows.callWith_type1 (thn (ha pos pins s σ H _ I h) λ us s1 ⟨vs, H1, I1, r1, q1⟩ => hc pins s1 σ H1 vs us Q I1 r1 q1) he hpl
end
end L2
namespace L2
open PySem PySem.Spec PyProof.Rows
section
variable {κ : Type} [DecidableEq κ]
def ak (kvs : List (κ × V)) (k : κ) : Option V := (kvs.find? λ kv => decide (kv.1 = k)).map (·.2)
def b8 (kvs : List (κ × V)) (k : κ) (v : V) : List (κ × V) :=
  if (kvs.any λ kv => decide (kv.1 = k)) = true then kvs.map (λ kv => if kv.1 = k then (kv.1, v) else kv) else kvs ++ [(k, v)]
theorem aJ {p : κ × V} {r : List (κ × V)} {k : κ} (e : p.1 = k) : ak (p :: r) k = some p.2 := by simp [ak, List.find?_cons, e]
theorem az {p : κ × V} {r : List (κ × V)} {k : κ} (e : ¬ p.1 = k) : ak (p :: r) k = ak r k := by simp [ak, List.find?_cons, e]
theorem ck (k : κ) : ∀ kvs : List (κ × V), (kvs.any λ kv => decide (kv.1 = k)) = (ak kvs k).isSome
  | [] => rfl
  | p :: r => by
    rw [List.any_cons]
    by_cases e : p.1 = k
    . simp only [aJ e, decide_eq_true e, Bool.true_or, Option.isSome_some]
    . rw [az e, decide_eq_false e, Bool.false_or]; exact ck k r
theorem kN (k j : κ) (y : V) : ∀ kvs : List (κ × V), ak (kvs.map λ kv => if kv.1 = k then (kv.1, y) else kv) j = (ak kvs j).map λ x => if j = k then y else x
  | [] => rfl
  | p :: r => by
    have ih := kN k j y r
    rw [List.map_cons]
    by_cases h : p.1 = k
    . rw [if_pos h]
      by_cases e : p.1 = j
      . rw [aJ (p := (p.1, y)) e, aJ e, Option.map_some, if_pos (e.symm.trans h)]
      . rw [az (p := (p.1, y)) e, az e, ih]
    . rw [if_neg h]
      by_cases e : p.1 = j
      . rw [aJ (p := p) e, aJ e, Option.map_some, if_neg (λ z => h (e.trans z))]
      . rw [az (p := p) e, az e, ih]
theorem jf (k j : κ) (y : V) : ∀ kvs : List (κ × V), ak kvs k = none -> ak (kvs ++ [(k, y)]) j = if j = k then some y else ak kvs j
  | [], _ => by
    by_cases e : k = j
    . rw [if_pos e.symm]; exact aJ (p := (k, y)) e
    . rw [if_neg (λ z => e z.symm)]; exact az (p := (k, y)) e
  | p :: r, hn => by
    rw [List.cons_append]
    have hk : ¬ p.1 = k := λ z => by rw [aJ z] at hn; cases hn
    rw [az hk] at hn
    have ih := jf k j y r hn
    by_cases e : p.1 = j
    . rw [aJ e, aJ e, if_neg (λ z => hk (e.trans z))]
    . rw [az e, az e, ih]
theorem fC (kvs : List (κ × V)) (k j : κ) (y : V) : ak (b8 kvs k y) j = if j = k then some y else ak kvs j := by
  unfold b8
  by_cases a : (kvs.any λ kv => decide (kv.1 = k)) = true
  . rw [if_pos a, kN]
    rw [ck] at a
    by_cases e : j = k
    . obtain ⟨x, hx⟩ := Option.isSome_iff_exists.mp a
      rw [if_pos e, e, hx, Option.map_some, if_pos rfl]
    . rw [if_neg e]
      cases ak kvs j with
      | none => rfl
      | some x => rw [Option.map_some, if_neg e]
  . rw [if_neg a]
    refine jf k j y kvs ?_
    rw [ck] at a
    cases q : ak kvs k with
    | none => rfl
    | some x => rw [q] at a; exact (a rfl).elim
theorem dX (kvs : List (κ × V)) (k : κ) (v : V) : (b8 kvs k v).length <= kvs.length + 1 := by
  unfold b8
  split
  . rw [List.length_map]; omega
  . rw [List.length_append, List.length_cons, List.length_nil]; omega
theorem cm {kvs : List (κ × V)} {k : κ} (v : V) (h : ak kvs k = none) : b8 kvs k v = kvs ++ [(k, v)] := by
  unfold b8
  rw [ck, h]
  exact if_neg (by decide)
theorem RelO.isSome_eq {o : Option V} {u : Option Value} (r : RelO o u) : o.isSome = u.isSome := by
  cases o with
  | none => cases u with
    | none => rfl
    | some _ => exact (show False from r).elim
  | some _ => cases u with
    | none => exact (show False from r).elim
    | some _ => rfl
theorem RelO.getD {o : Option V} {u : Option Value} {d : V} {d' : Value} (r : RelO o u) (rd : RelV d d') : RelV (o.getD d) (u.getD d') := by
  cases o with
  | none => cases u with
    | none => exact rd
    | some _ => exact (show False from r).elim
  | some _ => cases u with
    | none => exact (show False from r).elim
    | some _ => exact r
theorem KV.val {kvs : List (κ × V)} {vs : List (κ × Value)} (r : KV kvs vs) (k : κ) : RelO (ak kvs k) (valueAt vs k) := by
  unfold KV at r
  induction r with
  | nil => exact True.intro
  | @cons p q ps qs h t ih =>
    obtain ⟨h1, h2⟩ := h
    by_cases e : p.1 = k
    . have e' : q.1 = k := h1.symm.trans e
      have b : valueAt (q :: qs) k = some q.2 := by simp [valueAt, List.find?_cons, e']
      rw [aJ e, b]; exact h2
    . have e' : ¬ q.1 = k := λ z => e (h1.trans z)
      have b : valueAt (q :: qs) k = valueAt qs k := by simp [valueAt, List.find?_cons, e']
      rw [az e, b]; exact ih
theorem KV.any {kvs : List (κ × V)} {vs : List (κ × Value)} (r : KV kvs vs) (k : κ) : (kvs.any λ kv => decide (kv.1 = k)) = vs.any λ kv => decide (kv.1 = k) := by
  unfold KV at r
  induction r with
  | nil => rfl
  | cons h t ih => rw [List.any_cons, List.any_cons, ih, h.1]
theorem KV.repl {kvs : List (κ × V)} {vs : List (κ × Value)} (r : KV kvs vs) (k : κ) {y : V} {u : Value} (ry : RelV y u) :
    KV (kvs.map λ kv => if kv.1 = k then (kv.1, y) else kv) (vs.map λ kv => if kv.1 = k then (kv.1, u) else kv) := by
  unfold KV at r ⊢
  induction r with
  | nil => exact .nil
  | @cons p q ps qs h t ih =>
    rw [List.map_cons, List.map_cons]
    refine .cons ?_ ih
    obtain ⟨h1, h2⟩ := h
    by_cases e : p.1 = k
    . rw [if_pos e, if_pos (h1.symm.trans e)]; exact ⟨h1, ry⟩
    . rw [if_neg e, if_neg (λ z => e (h1.trans z))]; exact ⟨h1, h2⟩
theorem KV.put {kvs : List (κ × V)} {vs : List (κ × Value)} (r : KV kvs vs) (k : κ) {y : V} {u : Value} (ry : RelV y u) : KV (b8 kvs k y) (stored vs k u) := by
  unfold b8 stored
  rw [r.any k]
  by_cases e : (vs.any λ kv => decide (kv.1 = k)) = true
  . rw [if_pos e, if_pos e]; exact r.repl k ry
  . rw [if_neg e, if_neg e]; exact Paired.snoc r ⟨rfl, ry⟩
theorem KV.length {kvs : List (κ × V)} {vs : List (κ × Value)} (r : KV kvs vs) : kvs.length = vs.length := Paired.length r
end
theorem gn {P : Program} {w : World} {k : Key} {u : Value} (r : RelV (kV k) u) : (ao P w).is k u = true := by
  cases k with
  | inl i => obtain ⟨t, e⟩ := (show ∃ t, u = Value.int i t from r); subst e; exact kG P w i t
  | inr x => obtain ⟨t, e⟩ := (show ∃ t, u = Value.str x t from r); subst e; exact kH P w x t
theorem jg {P : Program} {w : World} : ∀ {ks : List Key} {us : List Value}, Vals (ks.map kV) us -> ItemsAre (ao P w) ks us
  | [], _, r => by rw [List.map_nil] at r; cases r; exact .nil
  | k :: ks, _, r => by
    rw [List.map_cons] at r
    cases r with
    | cons h t => exact .cons (gn h) (jg t)
abbrev KT (H : Hp) : List (List Key × V) -> List (List Key × Addr × Value) -> Prop := Paired λ p q => p.1 = q.1 /\ H q.2.1 = some (.tup (p.1.map kV)) /\ RelV p.2 q.2.2
theorem KT.val {H : Hp} {kvs : List (List Key × V)} {xs : List (List Key × Addr × Value)} (r : KT H kvs xs) (k : List Key) : RelO (ak kvs k) ((atKey xs k).map (·.2)) := by
  induction r with
  | nil => exact True.intro
  | @cons p q ps qs h t ih =>
    obtain ⟨h1, _, h2⟩ := h
    by_cases e : p.1 = k
    . have e' : q.1 = k := h1.symm.trans e
      have b : atKey (q :: qs) k = some q.2 := by simp [atKey, List.find?_cons, e']
      rw [aJ e, b]; exact h2
    . have e' : ¬ q.1 = k := λ z => e (h1.trans z)
      have b : atKey (q :: qs) k = atKey qs k := by simp [atKey, List.find?_cons, e']
      rw [az e, b]; exact ih
theorem KT.repl {H : Hp} {kvs : List (List Key × V)} {xs : List (List Key × Addr × Value)} (r : KT H kvs xs) (k : List Key) {y : V} {u : Value} (ry : RelV y u) :
    KT H (kvs.map λ kv => if kv.1 = k then (kv.1, y) else kv) (xs.map (putAt k u)) := by
  induction r with
  | nil => exact .nil
  | @cons p q ps qs h t ih =>
    rw [List.map_cons, List.map_cons]
    refine .cons ?_ ih
    obtain ⟨h1, h2, h3⟩ := h
    unfold putAt
    by_cases e : p.1 = k
    . rw [if_pos e, if_pos (h1.symm.trans e)]; exact ⟨h1, h2, ry⟩
    . rw [if_neg e, if_neg (λ z => e (h1.trans z))]; exact ⟨h1, h2, h3⟩
theorem KT.put {H : Hp} {kvs : List (List Key × V)} {xs : List (List Key × Addr × Value)} (r : KT H kvs xs) (k : List Key) {b : Addr} {y : V} {u : Value} (hb : H b = some (.tup (k.map kV))) (ry : RelV y u) :
    KT H (b8 kvs k y) (storedH xs k b u) := by
  have e : (kvs.any λ kv => decide (kv.1 = k)) = (atKey xs k).isSome := by
    rw [ck, (r.val k).isSome_eq, Option.isSome_map]
  unfold b8 storedH
  rw [e]
  by_cases q : (atKey xs k).isSome = true
  . rw [if_pos q, if_pos q]; exact r.repl k ry
  . rw [if_neg q, if_neg q]; exact Paired.snoc r ⟨rfl, hb, ry⟩
theorem KT.keeps {H H' : Hp} {kvs : List (List Key × V)} {xs : List (List Key × Addr × Value)} (r : KT H kvs xs) (ht : ∀ b ys, H b = some (.tup ys) -> H' b = some (.tup ys)) : KT H' kvs xs :=
  Paired.mapP r λ _ _ z => ⟨z.1, ht _ _ z.2.1, z.2.2⟩
section
variable {P : Program} {w : World} {H : Hp} {h : Heap} {a : Addr}
theorem rd_of {u : HO} (ok : HOk P w H h) (e : Rd H a u) : ObjOk P w H h a u := e.ok ok
theorem eW {kvs : List (Key × V)} (ok : HOk P w H h) (e : Rd H a (.dK kvs)) : kvs.length <= sizeLine /\ (a == sysModules) = false /\ ∃ vs, KV kvs vs /\ h.DictOf (ao P w) a vs :=
  show ObjOk P w H h a (.dK kvs) from rd_of ok e
theorem dk_of {kvs : List (Key × V)} (ok : HOk P w H h) (e : H a = some (.dK kvs)) : kvs.length <= sizeLine /\ (a == sysModules) = false /\ ∃ vs, KV kvs vs /\ h.DictOf (ao P w) a vs := eW ok (.inl e)
theorem fc {ks : List Key} (ok : HOk P w H h) (e : H a = some (.tup (ks.map kV))) : (tupleKind (ao P w)).is h ks a := by
  obtain ⟨_, its, r, o, h1, h2, n, h3⟩ := (show ObjOk P w H h a (.tup (ks.map kV)) from ok a _ e)
  exact ⟨o, its.toArray, n, h1, h2, h3, by simpa using jg r⟩
theorem gp {kvs : List (List Key × V)} (ok : HOk P w H h) (e : Rd H a (.dT kvs)) : kvs.length <= sizeLine /\ (a == sysModules) = false ∧
    ∃ xs, KT H kvs xs /\ h.DictOfH (tupleKind (ao P w)) a xs := by
  obtain ⟨z, y, xs, r, o, es, ep, h1, h2, h3, h4, h5⟩ := (show ObjOk P w H h a (.dT kvs) from rd_of ok e)
  refine ⟨z, y, xs, r, o, es, ep, h1, h2, h3, h4, λ x hx => ?_, h5⟩
  have all : ∀ {l : List (List Key × V)} {m : List (List Key × Addr × Value)}, KT H l m -> ∀ x ∈ m, (tupleKind (ao P w)).is h x.1 x.2.1 := by
    intro l m q
    induction q with
    | nil => intro x hx; exact nomatch hx
    | @cons p q ps qs hq t ih =>
      intro x hx
      rcases List.mem_cons.mp hx with e | hx
      . subst e
        exact fc ok (by rw [<- hq.1]; exact hq.2.1)
      . exact ih x hx
  exact all r x hx
theorem dt_of {kvs : List (List Key × V)} (ok : HOk P w H h) (e : H a = some (.dT kvs)) : kvs.length <= sizeLine /\ (a == sysModules) = false ∧
    ∃ xs, KT H kvs xs /\ h.DictOfH (tupleKind (ao P w)) a xs := gp ok (.inl e)
end
def DGet (H : Hp) (a : Addr) (y : V) (r : Option V) : Prop :=
  (∃ kvs k, Rd H a (.dK kvs) /\ y = kV k /\ r = ak kvs k) \/ ∃ kvs k b, Rd H a (.dT kvs) /\ y = .ref b /\ H b = some (.tup (k.map kV)) /\ r = ak kvs k
def DPut (H : Hp) (a : Addr) (y v : V) (H' : Hp) : Prop :=
  (∃ kvs k, H a = some (.dK kvs) /\ y = kV k /\ kvs.length < sizeLine /\ H' = upd H a (.dK (b8 kvs k v))) ∨
  ∃ kvs k b, H a = some (.dT kvs) /\ y = .ref b /\ H b = some (.tup (k.map kV)) /\ kvs.length < sizeLine /\ H' = upd H a (.dT (b8 kvs k v))
theorem DGet.k {H : Hp} {a : Addr} {kvs : List (Key × V)} {k : Key} (e : H a = some (.dK kvs)) : DGet H a (kV k) (ak kvs k) := .inl ⟨kvs, k, .inl e, rfl, rfl⟩
theorem DGet.t {H : Hp} {a b : Addr} {kvs : List (List Key × V)} {k : List Key} (e : H a = some (.dT kvs)) (eb : H b = some (.tup (k.map kV))) : DGet H a (.ref b) (ak kvs k) := .inr ⟨kvs, k, b, .inl e, rfl, eb, rfl⟩
theorem DPut.k {H : Hp} {a : Addr} {kvs : List (Key × V)} {k : Key} {v : V} (e : H a = some (.dK kvs)) (hl : kvs.length < sizeLine) : DPut H a (kV k) v (upd H a (.dK (b8 kvs k v))) := .inl ⟨kvs, k, e, rfl, hl, rfl⟩
theorem DPut.t {H : Hp} {a b : Addr} {kvs : List (List Key × V)} {k : List Key} {v : V} (e : H a = some (.dT kvs)) (eb : H b = some (.tup (k.map kV))) (hl : kvs.length < sizeLine) :
    DPut H a (.ref b) v (upd H a (.dT (b8 kvs k v))) := .inr ⟨kvs, k, b, e, rfl, eb, hl, rfl⟩
section
variable {X : Cx} {pins : List (Addr × Obj)} {σ : St} {H : Hp} {s : Shared} {a : Addr} {y v : V} {u r : Value} {o : Option V} {A : Around} {E : Value -> Shared -> Prop}
theorem Inv.big (I : Inv X pins σ H s) : sysModules < s.heap.objs.size := by
  have h : mainGlobals < s.heap.objs.size := (I.mod.glob.keeps I.bk).lt
  exact Nat.lt_trans (by decide) h
theorem oY {Q : Value -> Shared -> Prop} (hu : A.units + 1 < cLine) (I : Inv X pins σ H s) (g : DGet H a y (some v)) (ry : RelV y u) (h : ∀ w' s', Inv X pins σ H s' -> RelV v w' -> Q w' s') :
    wpAny (model X.prog X.w) A (getItem (.ref a) u) Q E s := by
  rcases g with ⟨kvs, k, e, ey, l⟩ | ⟨kvs, k, b, e, ey, eb, l⟩
  . subst ey
    obtain ⟨z, hd, vs, rel, dd⟩ := eW I.hok e
    obtain ⟨w', hw, rw'⟩ := RelO.some_of (v := v) (o := valueAt vs k) (by rw [l]; exact rel.val k)
    exact wpAny_getItem_of (gn ry) dd.mapOf hw (h w' _ (I.tok _) rw')
  . subst ey
    cases (show u = Value.ref b from ry)
    obtain ⟨z, hd, xs, rel, dd⟩ := gp I.hok e
    obtain ⟨w', hw, rw'⟩ := RelO.some_of (v := v) (o := (atKey xs k).map (·.2)) (by rw [l]; exact rel.val k)
    obtain ⟨p, hp, hp2⟩ := Option.map_eq_some_iff.mp hw
    refine wpAny_getItem_heap (tupleKind_room_in1 hu) (fc I.hok eb) dd hp ?_
    rw [hp2]
    exact h w' _ (I.tok _) rw'
theorem d_in {Q : Value -> Shared -> Prop} (hu : A.units + 1 < cLine) (I : Inv X pins σ H s) (g : DGet H a y o) (ry : RelV y u) (h : ∀ s', Inv X pins σ H s' -> Q (.bool o.isSome) s') :
    wpAny (model X.prog X.w) A (compareOp .In u (.ref a)) Q E s := by
  rcases g with ⟨kvs, k, e, ey, l⟩ | ⟨kvs, k, b, e, ey, eb, l⟩
  . subst ey
    obtain ⟨z, hd, vs, rel, dd⟩ := eW I.hok e
    refine wpAny_in_of (gn ry) hd dd.mapOf ?_
    rw [<- (rel.val k).isSome_eq, <- l]
    exact h _ (I.tok _)
  . subst ey
    cases (show u = Value.ref b from ry)
    obtain ⟨z, hd, xs, rel, dd⟩ := gp I.hok e
    refine wpAny_in_heap (tupleKind_room_in1 hu) (fc I.hok eb) hd dd ?_
    have q := (rel.val k).isSome_eq
    rw [Option.isSome_map] at q
    rw [<- q, <- l]
    exact h _ (I.tok _)
theorem d_notIn {Q : Value -> Shared -> Prop} (hu : A.units + 1 < cLine) (I : Inv X pins σ H s) (g : DGet H a y o) (ry : RelV y u) (h : ∀ s', Inv X pins σ H s' -> Q (.bool (!o.isSome)) s') :
    wpAny (model X.prog X.w) A (compareOp .NotIn u (.ref a)) Q E s := by
  rcases g with ⟨kvs, k, e, ey, l⟩ | ⟨kvs, k, b, e, ey, eb, l⟩
  . subst ey
    obtain ⟨z, hd, vs, rel, dd⟩ := eW I.hok e
    refine wpAny_notIn_of (gn ry) hd dd.mapOf ?_
    rw [<- (rel.val k).isSome_eq, <- l]
    exact h _ (I.tok _)
  . subst ey
    cases (show u = Value.ref b from ry)
    obtain ⟨z, hd, xs, rel, dd⟩ := gp I.hok e
    refine wpAny_notIn_heap (tupleKind_room_in1 hu) (fc I.hok eb) hd dd ?_
    have q := (rel.val k).isSome_eq
    rw [Option.isSome_map] at q
    rw [<- q, <- l]
    exact h _ (I.tok _)
theorem fD {h' : Heap} {t' : Nat} {ob : HO} (I : Inv X pins σ H s) (mu : Mut (H a)) (hs : Heap.SameBut a s.heap h') (he : ∃ q, h'.get? a = some q) (new : ObjOk X.prog X.w (upd H a ob) h' a ob) :
    Inv X pins σ (upd H a ob) { s with heap := h', toks := t' } :=
  I.write (x := a) (e := a) mu (.inl rfl) (λ b q hb z => (hs.2 b hb).trans z) he new
theorem mf {P : Program} {w : World} {H' : Hp} {h' : Heap} {kvs : List (Key × V)} {vs : List (Key × Value)} (z : kvs.length <= sizeLine) (hd : (a == sysModules) = false) (rel : KV kvs vs) (dd : h'.DictOf (ao P w) a vs) :
    ObjOk P w H' h' a (.dK kvs) := ⟨z, hd, vs, rel, dd⟩
theorem jh {H' : Hp} {Q : Unit -> Shared -> Prop} (hu : A.units + 1 < cLine) (I : Inv X pins σ H s) (g : DPut H a y v H') (ry : RelV y u) (rv : RelV v r) (h : ∀ s', Inv X pins σ H' s' -> Q () s') :
    wpAny (model X.prog X.w) A (setItem (.ref a) u r) Q E s := by
  rcases g with ⟨kvs, k, e, ey, l, eH⟩ | ⟨kvs, k, b, e, ey, eb, l, eH⟩
  . subst ey eH
    obtain ⟨z, hd, vs, rel, dd⟩ := dk_of I.hok e
    have hz : vs.length <= sizeLine := by rw [<- rel.length]; exact z
    have hl : (b8 kvs k v).length <= sizeLine := by have := dX kvs k v; omega
    refine wpAny_setItem_pairs (hsz := hz) (gn ry) dd λ h' dd' hs => h _ ?_
    have he : ∃ q, h'.get? a = some q := let ⟨q, _, _, hq, _⟩ := dd'; ⟨q, hq⟩
    exact fD I (by rw [e]; exact True.intro) hs he (mf hl hd (rel.put k rv) dd')
  . subst ey eH
    cases (show u = Value.ref b from ry)
    obtain ⟨z, hd, xs, rel, dd⟩ := dt_of I.hok e
    have hz : xs.length <= sizeLine := by rw [<- Paired.length rel]; exact z
    have hl : (b8 kvs k v).length <= sizeLine := by have := dX kvs k v; omega
    refine wpAny_setItem_heap (hsz := hz) (tupleKind_room_in1 hu) (fc I.hok eb) dd λ h' dd' hs => h _ ?_
    obtain ⟨q, es, ep, hq, h2, h3, h4, _, h5⟩ := dd'
    refine fD I (by rw [e]; exact True.intro) hs ⟨q, hq⟩ ⟨hl, hd, _, (rel.put k eb rv).keeps λ c ys ec => ?_, q, es, ep, hq, h2, h3, h4, h5⟩
    rw [a4 (ne_of ec e (λ z => nomatch z))]
    exact ec
end
section
variable {X : Cx} {pins : List (Addr × Obj)} {σ : St} {H : Hp} {s : Shared} {a : Addr} {kvs : List (Key × V)} {k : Key} {u : Value} {A : Around} {E : Value -> Shared -> Prop}
theorem d_clear {Q : Value -> Shared -> Prop} (I : Inv X pins σ H s) (e : H a = some (.dK kvs)) (h : ∀ s', Inv X pins σ (upd H a (.dK [])) s' -> Q .none s') : wpAny (model X.prog X.w) A (call (.builtin "dict.clear") [.ref a]) Q E s := by
  obtain ⟨z, hd, vs, rel, dd⟩ := dk_of I.hok e
  refine call_meetsIn PySem.F.slot_dict_clear dd.typeIs PySem.F.entry_dict_clear (PySem.F.args_dict_clear_1 _) (meets_dict_clear (ao X.prog X.w) a) ⟨vs, dd, by rw [<- rel.length]; exact z, λ h' dd' hs => h _ ?_⟩
  have he : ∃ q, h'.get? a = some q := let ⟨q, _, _, hq, _⟩ := dd'; ⟨q, hq⟩
  exact fD (t' := s.toks) I (by rw [e]; exact True.intro) hs he (mf (Nat.zero_le _) hd .nil dd')
theorem d_len {Q : Value -> Shared -> Prop} (I : Inv X pins σ H s) (e : Rd H a (.dK kvs)) (h : ∀ t s', Inv X pins σ H s' -> Q (.int kvs.length t) s') : wpAny (model X.prog X.w) A (call (.builtin "len") [.ref a]) Q E s := by
  obtain ⟨z, hd, vs, rel, dd⟩ := eW I.hok e
  refine call_len_dict hd dd (by rw [<- rel.length]; rw [sizeLine_eq] at z; omega) ?_
  rw [<- rel.length]
  exact h _ _ (I.tok _)
end
theorem kO {X : Cx} {pins : List (Addr × Obj)} {σ : St} {H : Hp} {s : Shared} {a : Addr} {y : V} {o : Option V} (I : Inv X pins σ H s) (g : DGet H a y o) : s.TypeIs (.ref a) "dict" := by
  rcases g with ⟨kvs, k, e, _, _⟩ | ⟨kvs, k, b, e, _, _, _⟩
  . obtain ⟨_, _, vs, _, dd⟩ := eW I.hok e
    exact dd.typeIs
  . obtain ⟨_, _, xs, _, dd⟩ := gp I.hok e
    exact dd.typeIs
section
variable {X : Cx} {o i e value : Expr} {pos pos' tpos : Pos} {td ty tv : TE}
end
theorem kP {P : Program} {w : World} {H : Hp} (h : Heap) (hb : sysModules < h.objs.size) : ObjOk P w H (h.push { cls := .type "dict", data := .dict #[] }) h.objs.size (.dK []) :=
  ⟨Nat.zero_le _, beq_eq_false_iff_ne.mpr (Ne.symm (Nat.ne_of_lt hb)), [], .nil, Heap.DictOf.new h⟩
theorem dt_empty {P : Program} {w : World} {H : Hp} (h : Heap) (hb : sysModules < h.objs.size) : ObjOk P w H (h.push { cls := .type "dict", data := .dict #[] }) h.objs.size (.dT []) :=
  ⟨Nat.zero_le _, beq_eq_false_iff_ne.mpr (Ne.symm (Nat.ne_of_lt hb)), [], .nil, _, #[], 0, Heap.get?_push_size _ rfl, ⟨rfl, rfl, rfl⟩, rfl, rfl, List.nodup_nil⟩
def tDNewK : TE := λ _ H Q => ∀ p, H p = none -> Q (.ref p) (upd H p (.dK []))
def tDNewT : TE := λ _ H Q => ∀ p, H p = none -> Q (.ref p) (upd H p (.dT []))
section
variable {X : Cx} {pos : Pos}
theorem pe_dnewK : PE X (.Dict [] [] pos) tDNewK := λ pins s σ H Q I h =>
  wpAny_Dict_empty ⟨.ref s.heap.objs.size, _, I.laid (a := s.heap.objs.size) (o := .dK []) (t' := s.toks) (λ _ _ q => Heap.get?_push_of_some _ q) (Nat.le_refl _) (kP s.heap I.big), rfl, h _ (I.hok.fresh (Nat.le_refl _))⟩
theorem pe_dnewT : PE X (.Dict [] [] pos) tDNewT := λ pins s σ H Q I h =>
  wpAny_Dict_empty ⟨.ref s.heap.objs.size, _, I.laid (a := s.heap.objs.size) (o := .dT []) (t' := s.toks) (λ _ _ q => Heap.get?_push_of_some _ q) (Nat.le_refl _) (dt_empty s.heap I.big), rfl, h _ (I.hok.fresh (Nat.le_refl _))⟩
end
def mh : List (TE × TE) -> St -> Hp -> (List (V × V) -> Hp -> Prop) -> Prop
  | [], _, H, Q => Q [] H
  | (tk, tv) :: r, σ, H, Q => tk σ H λ x H1 => tv σ H1 λ y H2 => mh r σ H2 λ ps H3 => Q ((x, y) :: ps) H3
abbrev VV : List (V × V) -> List (Value × Value) -> Prop := Paired λ p q => RelV p.1 q.1 /\ RelV p.2 q.2
def PPs (X : Cx) (pos : Pos) (keys : List (Option Expr)) (values : List Expr) (trs : List (TE × TE)) : Prop :=
  ∀ (pins : List (Addr × Obj)) (s : Shared) (σ : St) (H : Hp) (Q : List (V × V) -> Hp -> Prop), Inv X pins σ H s -> mh trs σ H Q →
    wpAny (model X.prog X.w) X.A (evalPairs (pairTrees keys values X.env pos)) (λ vs s' => ∃ ps H', Inv X pins σ H' s' /\ VV ps vs /\ Q ps H') X.xe s
theorem pps_nil {X : Cx} {pos : Pos} : PPs X pos [] [] [] := λ pins s σ H Q I h => pairTrees_nil_walk ⟨[], H, I, .nil, h⟩
theorem pps_cons {X : Cx} {pos : Pos} {k v : Expr} {ks : List (Option Expr)} {vs : List Expr} {tk tv : TE} {trs : List (TE × TE)} (hk : PE X k tk) (hv : PE X v tv) (hr : PPs X pos ks vs trs) :
    PPs X pos (some k :: ks) (v :: vs) ((tk, tv) :: trs) := λ pins s σ H Q I h =>
  pairTrees_cons_walk (thn (hk pins s σ H _ I h) λ u s1 ⟨x, H1, I1, rx, q1⟩ => thn (hv pins s1 σ H1 _ I1 q1) λ w2 s2 ⟨y, H2, I2, ry, q2⟩ =>
    thn (hr pins s2 σ H2 _ I2 q2) λ ws s3 ⟨ps, H3, I3, rel, q3⟩ => ⟨(x, y) :: ps, H3, I3, .cons ⟨rx, ry⟩ rel, q3⟩)
def g5 (kvs more : List (Key × V)) : List (Key × V) := more.foldl (λ acc kv => b8 acc kv.1 kv.2) kvs
theorem KV.merge : ∀ {more : List (Key × V)} {rs : List (Key × Value)} {kvs : List (Key × V)} {vs : List (Key × Value)}, KV more rs -> KV kvs vs -> KV (g5 kvs more) (merged vs rs) := by
  intro more rs kvs vs r
  unfold KV at r
  induction r generalizing kvs vs with
  | nil => intro q; exact q
  | @cons p q ps qs h t ih =>
    intro r0
    have e : KV (b8 kvs p.1 p.2) (stored vs q.1 q.2) := by
      have := r0.put p.1 h.2
      rw [<- h.1]; exact this
    exact ih e
theorem eX : ∀ (more kvs : List (Key × V)), (g5 kvs more).length <= kvs.length + more.length
  | [], kvs => by show kvs.length <= kvs.length + 0; omega
  | p :: r, kvs => by
    have h1 := eX r (b8 kvs p.1 p.2)
    have h2 := dX kvs p.1 p.2
    show (g5 (b8 kvs p.1 p.2) r).length <= _
    rw [List.length_cons]; omega
theorem h9 {P : Program} {w : World} : ∀ {kvs : List (Key × V)} {ws : List (Value × Value)}, VV (kvs.map λ kv => (kV kv.1, kv.2)) ws -> ∃ rs, Carries (ao P w) ws rs /\ KV kvs rs
  | [], _, r => by rw [List.map_nil] at r; cases r; exact ⟨[], True.intro, .nil⟩
  | p :: kvs, _, r => by
    rw [List.map_cons] at r
    cases r with
    | @cons a b as bs h t =>
      obtain ⟨rs, c, q⟩ := h9 (P := P) (w := w) t
      obtain ⟨b1, b2⟩ := b
      exact ⟨(p.1, b2) :: rs, ⟨gn h.1, rfl, c⟩, .cons ⟨rfl, h.2⟩ q⟩
def ji (trs : List (TE × TE)) : TE := λ σ H Q => ∀ p, H p = none -> mh trs σ (upd H p (.dK [])) λ ps H2 => H2 p = some (.dK []) /\ ∃ kvs : List (Key × V), ps = kvs.map (λ kv => (kV kv.1, kv.2)) /\ kvs.length <= 15 /\ Q (.ref p) (upd H2 p (.dK (g5 [] kvs)))
theorem pe_disp {X : Cx} {pos : Pos} {keys : List (Option Expr)} {values : List Expr} {trs : List (TE × TE)} (h : PPs X pos keys values trs) (hall : keys.all (·.isSome) = true) (hl : keys.length = values.length) (h0 : keys ≠ [])
    (h15 : keys.length <= 15) : PE X (.Dict keys values pos) (ji trs) := by
  intro pins s σ H Q I q
  have hn := I.hok.fresh (Nat.le_refl s.heap.objs.size)
  have I1 := I.laid (a := s.heap.objs.size) (o := .dK []) (h' := s.heap.push { cls := .type "dict", data := .dict #[] }) (t' := s.toks) (λ _ _ q => Heap.get?_push_of_some _ q) (Nat.le_refl _) (kP s.heap I.big)
  refine wpAny_Dict_walk (knd := ao X.prog X.w) hall hl h0 h15 (thn (h pins _ σ _ _ I1 (q _ hn)) λ ws s2 ⟨ps, H2, I2, rel, e, kvs, ep, lk, q2⟩ => ?_)
  subst ep
  obtain ⟨rs, c, rk⟩ := h9 (P := X.prog) (w := X.w) rel
  obtain ⟨z, hd, vs0, r0, dd⟩ := dk_of I2.hok e
  cases r0
  refine ⟨rs, c, dd, λ h' dd' hs => ⟨.ref s.heap.objs.size, _, ?_, rfl, q2⟩⟩
  have hz : (g5 [] kvs).length <= sizeLine := by
    have h1 := eX kvs []
    rw [List.length_nil] at h1
    rw [sizeLine_eq]; omega
  have he : ∃ q, h'.get? s.heap.objs.size = some q := let ⟨q, _, _, hq, _⟩ := dd'; ⟨q, hq⟩
  exact fD I2 (by rw [e]; exact True.intro) hs he (mf hz hd (rk.merge .nil) dd')
def IsD (H : Hp) (a : Addr) : Prop := (∃ kvs, Rd H a (.dK kvs)) \/ ∃ kvs, Rd H a (.dT kvs)
theorem mi {X : Cx} {pins : List (Addr × Obj)} {σ : St} {H : Hp} {s : Shared} {a : Addr} (I : Inv X pins σ H s) (d : IsD H a) :
    s.TypeIs (.ref a) "dict" /\ (∀ b, Value.ref a = .ref b -> ∃ ob, s.heap.get? b = some ob /\ ob.dict = none) /\ (a == sysModules) = false := by
  rcases d with ⟨kvs, e⟩ | ⟨kvs, e⟩
  . obtain ⟨_, hd, vs, _, dd⟩ := eW I.hok e
    refine ⟨dd.typeIs, λ b q => ?_, hd⟩
    cases q
    obtain ⟨ob, _, _, h1, h2, _⟩ := dd
    exact ⟨ob, h1, h2.2.1⟩
  . obtain ⟨_, hd, xs, _, dd⟩ := gp I.hok e
    refine ⟨dd.typeIs, λ b q => ?_, hd⟩
    cases q
    obtain ⟨ob, _, _, h1, h2, _⟩ := dd
    exact ⟨ob, h1, h2.2.1⟩
section
variable {X : Cx} {pins : List (Addr × Obj)} {σ : St} {H : Hp} {s : Shared} {a : Addr} {y d : V} {u r : Value} {o : Option V} {A : Around} {E : Value -> Shared -> Prop}
theorem d_get1 {Q : Value -> Shared -> Prop} (hu : A.units + 1 < cLine) (I : Inv X pins σ H s) (g : DGet H a y o) (ry : RelV y u) (h : ∀ w' s', Inv X pins σ H s' -> RelV (o.getD .non) w' -> Q w' s') :
    wpAny (model X.prog X.w) A (call (.builtin "dict.get") [.ref a, u]) Q E s := by
  rcases g with ⟨kvs, k, e, ey, l⟩ | ⟨kvs, k, b, e, ey, eb, l⟩
  . subst ey
    obtain ⟨z, hd, vs, rel, dd⟩ := eW I.hok e
    refine call_meetsIn PySem.F.slot_dict_get dd.typeIs PySem.F.entry_dict_get (PySem.F.args_dict_get_2 _ _) (meets_dict_get (ao X.prog X.w) a (gn ry) hd) ⟨_, dd.mapOf, h _ _ (I.tok _) ?_⟩
    rw [l]
    exact (rel.val k).getD rfl
  . subst ey
    cases (show u = Value.ref b from ry)
    obtain ⟨z, hd, xs, rel, dd⟩ := gp I.hok e
    refine call_meetsIn PySem.F.slot_dict_get dd.typeIs PySem.F.entry_dict_get (PySem.F.args_dict_get_2 _ _) (meetsH_dict_get (tupleKind (ao X.prog X.w)) a b hd) ⟨tupleKind_room_in1 hu, k, xs, fc I.hok eb, dd, h _ _ (I.tok _) ?_⟩
    rw [l]
    exact (rel.val k).getD rfl
theorem d_get2 {Q : Value -> Shared -> Prop} (hu : A.units + 1 < cLine) (I : Inv X pins σ H s) (g : DGet H a y o) (ry : RelV y u) (rd : RelV d r) (h : ∀ w' s', Inv X pins σ H s' -> RelV (o.getD d) w' -> Q w' s') :
    wpAny (model X.prog X.w) A (call (.builtin "dict.get") [.ref a, u, r]) Q E s := by
  rcases g with ⟨kvs, k, e, ey, l⟩ | ⟨kvs, k, b, e, ey, eb, l⟩
  . subst ey
    obtain ⟨z, hd, vs, rel, dd⟩ := eW I.hok e
    refine call_meetsIn PySem.F.slot_dict_get dd.typeIs PySem.F.entry_dict_get (PySem.F.args_dict_get_3 _ _ _) (meets_dict_get_default (ao X.prog X.w) a (gn ry) hd r) ⟨_, dd.mapOf, h _ _ (I.tok _) ?_⟩
    rw [l]
    exact (rel.val k).getD rd
  . subst ey
    cases (show u = Value.ref b from ry)
    obtain ⟨z, hd, xs, rel, dd⟩ := gp I.hok e
    refine call_meetsIn PySem.F.slot_dict_get dd.typeIs PySem.F.entry_dict_get (PySem.F.args_dict_get_3 _ _ _) (meetsH_dict_get_default (tupleKind (ao X.prog X.w)) a b hd r) ⟨tupleKind_room_in1 hu, k, xs, fc I.hok eb, dd, h _ _ (I.tok _) ?_⟩
    rw [l]
    exact (rel.val k).getD rd
end
section
variable {X : Cx} {o e f : Expr} {apos cpos : Pos} {td ty tx : TE}
end
section
variable {X : Cx} {pins : List (Addr × Obj)} {σ : St} {H : Hp} {s : Shared} {a : Addr} {kvs : List (Key × V)} {A : Around} {E : Value -> Shared -> Prop}
end
section
variable {X : Cx} {pins : List (Addr × Obj)} {σ : St} {H : Hp} {s : Shared} {a : Addr} {y : V} {u : Value} {A : Around} {E : Value -> Shared -> Prop}
end
end L2
namespace HT
open PySem PyProof.Rows
section
open PySem.SeqAt
open PySem.AutoSeq1 (wpAny_loadPart')
open PySem.MeetsSeq PySem.MeetsSeq2 PySem.MeetsSeq3
end
section
variable {prog : Program} {w : World} {A : Around} {E : Value -> Shared -> Prop} {s : Shared}
def sIx (n d : Nat) : Option Int -> Nat
  | none => d
  | some v => if v < 0 then (v + (n : Int)).toNat else min v.toNat n
end
end HT
namespace L2
open PySem PySem.Spec PyProof.Rows
abbrev TO := St -> Hp -> (Option Int -> Hp -> Prop) -> Prop
def PO (X : Cx) (e : Option Expr) (t : TO) : Prop :=
  ∀ (pins : List (Addr × Obj)) (s : Shared) (σ : St) (H : Hp) (Q : Option Int -> Hp -> Prop), Inv X pins σ H s -> t σ H Q →
    wpAny (model X.prog X.w) X.A (evalPart e X.env) (λ u s' => ∃ o H', Inv X pins σ H' s' /\ IsPart u o /\ Q o H') X.xe s
def fE : TO := λ _ H Q => Q none H
def tPart (t : TE) : TO := λ σ H Q => t σ H λ x H1 => ∃ i, x = .int i /\ Q (some i) H1
section
variable {X : Cx} {e : Expr} {te : TE} {lo hi : Option Expr} {tl th : TO} {pos p2 : Pos}
theorem po_none : PO X none fE := by
  intro pins s σ H Q I h
  rw [evalPart_none]
  exact wpAny_pure ⟨none, H, I, .none, h⟩
theorem po_some (h : PE X e te) : PO X (some e) (tPart te) := by
  intro pins s σ H Q I hw
  rw [evalPart_some]
  refine thn (h pins s σ H _ I hw) λ u s1 ⟨x, H1, I1, r1, q1⟩ => ?_
  obtain ⟨i, rfl, q⟩ := q1
  obtain ⟨t, rfl⟩ := r1
  exact ⟨some i, H1, I1, .int i t, q⟩
def SlR (X : Cx) (r : V -> Option Int -> Option Int -> Hp -> VK -> Prop) : Prop :=
  ∀ (pins : List (Addr × Obj)) (s : Shared) (σ : St) (H : Hp) (x : V) (v vl vu : Value) (lo hi : Option Int) (sl : Addr) (Q : VK), Inv X pins σ H s -> RelV x v -> s.heap.IsSliceOf sl vl vu .none -> IsPart vl lo -> IsPart vu hi -> r x lo hi H Q →
    ∃ T id, typeLookup (.type T) "__getitem__" = pure (some (.builtin id)) /\ s.TypeIs v T /\ wpAny (model X.prog X.w) X.A (getItem v (.ref sl)) (EP X pins σ Q) X.xe s
def tSl (r : V -> Option Int -> Option Int -> Hp -> VK -> Prop) (te : TE) (tl th : TO) : TE := λ σ H Q => te σ H λ x H1 => tl σ H1 λ l H2 => th σ H2 λ u H3 => r x l u H3 Q
theorem kQ {r : V -> Option Int -> Option Int -> Hp -> VK -> Prop} (hr : SlR X r) (he : PE X e te) (hl : PO X lo tl) (hu : PO X hi th) : PE X (.Subscript e (.Slice lo hi none p2) pos) (tSl r te tl th) := by
  intro pins s σ H Q I h
  refine Subscript_ (thn (he pins s σ H _ I h) λ v s1 ⟨x, H1, I1, r1, q1⟩ => ?_)
  refine wpAny_Slice (thn (hl pins s1 σ H1 _ I1 q1) λ vl s2 ⟨l, H2, I2, pl, q2⟩ => thn (hu pins s2 σ H2 _ I2 q2) λ vu s3 ⟨u, H3, I3, pu, q3⟩ => ?_)
  rw [evalPart_none]
  refine wpAny_pure ?_
  have I4 : Inv X pins σ H3 { s3 with heap := s3.heap.push { cls := .type "slice", data := .fields #[vl, vu, .none] } } := I3.kept (t' := s3.toks) λ b ob q => Heap.get?_push_of_some _ q
  obtain ⟨T, id, hT, ht, hg⟩ := hr pins { s3 with heap := s3.heap.push { cls := .type "slice", data := .fields #[vl, vu, .none] } } σ H3 x v vl vu l u s3.heap.objs.size Q I4 r1 (Heap.IsSliceOf.new ..) pl pu q3
  show wpAny (model X.prog X.w) X.A (subscriptTail e (.Slice lo hi none p2) v (.ref s3.heap.objs.size)) (EP X pins σ Q) X.xe { s3 with heap := s3.heap.push { cls := .type "slice", data := .fields #[vl, vu, .none] } }
  exact tail_any (ops := [.ref s3.heap.objs.size, v]) ht hT hg (by with_unfolding_all rfl)
def iU (xs : List V) (lo hi : Option Int) : List V := (xs.drop (HT.sIx xs.length 0 lo)).take (HT.sIx xs.length xs.length hi - HT.sIx xs.length 0 lo)
theorem dY (xs : List V) (lo hi : Option Int) : (iU xs lo hi).length <= xs.length := by
  unfold iU
  rw [List.length_take, List.length_drop]
  omega
end
end L2
namespace L2
open PySem PySem.Spec PyProof.Rows
def ixN (n : Nat) (i : Int) : Option Nat := if 0 <= i then (if i < n then some i.toNat else none) else if -(n : Int) <= i then some (i + n).toNat else none
def atI {α : Type} (xs : List α) (i : Int) : Option α := (ixN xs.length i).bind λ j => xs[j]?
theorem nC {n : Nat} {i : Int} {j : Nat} (h : ixN n i = some j) : seqIndex? i n = some j /\ j < n /\ -(n : Int) <= i /\ i < n := by
  unfold ixN at h
  by_cases h0 : 0 <= i
  . rw [if_pos h0] at h
    by_cases h1 : i < n
    . rw [if_pos h1] at h
      have e : i.toNat = j := Option.some.inj h
      exact ⟨by rw [seqIndex_of h0 h1, e], by omega, by omega, h1⟩
    . rw [if_neg h1] at h; cases h
  . rw [if_neg h0] at h
    by_cases h1 : -(n : Int) <= i
    . rw [if_pos h1] at h
      have e : (i + n).toNat = j := Option.some.inj h
      exact ⟨by rw [seqIndex_neg (by omega) h1, e], by omega, h1, by omega⟩
    . rw [if_neg h1] at h; cases h
theorem jL {α : Type} {xs : List α} {i : Int} {v : α} (h : atI xs i = some v) : ∃ j, seqIndex? i xs.length = some j /\ xs[j]? = some v /\ j < xs.length /\ -(xs.length : Int) <= i /\ i < xs.length := by
  unfold atI at h
  cases e : ixN xs.length i with
  | none => rw [e] at h; cases h
  | some j =>
    rw [e] at h
    obtain ⟨h1, h2, h3, h4⟩ := nC e
    exact ⟨j, h1, h, h2, h3, h4⟩
theorem bm {α : Type} {xs : List α} {j : Nat} {v : α} (h : xs[j]? = some v) : atI xs (j : Int) = some v := by
  have hj : j < xs.length := (List.getElem?_eq_some_iff.mp h).1
  have e : ixN xs.length (j : Int) = some j := by
    unfold ixN
    rw [if_pos (by omega), if_pos (by omega)]; simp
  unfold atI; rw [e]; exact h
def nD (b : Expr) : Prop := ∀ o i, subscripted b false o i = operate [o, i] (getItem o i)
def IxR (X : Cx) (r : R2) : Prop :=
  ∀ (value slice : Expr) (pins : List (Addr × Obj)) (s : Shared) (σ : St) (H : Hp) (x y : V) (v u : Value) (Q : VK), Inv X pins σ H s -> RelV x v -> RelV y u -> r x y H Q →
    subscripted slice false v u = operate [v, u] (getItem v u) -> wpAny (model X.prog X.w) X.A (subscriptTail value slice v u) (EP X pins σ Q) X.xe s
def MtR (X : Cx) (id : String) (r : V -> List V -> Hp -> VK -> Prop) : Prop :=
  ∀ (pins : List (Addr × Obj)) (s : Shared) (σ : St) (H : Hp) (x : V) (xs : List V) (v : Value) (us : List Value) (Q : VK), Inv X pins σ H s -> RelV x v -> Vals xs us -> r x xs H Q →
    wpAny (model X.prog X.w) X.A (call (.builtin id) (v :: us)) (EP X pins σ Q) X.xe s
section
variable {X : Cx} {a b : Expr} {ta tb : TE} {pos : Pos}
theorem IxR.or {r r' : R2} (h : IxR X r) (h' : IxR X r') : IxR X (λ x y H Q => r x y H Q \/ r' x y H Q) := by
  intro value slice pins s σ H x y v u Q I rx ry q hs
  rcases q with q | q
  . exact h value slice pins s σ H x y v u Q I rx ry q hs
  . exact h' value slice pins s σ H x y v u Q I rx ry q hs
theorem pe_ix {r : R2} (hr : IxR X r) (ha : PE X a ta) (hb : PE X b tb) (hs : nD b) : PE X (.Subscript a b pos) (tOp r ta tb) := by
  intro pins s σ H Q I h
  exact Subscript_ (binT ha hb I h λ v u s2 x y H2 I2 rx ry q => hr a b pins s2 σ H2 x y v u Q I2 rx ry q (hs _ _))
def rIxL (K : PySem.W.Frag) : R2 := λ x y H Q => ∃ p xs i v, x = .ref p /\ y = .int i /\ SqL K H p xs /\ atI xs i = some v /\ Q v H
def rIxT (K : PySem.W.Frag) : R2 := λ x y H Q => ∃ p xs i v, x = .ref p /\ y = .int i /\ SqT K H p xs /\ atI xs i = some v /\ Q v H
def rIxS : R2 := λ x y H Q => ∃ z i c, x = .str z /\ y = .int i /\ z.length <= sizeLine /\ atI z.cps.toList i = some c /\ Q (.str ⟨#[c]⟩) H
theorem nE : IxR X (rIxL X.K) := by
  intro value slice pins s σ H x y v u Q I rx ry h hs
  obtain ⟨p, xs, i, z, rfl, rfl, hq, he, q⟩ := h
  cases rx
  obtain ⟨t, rfl⟩ := ry
  obtain ⟨its, r, pl, hz⟩ := I.list hq
  obtain ⟨j, h1, h2, h3, h4, h5⟩ := jL he
  obtain ⟨w, ew, rw'⟩ := r.get h2
  have hl := r.length
  have hn := fb
  have fin : EP X pins σ Q w s := ⟨z, H, I, rw', q⟩
  by_cases h0 : 0 <= i
  . have hj : i.toNat = j := by
      rw [seqIndex_of h0 h5] at h1
      exact Option.some.inj h1
    exact item_listR pl.isList h0 (by omega) (by rw [hj]; simpa using ew) fin hs
  . have hj : (i + (its.toArray.size : Int)).toNat = j := by
      rw [seqIndex_neg (by omega) h4] at h1
      rw [List.size_toArray, <- hl]
      exact Option.some.inj h1
    exact subscriptTail_builtinR (x := w) pl.isList.typeIs slot_list_getitem.lookup
      (wpAny_getItem_list_neg (Q := λ r s' => r = w /\ EP X pins σ Q r s') pl.isList (by omega) (by rw [List.size_toArray] <;> omega) (by omega) (by rw [hj]; simpa using ew) ⟨rfl, fin⟩) hs
theorem ix_tup : IxR X (rIxT X.K) := by
  intro value slice pins s σ H x y v u Q I rx ry h hs
  obtain ⟨p, xs, i, z, rfl, rfl, hq, he, q⟩ := h
  cases rx
  obtain ⟨t, rfl⟩ := ry
  obtain ⟨its, r, pl, hz⟩ := I.tuple hq
  obtain ⟨j, h1, h2, h3, h4, h5⟩ := jL he
  obtain ⟨w, ew, rw'⟩ := r.get h2
  have hl := r.length
  have hn := fb
  have fin : EP X pins σ Q w s := ⟨z, H, I, rw', q⟩
  exact subscriptTail_builtinR (x := w) pl.typeIs slot_tuple_getitem.lookup
    (getItem_tuple (j := j) (Q := λ r s' => r = w /\ EP X pins σ Q r s') pl (by omega) (by omega) (by rw [List.size_toArray, <- hl]; exact h1) (by simpa using ew) ⟨rfl, fin⟩) hs
theorem ix_str : IxR X rIxS := by
  intro value slice pins s σ H x y v u Q I rx ry h hs
  obtain ⟨z, i, c, rfl, rfl, hz, he, q⟩ := h
  obtain ⟨t, rfl⟩ := rx
  obtain ⟨t', rfl⟩ := ry
  obtain ⟨j, h1, h2, h3, h4, h5⟩ := jL he
  have hl : z.cps.toList.length = z.length := by simp [Str.length]
  rw [hl] at h1 h4 h5
  have hn := fb
  exact tail_any (typeIs_str s z t) slot_str_getitem.lookup (getItem_str (c := c) (by
    have e1 : decide (i < -(2 ^ 63 : Int)) = false := decide_eq_false (by omega)
    have e2 : decide (i ≥ 2 ^ 63) = false := decide_eq_false (by omega)
    rw [e1, e2, Bool.or_false]) (by rw [h1]; simpa using h2) ⟨.str ⟨#[c]⟩, H, I.tok _, ⟨_, rfl⟩, q⟩) hs
theorem mj (its : List Value) (n j : Nat) (u : Value) : Obj.mapSeq (·.setIfInBounds j u) { cls := .type "list", data := .seq its.toArray n } = { cls := .type "list", data := .seq (its.set j u).toArray n } := by
  simp [Obj.mapSeq]
theorem Inv.lst {pins : List (Addr × Obj)} {σ : St} {H : Hp} {s : Shared} {p : Addr} {xs : List V} (I : Inv X pins σ H s) (h : H p = some (.lst xs)) :
    ∃ (its : List Value) (n : Nat), Vals xs its /\ s.heap.get? p = some { cls := .type "list", data := .seq its.toArray n } /\ xs.length <= sizeLine := by
  obtain ⟨z, its, n, r, e⟩ := I.hok p _ h
  exact ⟨its, n, r, e, z⟩
theorem Inv.lstUpd {pins : List (Addr × Obj)} {σ : St} {H : Hp} {s : Shared} {p : Addr} {xs ys : List V} {its its' : List Value} {n n' : Nat} {f : Obj -> Obj} (I : Inv X pins σ H s) (h : H p = some (.lst xs))
    (ho : s.heap.get? p = some { cls := .type "list", data := .seq its.toArray n }) (hf : f { cls := .type "list", data := .seq its.toArray n } = { cls := .type "list", data := .seq its'.toArray n' }) (r : Vals ys its') (hz : ys.length <= sizeLine) (t : Nat) :
    Inv X pins σ (upd H p (.lst ys)) { s with heap := s.heap.update p f, toks := t } := by
  have e : (s.heap.update p f).get? p = some { cls := .type "list", data := .seq its'.toArray n' } := by
    rw [Heap.get?_update_self f ho (by rw [hf] <;> rfl), hf]
  refine I.write (x := p) (e := p) (by rw [h]; trivial) (.inl rfl) (λ b u hb q => (Heap.get?_update_other _ _ (Ne.symm hb)).trans q) ⟨_, e⟩ ?_
  exact ⟨hz, its', n', r, e⟩
def rSetL : V -> V -> V -> Hp -> (Hp -> Prop) -> Prop := λ o i v H Q => ∃ p xs k j, o = .ref p /\ i = .int k /\ H p = some (.lst xs) /\ ixN xs.length k = some j /\ Q (upd H p (.lst (xs.set j v)))
theorem set_list : PSet X rSetL := by
  intro pins s σ H o i v ov iv u Q I ro ri rv h
  obtain ⟨p, xs, k, j, rfl, rfl, hp, hj, q⟩ := h
  cases ro
  obtain ⟨t, rfl⟩ := ri
  obtain ⟨its, n, r, ho, hz⟩ := I.lst hp
  obtain ⟨h1, h2, h3, h4⟩ := nC hj
  have hl := r.length
  have hn := fb
  have I' : Inv X pins σ (upd H p (.lst (xs.set j v))) { s with heap := s.heap.update p (Obj.mapSeq (·.setIfInBounds j u)) } :=
    I.lstUpd hp ho (mj its n j u) (r.set rv j) (by rw [List.length_set]; exact hz) s.toks
  by_cases h0 : 0 <= k
  . have hk : k.toNat = j := by
      rw [seqIndex_of h0 h4] at h1
      exact Option.some.inj h1
    exact PySem.W.ki_setAt ho h0 (by omega) (by rw [List.size_toArray, <- hl]; exact h4) (by rw [hk]; exact ⟨_, I', q⟩)
  . have hk : (k + (its.toArray.size : Int)).toNat = j := by
      rw [seqIndex_neg (by omega) h3] at h1
      rw [List.size_toArray, <- hl]
      exact Option.some.inj h1
    exact PySem.W.ki_setBack ho (by omega) (by rw [List.size_toArray, <- hl]; exact h3) (by omega) (by rw [hk]; exact ⟨_, I', q⟩)
theorem jM (lo hi : Option Int) (n : Nat) : (sliceBounds lo hi none n).1 = ((HT.sIx n 0 lo : Nat) : Int) /\ (sliceBounds lo hi none n).2.1 = ((HT.sIx n n hi : Nat) : Int) /\ (sliceBounds lo hi none n).2.2 = 1 := by
  refine ⟨?_, ?_, rfl⟩
  . cases lo with
    | none => simp [sliceBounds, HT.sIx]
    | some i =>
      simp only [sliceBounds, HT.sIx, Option.getD_none, show (1 : Int) > 0 by decide, if_true]
      by_cases h : i < 0
      . simp only [h, if_true] <;> omega
      . simp only [h, if_false] <;> omega
  . cases hi with
    | none => simp [sliceBounds, HT.sIx]
    | some i =>
      simp only [sliceBounds, HT.sIx, Option.getD_none, show (1 : Int) > 0 by decide, if_true]
      by_cases h : i < 0
      . simp only [h, if_true] <;> omega
      . simp only [h, if_false] <;> omega
theorem iV (its : List Value) (lo hi : Option Int) : slicePick its.toArray lo hi none = ((its.drop (HT.sIx its.length 0 lo)).take (HT.sIx its.length its.length hi - HT.sIx its.length 0 lo)).toArray := by
  obtain ⟨h1, h2, h3⟩ := jM lo hi its.toArray.size
  unfold slicePick
  rw [h1, h2, h3]
  simp only [sliceRange_one, pick_run, List.size_toArray] <;> rfl
def rSlL (K : PySem.W.Frag) : V -> Option Int -> Option Int -> Hp -> VK -> Prop := λ x lo hi H Q => ∃ a xs, x = .ref a /\ SqL K H a xs /\ ∀ p, H p = none -> Q (.ref p) (upd H p (.lst (iU xs lo hi)))
theorem nF : SlR X (rSlL X.K) := by
  intro pins s σ H x v vl vu lo hi sl Q I rx hs pl pu h
  obtain ⟨a, xs, rfl, hx, q⟩ := h
  cases rx
  obtain ⟨its, r, ht, hz⟩ := I.list hx
  have hlen := r.length
  refine ⟨"list", _, slot_list_getitem.lookup, ht.isList.typeIs, ?_⟩
  refine wpAny_getItem_list_slice ht.isList hs pl pu .none (by simp) ?_ (by rw [List.size_toArray] <;> omega)
  rw [iV, <- hlen]
  refine ⟨.ref s.heap.objs.size, _, I.laid (t' := s.toks) (o := .lst (iU xs lo hi)) (λ b ob q => Heap.get?_push_of_some _ q) (Nat.le_refl _) ?_, rfl, q _ (I.hok.fresh (Nat.le_refl _))⟩
  exact ⟨Nat.le_trans (dY xs lo hi) hz, _, 0, (r.drop (HT.sIx xs.length 0 lo)).take (HT.sIx xs.length xs.length hi - HT.sIx xs.length 0 lo), Heap.get?_push_size _ rfl⟩
def hE : V -> Bool
  | .non => true
  | .bl _ => true
  | .int _ => true
  | .str _ => true
  | _ => false
def eqV : V -> V -> Bool
  | .non, .non => true
  | .bl a, .bl b => a == b
  | .bl a, .int b => (if a then 1 else 0) == b
  | .int a, .bl b => a == (if b then 1 else 0)
  | .int a, .int b => a == b
  | .str a, .str b => a == b
  | _, _ => false
theorem eqAt_V {A : Around} {s : Shared} {y x : V} {u v : Value} (ry : RelV y u) (rx : RelV x v) (fy : hE y = true) (fx : hE x = true) : SeqAt.EqAt A s u v (eqV y x) := by
  cases y with
  | non =>
    cases ry
    cases x with
    | non => cases rx; exact SeqAt.EqAt.same _
    | bl b => cases rx; exact SeqAt.EqAt.none_bool b
    | int b => obtain ⟨t, rfl⟩ := rx; exact SeqAt.EqAt.none_int b t
    | str b => obtain ⟨t, rfl⟩ := rx; exact SeqAt.EqAt.none_str b t
    | _ => exact absurd (show false = true from fx) Bool.false_ne_true
  | bl a =>
    cases ry
    cases x with
    | non => cases rx; exact SeqAt.EqAt.bool_none a
    | bl b => cases rx; exact SeqAt.EqAt.bool_bool a b
    | int b => obtain ⟨t, rfl⟩ := rx; exact SeqAt.EqAt.bool_int a b t
    | str b => obtain ⟨t, rfl⟩ := rx; exact SeqAt.EqAt.bool_str a b t
    | _ => exact absurd (show false = true from fx) Bool.false_ne_true
  | int a =>
    obtain ⟨t', rfl⟩ := ry
    cases x with
    | non => cases rx; exact SeqAt.EqAt.int_none a t'
    | bl b => cases rx; exact SeqAt.EqAt.int_bool a t' b
    | int b => obtain ⟨t, rfl⟩ := rx; exact SeqAt.EqAt.int_int a t' b t
    | str b => obtain ⟨t, rfl⟩ := rx; exact SeqAt.EqAt.int_str a t' b t
    | _ => exact absurd (show false = true from fx) Bool.false_ne_true
  | str a =>
    obtain ⟨t', rfl⟩ := ry
    cases x with
    | non => cases rx; exact SeqAt.EqAt.str_none a t'
    | bl b => cases rx; exact SeqAt.EqAt.str_bool a t' b
    | int b => obtain ⟨t, rfl⟩ := rx; exact SeqAt.EqAt.str_int a t' b t
    | str b => obtain ⟨t, rfl⟩ := rx; exact SeqAt.EqAt.str_str a t' b t
    | _ => exact absurd (show false = true from fx) Bool.false_ne_true
  | _ => exact absurd (show false = true from fy) Bool.false_ne_true
theorem fF : CallR X (.builtin "len") (λ xs H Q => ∃ p ys, xs = [.ref p] /\ (SqL X.K H p ys \/ SqT X.K H p ys) /\ Q (.int ys.length) H) := by
  intro pins s σ H xs us Q I r h
  obtain ⟨p, ys, rfl, hq, q⟩ := h
  obtain ⟨u, rfl, rx⟩ := bq r
  cases rx
  have hn := fb
  rcases hq with hq | hq
  . obtain ⟨its, r', pl, hz⟩ := I.list hq
    have hlen := r'.length
    exact Calls.call_len_list pl.isList (by simp only [List.size_toArray] <;> omega) ⟨.int ys.length, H, I.tok _, ⟨s.toks + 1, by rw [List.size_toArray, hlen]⟩, q⟩
  . obtain ⟨its, r', pl, hz⟩ := I.tuple hq
    have hlen := r'.length
    exact len_tuple pl (by simp only [List.size_toArray] <;> omega) ⟨.int ys.length, H, I.tok _, ⟨s.toks + 1, by rw [List.size_toArray, hlen]⟩, q⟩
theorem jN : CallR X (.builtin "len") (λ xs H Q => ∃ z, xs = [.str z] /\ z.length <= sizeLine /\ Q (.int z.length) H) := by
  intro pins s σ H xs us Q I r h
  obtain ⟨z, rfl, hz, q⟩ := h
  obtain ⟨u, rfl, t, rfl⟩ := bq r
  have hn := fb
  exact len_str (by omega) ⟨.int z.length, H, I.tok _, ⟨_, rfl⟩, q⟩
theorem CallR.or {f : Value} {r r' : List V -> Hp -> VK -> Prop} (h : CallR X f r) (h' : CallR X f r') : CallR X f (λ xs H Q => r xs H Q \/ r' xs H Q) := by
  intro pins s σ H xs us Q I rs q
  rcases q with q | q
  . exact h pins s σ H xs us Q I rs q
  . exact h' pins s σ H xs us Q I rs q
theorem fG : CallR X (.type "list") (λ xs H Q => ∃ p ys, xs = [.ref p] /\ (SqL X.K H p ys \/ SqT X.K H p ys) /\ ∀ l, H l = none -> Q (.ref l) (upd H l (.lst ys))) := by
  intro pins s σ H xs us Q I r h
  obtain ⟨p, ys, rfl, hq, q⟩ := h
  obtain ⟨u, rfl, rx⟩ := bq r
  cases rx
  have fin : ∀ (its : List Value), Vals ys its -> ys.length <= sizeLine -> ∀ (h' : Heap) (c' : Nat), (∀ b o', s.heap.get? b = some o' -> h'.get? b = some o') →
      h'.get? s.heap.objs.size = some { cls := .type "list", dict := none, data := .seq its.toArray c', slots := #[] } -> EP X pins σ Q (.ref s.heap.objs.size) { s with heap := h' } := λ its r' hz h' c' kp e =>
    ⟨.ref s.heap.objs.size, _, I.laid (t' := s.toks) kp (Nat.le_refl _) (show ObjOk X.prog X.w _ h' _ (.lst ys) from ⟨hz, its, c', r', e⟩), rfl, q _ (I.hok.fresh (Nat.le_refl _))⟩
  rcases hq with hq | hq
  . obtain ⟨its, r', pl, hz⟩ := I.list hq
    have hlen := r'.length
    obtain ⟨o, ho, hc, n, hd⟩ := pl.isList
    exact call_list_seq p (.inl rfl) ho hc hd (λ h' c' kp e => fin its r' hz h' c' kp e) (by simp only [List.size_toArray] <;> omega)
  . obtain ⟨its, r', pl, hz⟩ := I.tuple hq
    have hlen := r'.length
    obtain ⟨o, ho, hc, n, hd⟩ := pl
    exact call_list_seq p (.inr rfl) ho hc hd (λ h' c' kp e => fin its r' hz h' c' kp e) (by simp only [List.size_toArray] <;> omega)
theorem iW : CallR X (.type "tuple") (λ xs H Q => ∃ p ys, xs = [.ref p] /\ ((SqL X.K H p ys /\ ∀ l, H l = none -> Q (.ref l) (upd H l (.tup ys))) \/ (SqT X.K H p ys /\ Q (.ref p) H))) := by
  intro pins s σ H xs us Q I r h
  obtain ⟨p, ys, rfl, h⟩ := h
  obtain ⟨u, rfl, rx⟩ := bq r
  cases rx
  rcases h with ⟨hq, q⟩ | ⟨hq, q⟩
  . obtain ⟨its, r', pl, hz⟩ := I.list hq
    have hlen := r'.length
    refine call_tuple_list pl.isList (λ h' kp => ?_) (by simp only [List.size_toArray] <;> omega)
    have I1 : Inv X pins σ H { s with heap := h' } := I.kept (t' := s.toks) kp
    have I2 : Inv X pins σ (upd H h'.objs.size (.tup ys)) { s with heap := h'.push { cls := .type "tuple", data := .seq its.toArray } } :=
      I1.laid (t' := s.toks) (λ b o e => Heap.get?_push_of_some _ e) (Nat.le_refl _) (show ObjOk X.prog X.w _ _ _ (.tup ys) from ⟨hz, its, r', IsTup.new _ _⟩)
    exact ⟨.ref h'.objs.size, _, I2, rfl, q _ (I1.hok.fresh (Nat.le_refl _))⟩
  . obtain ⟨its, r', pl, hz⟩ := I.tuple hq
    exact call_tuple_same pl ⟨.ref p, H, I, rfl, q⟩
def tyV (K : PySem.W.Frag) (T : String) (x : V) (H : Hp) : Prop := match x with
  | .str _ => T = "str"
  | .int _ => T = "int"
  | .ref p => (T = "list" /\ ∃ xs, SqL K H p xs) \/ (T = "tuple" /\ ∃ o, K.lookup p = some o /\ o.cls = .type "tuple" /\ o.dict = none) ∨
      (T = "dict" /\ ((∃ kvs, H p = some (.dK kvs)) \/ ∃ kvs, H p = some (.dT kvs))) \/ (T = "set" /\ ∃ S n, H p = some (.set S n))
  | _ => False
theorem tyV_is {pins : List (Addr × Obj)} {σ : St} {H : Hp} {s : Shared} {T : String} {x : V} {v : Value} (I : Inv X pins σ H s) (r : RelV x v) (ty : tyV X.K T x H) :
    s.TypeIs v T /\ ∀ a, v = .ref a -> ∃ ob, s.heap.get? a = some ob /\ ob.dict = none := by
  cases x with
  | str z =>
    obtain ⟨t, rfl⟩ := r
    cases (show T = "str" from ty)
    exact ⟨typeIs_str s z t, λ _ e => nomatch e⟩
  | int i =>
    obtain ⟨t, rfl⟩ := r
    cases (show T = "int" from ty)
    exact ⟨typeIs_int s i t, λ _ e => nomatch e⟩
  | ref p =>
    cases r
    rcases ty with ⟨rfl, xs, hq⟩ | ⟨rfl, o, hk, hc, hd⟩ | ⟨rfl, hk⟩ | ⟨rfl, S, n, hk⟩
    . obtain ⟨its, _, pl, _⟩ := I.list hq
      refine ⟨pl.isList.typeIs, λ a e => ?_⟩
      cases e
      obtain ⟨o, n, e, c, hd, _⟩ := pl
      exact ⟨o, e, hd⟩
    . refine ⟨⟨o, I.kIn p o hk, hc⟩, λ a e => ?_⟩
      cases e
      exact ⟨o, I.kIn _ o hk, hd⟩
    . have z : ∃ o, s.heap.get? p = some o /\ o.ExactDict := by
        rcases hk with ⟨kvs, hk⟩ | ⟨kvs, hk⟩
        . obtain ⟨_, _, _, _, o, _, _, e, ex, _⟩ := I.hok p _ hk
          exact ⟨o, e, ex⟩
        . obtain ⟨_, _, _, _, o, _, _, e, ex, _⟩ := I.hok p _ hk
          exact ⟨o, e, ex⟩
      obtain ⟨o, e, ex⟩ := z
      refine ⟨⟨o, e, ex.1⟩, λ a e2 => ?_⟩
      cases e2
      exact ⟨o, e, ex.2.1⟩
    . obtain ⟨o, _, _, _, e, ex, _⟩ := I.hok p _ hk
      refine ⟨⟨o, e, ex.1⟩, λ a e2 => ?_⟩
      cases e2
      exact ⟨o, e, ex.2.1⟩
  | _ => exact False.elim ty
variable {o e : Expr} {es : List Expr} {to : TE} {t : TA} {name : Str} {apos cpos : Pos} {T id : String} {r : V -> List V -> Hp -> VK -> Prop}
/- xs.append(e), list.index on a module's tuple .. are MtR facts of 06m -/
end
end L2
namespace L2
open PySem PySem.Spec PyProof.Rows
def MtM (X : Cx) (id : String) (r : V -> List V -> Hp -> VK -> Prop) : Prop :=
  ∀ (pins : List (Addr × Obj)) (s : Shared) (σ : St) (H : Hp) (x : V) (xs : List V) (v : Value) (us : List Value) (Q : VK), Inv X pins σ H s -> RelV x v -> Vals xs us -> r x xs H Q →
    wpAny (model X.prog X.w) X.A (call (.builtin id) (v :: us)) (EP X pins σ Q) X.xe s
theorem Vals.one : ∀ {x : V} {us : List Value}, Vals [x] us -> ∃ u, us = [u] /\ RelV x u
  | _, _, .cons r .nil => ⟨_, rfl, r⟩
theorem Vals.zero : ∀ {us : List Value}, Vals [] us -> us = []
  | _, .nil => rfl
theorem Vals.rep {xs : List V} {us : List Value} (h : Vals xs us) : ∀ k : Nat, Vals (List.replicate k xs).flatten (List.replicate k us).flatten
  | 0 => .nil
  | k + 1 => by
    rw [List.replicate_succ, List.replicate_succ, List.flatten_cons, List.flatten_cons]
    exact Vals.append h (Vals.rep h k)
theorem jj (its : List Value) : ∀ (k : Nat) (acc : List Value),
    List.foldl (λ x1 x2 => x1 ++ x2) acc.toArray (List.replicate k its.toArray) = (acc ++ (List.replicate k its).flatten).toArray
  | 0, acc => by simp
  | k + 1, acc => by
    have e : acc.toArray ++ its.toArray = (acc ++ its).toArray := by simp
    have e2 : (acc ++ its) ++ (List.replicate k its).flatten = acc ++ (List.replicate (k + 1) its).flatten := by
      rw [List.replicate_succ, List.flatten_cons, List.append_assoc]
    rw [<- e2, <- jj its k (acc ++ its), <- e, List.replicate_succ, List.foldl_cons]
section
variable {X : Cx} {pins : List (Addr × Obj)} {σ : St} {H : Hp} {s : Shared} {l b : Addr} {xs ys zs : List V}
theorem Inv.lset {its its' : List Value} {n : Nat} {f : Array Value -> Array Value} {t' : Nat} (I : Inv X pins σ H s) (hH : H l = some (.lst xs))
    (e : s.heap.get? l = some { cls := .type "list", data := .seq its.toArray n }) (hf : f its.toArray = its'.toArray) (hv : Vals ys its') (hz : ys.length <= sizeLine) :
    Inv X pins σ (upd H l (.lst ys)) { s with heap := s.heap.update l (Obj.mapSeq f), toks := t' } := by
  have q := PySem.IsL.update e f
  rw [hf] at q
  refine I.write (x := l) (e := l) (by rw [hH]; exact trivial) (.inl rfl) (λ b' u hb hu => (Heap.get?_update_other s.heap (Obj.mapSeq f) (Ne.symm hb)).trans hu) ⟨_, q⟩ ?_
  exact ⟨hz, its', _, hv, q⟩
theorem Inv.lnew {its : List Value} {t' : Nat} (I : Inv X pins σ H s) (hv : Vals ys its) (hz : ys.length <= sizeLine) :
    Inv X pins σ (upd H s.heap.objs.size (.lst ys)) { s with heap := s.heap.push { cls := .type "list", data := .seq its.toArray }, toks := t' } :=
  I.laid (λ _ _ q => Heap.get?_push_of_some _ q) (Nat.le_refl _) ⟨hz, its, 0, hv, Heap.get?_push_size _ rfl⟩
theorem Inv.fresh (I : Inv X pins σ H s) : H s.heap.objs.size = none := I.hok.fresh (Nat.le_refl _)
theorem Inv.lstM (I : Inv X pins σ H s) (hH : H l = some (.lst xs)) : xs.length <= sizeLine /\ ∃ (its : List Value) (n : Nat), Vals xs its /\ xs.length = its.length /\ s.heap.get? l = some { cls := .type "list", data := .seq its.toArray n } := by
  obtain ⟨z, its, n, r, e⟩ := I.hok l _ hH
  exact ⟨z, its, n, r, r.length, e⟩
theorem notLongL {n : Nat} (h : n <= sizeLine) : Builtin.List.listTooLong n = false := by
  unfold Builtin.List.listTooLong
  exact decide_eq_false (by omega)
end
section
variable {X : Cx}
def rAppend : V -> List V -> Hp -> VK -> Prop := λ x vs H Q => ∃ l xs y, x = .ref l /\ vs = [y] /\ H l = some (.lst xs) /\ xs.length < sizeLine /\ Q .non (upd H l (.lst (xs ++ [y])))
theorem jk : MtM X "list.append" rAppend := by
  intro pins s σ H x vs v us Q I rx rv h
  obtain ⟨l, xs, y, rfl, rfl, hH, hz, q⟩ := h
  cases rx
  obtain ⟨u, rfl, ru⟩ := rv.one
  obtain ⟨z, its, n, r, hl, e⟩ := I.lstM hH
  refine call_meets F.slot_list_append ⟨_, e, rfl⟩ F.entry_list_append (F.args_list_append_2 _ _) (PySem.list_append l its.toArray n u (by rw [List.size_toArray]; omega)) ⟨e, ?_⟩
  refine ⟨.non, _, I.lset (its' := its ++ [u]) hH e (by simp) (r.append (.cons ru .nil)) ?_, rfl, q⟩
  rw [List.length_append, List.length_singleton]
  omega
def rClear : V -> List V -> Hp -> VK -> Prop := λ x vs H Q => ∃ l xs, x = .ref l /\ vs = [] /\ H l = some (.lst xs) /\ Q .non (upd H l (.lst []))
theorem mt_clear : MtM X "list.clear" rClear := by
  intro pins s σ H x vs v us Q I rx rv h
  obtain ⟨l, xs, rfl, rfl, hH, q⟩ := h
  cases rx
  have hus := rv.zero
  subst hus
  obtain ⟨z, its, n, r, hl, e⟩ := I.lstM hH
  refine call_meets F.slot_list_clear ⟨_, e, rfl⟩ F.entry_list_clear (F.args_list_clear_1 _) (AutoSeq1.list_clear_list_0 l its.toArray n (by rw [List.size_toArray]; omega)) ⟨e, ?_⟩
  exact ⟨.non, _, I.lset (its' := []) (ys := []) hH e rfl .nil (Nat.zero_le _), rfl, q⟩
def rCat : R2 := λ x y H Q => ∃ l b xs zs, x = .ref l /\ y = .ref b /\ H l = some (.lst xs) /\ H b = some (.lst zs) /\ xs.length + zs.length <= sizeLine /\ ∀ p, H p = none -> Q (.ref p) (upd H p (.lst (xs ++ zs)))
theorem op_cat : OpR X (binaryOp .Add) rCat := by
  intro pins s σ H x y v u Q I rx ry h
  obtain ⟨l, b, xs, zs, rfl, rfl, hH, hB, hz, q⟩ := h
  cases rx
  cases ry
  obtain ⟨z, its, n, r, hl, e⟩ := I.lstM hH
  obtain ⟨z2, its2, n2, r2, hl2, e2⟩ := I.lstM hB
  refine PySem.P.add_list e e2 ?_ (by rw [List.size_toArray, List.size_toArray]; omega)
  have ea : its.toArray ++ its2.toArray = (its ++ its2).toArray := by simp
  rw [ea]
  exact ⟨.ref _, _, I.lnew (t' := s.toks) (r.append r2) (by rw [List.length_append]; omega), rfl, q _ I.fresh⟩
def rRep : R2 := λ x y H Q => ∃ l k xs, x = .ref l /\ y = .int k /\ H l = some (.lst xs) /\ -(2 ^ 63) <= k /\ k < 2 ^ 63 /\ xs.length * k.toNat <= sizeLine ∧
  ∀ p, H p = none -> Q (.ref p) (upd H p (.lst (List.replicate k.toNat xs).flatten))
theorem len_rep {α : Type} (xs : List α) (k : Nat) : (List.replicate k xs).flatten.length = k * xs.length := by
  induction k with
  | zero => simp
  | succ k ih => rw [List.replicate_succ, List.flatten_cons, List.length_append, ih, Nat.succ_mul, Nat.add_comm]
theorem op_rep : OpR X (binaryOp .Mult) rRep := by
  intro pins s σ H x y v u Q I rx ry h
  obtain ⟨l, k, xs, rfl, rfl, hH, h1, h2, hz, q⟩ := h
  cases rx
  obtain ⟨t, rfl⟩ := ry
  obtain ⟨z, its, n, r, hl, e⟩ := I.lstM hH
  have hlen : its.toArray.size * k.toNat <= sizeLine := by rw [List.size_toArray, <- hl]; exact hz
  have hcap : ¬ its.toArray.size * k.toNat > (2 ^ 63 - 1) / 8 := by
    have : (sizeLine : Nat) <= (2 ^ 63 - 1) / 8 := by decide
    omega
  have hfit : ¬ (!Builtin.List.listFitsIndex k) = true := by
    rw [fitsIndex_both h1 h2]
    exact Bool.false_ne_true
  have hlong : ¬ Builtin.List.listTooLong (its.toArray.size * k.toNat) = true := by
    rw [notLongL hlen]
    exact Bool.false_ne_true
  have hnew : List.foldl (λ x1 x2 => x1 ++ x2) #[] (List.replicate (if its.toArray.isEmpty = true then 0 else k.toNat) its.toArray) = (List.replicate k.toNat its).flatten.toArray := by
    have f0 : ∀ m : Nat, List.foldl (λ x1 x2 => x1 ++ x2) #[] (List.replicate m its.toArray) = (List.replicate m its).flatten.toArray := λ m => by
      have := jj its m []
      rw [List.nil_append] at this
      exact this
    rw [f0]
    cases its with
    | nil => simp
    | cons a r' => rw [if_neg (by simp)]
  refine wpAny_binaryOp_repeat_ref (T := "list") (U := "int") (by decide) ⟨_, e, rfl⟩ (λ s' => typeIs_int s' k t) noFill_list_mul F.fills_int_mul F.slot_int_rmul repeat_list F.slot_int_index.lookup
    (call_meets F.slot_int_rmul (typeIs_int s k t) F.entry_int_rmul (F.args_int_rmul_2 _ _) (int___rmul___int_list k t l its.toArray n)
      ⟨e, rfl, ⟨_, e, rfl⟩, call_meets F.slot_list_mul ⟨_, e, rfl⟩ F.entry_list_mul (F.args_list_mul_2 _ _) (AutoListH.list___mul___list_int_3 l its.toArray n k t hfit hcap hlong) ⟨e, ?_⟩⟩)
  rw [hnew]
  exact ⟨.ref _, _, I.lnew (t' := s.toks) (r.rep k.toNat) (by rw [len_rep, Nat.mul_comm]; exact hz), rfl, q _ I.fresh⟩
end
section
variable {prog : Program} {w : World} {A : Around} {E : Value -> Shared -> Prop} {s : Shared}
set_option maxRecDepth 100000 in
end
section
variable {X : Cx}
end
end L2
namespace Att
open PySem PySem.W PySem.Calls PyProof.Rows
theorem gD {P : Params} {h : Heap} : ∀ (ns : List Int) (vs : List Value), WellAll P h vs (ns.map WData.int) -> IntsAre vs ns := by
  intro ns
  induction ns with
  | nil =>
    intro vs w
    rw [List.map_nil] at w
    cases w
    exact .nil
  | cons n ns ih =>
    intro vs w
    rw [List.map_cons] at w
    cases w with
    | cons a b =>
      cases a
      exact .cons _ _ (ih _ b)
theorem oZ {l : OpenLaw} {n : Nat} (hn : l.most = some n) {P : Params} {h : Heap} {args : List WData} {vals : List Value}
    (hpre : l.row.toRowW.claim.pre args = true) (hwl : WellAll P h vals args) :
    ∃ a vs ns, vals = [Value.ref a] /\ args = [WData.list (ns.map WData.int)] /\ h.get? a = some { cls := .type "list", data := .seq vs.toArray } /\ IntsAre vs ns /\ ns.length <= n := by
  have hsh : WShape.hasAll [] args [.list .int] = true := (pre_splitW hpre).1
  have hc : l.pre.holds [] { args := args } = true := (pre_splitW hpre).2
  obtain ⟨d, r, rfl, h1, h2⟩ := hasAllW_cons hsh
  obtain rfl := hasAllW_nil h2
  obtain ⟨xs, rfl, h3⟩ := hasW_list h1
  obtain ⟨ns, rfl⟩ := items_int h3
  have hlen : ns.length <= n := by
    unfold OpenLaw.pre at hc
    have h4 : (WTm.not (.lt (.lit (.int (n : Int))) (.len (.arg 0)))).holds [] { args := [.list (ns.map .int)] } = true := by
      have h4 := (holds_andW hc).1
      rw [hn] at h4
      exact h4
    have h5 := condW_of h4 (w_not (w_lt w_lit (w_len_list (w_arg rfl))))
    rw [List.length_map] at h5
    refine Nat.le_of_not_lt λ q => ?_
    have q' : (n : Int) < ((ns.length : Nat) : Int) := by omega
    first
      | (rw [decide_eq_true q'] at h5; exact absurd h5 (by decide))
      | (simp at h5; omega)
  cases hwl with
  | cons w1 w2 =>
    cases w2
    cases w1 with
    | list ho hall => exact ⟨_, _, ns, rfl, rfl, ho, gD ns _ hall, hlen⟩
theorem p0 (l : OpenLaw) (args : List WData) : l.row.toRowW.claim.post args (.bool true) args = true :=
  postW_of (r := l.row.toRowW) (X := (true == true))
    (show WShape.has [] (.bool true) .bool = true by first | rfl | decide | simp [WShape.has, WShape.arms, WShape.armsAll])
    (show (WTm.eq .res (.lit (.bool true))).value [] { args := args, res := some (.bool true), after := args } = some (.bool (true == true)) from w_eq_bool (w_res rfl) w_lit) rfl
theorem kR {l : OpenLaw} {n : Nat} {q : Program} {loose : List Str} {XP : (Str -> Option Value) -> Heap -> Prop} {YP : World -> Heap -> Prop} {d : DefRec}
    (hn : l.most = some n) (hdf : d.params.defaults = [])
    (call : ∀ (w : World) (s₀ s₁ : Shared) (mg mb : Str -> Option Value) (fa : Addr) (o : Obj) (pm cd doc : Value) (a : Addr) (vs : List Value) (ns : List Int),
      Ground q loose [] XP w s₀ mg mb s₁.heap -> YP w s₁.heap →
      s₁.heap.get? fa = some o -> o.data = .func (docDef d.name d.params d.body d.scope pm cd doc) -> s₁.heap.CodeRec cd d.name -> mg d.name = some (.ref fa) →
      s₁.heap.get? a = some { cls := .type "list", data := .seq vs.toArray } -> IntsAre vs ns -> ns.length <= n -> s₁.gens = #[] →
      codeAny (model l.prog w) callerA (.call (.ref fa) ⟨[.ref a], []⟩) (λ r s' => r = .ok (.ret (.bool true)) /\ OldK s₁.heap s'.heap /\ s'.os = s₁.os /\ AllBare s'.gens) s₁) :
    WalkO q loose XP YP l.row.toRowW d [] (λ f vs => PySem.call f vs) := by
  intro w s₀ s₁ mg mb G Y fa o pm cd doc dV kV ho hd hcd hD hmg hg args vals as hpre hlay hrd hwl hlo
  obtain rfl : dV = .none := Dflts.none hD hdf
  obtain rfl : kV = .none := Dflts.noKw hD
  obtain ⟨a, vs, ns, rfl, rfl, hobj, hints, hlen⟩ := oZ hn hpre hwl
  refine enter_call (codeAny_mono (call w s₀ s₁ mg mb fa o pm cd doc a vs ns G Y ho (fd_plain hd) hcd hmg hobj hints hlen hg) λ r s' hq => ?_)
  obtain ⟨rfl, h2, h3, h4⟩ := hq
  exact ⟨.inl ⟨.bool true, .bool true, [], rfl, λ _ => rfl, .bool true, p0 l _, λ _ => ⟨List.Pairwise.nil, λ _ hm => (nomatch hm)⟩⟩, h2, h3, h4⟩
section
variable {prog : Program} {w : World} {A : Around} {E : Value -> Shared -> Prop} {s : Shared} {K : Frag}
end
end Att
namespace L2
open PySem PySem.Spec PyProof.Rows
theorem jl : ∀ {vs : List Value} {ns : List Int}, IntsAre vs ns -> Vals (ns.map V.int) vs
  | _, _, .nil => .nil
  | _, _, .cons n t h => .cons ⟨t, rfl⟩ (jl h)
def Only (H : Hp) : Prop := ∀ b, H b = none \/ ∃ o xs, H b = some (.frz o (.lst xs))
theorem law_call {P : Program} {w : World} {K : PySem.W.Frag} {mg mb : Str -> Option Value} {CX : CXT} {k : Nat} {fa a : Addr} {fd : FuncData} {x : Str} {sp : Sp} {s₁ : Shared} {vs : List Value} {ns : List Int}
    (KX : K.In s₁.heap) (hns : s₁.heap.Ns mainGlobals mg) (hb : s₁.heap.Ns builtinsNs mb) (hbb : ∀ x : Str, x ≠ "__name__" -> mb x = bootBuiltins x) (hlim : s₁.heap.NoLimit) (hg : s₁.gens = #[])
    (ha : s₁.heap.get? a = some { cls := .type "list", data := .seq vs.toArray }) (hi : IntsAre vs ns) (hl : ns.length <= sizeLine) (hr : Room k callerA)
    (F : ∀ base : Heap, K.In base -> base.Ns mainGlobals mg -> FnOk P w K mg base CX k fa fd [x] sp) (hbind : ∀ (s : Shared) (u : Value), BindsTo s fd ⟨[u], []⟩ [(x, u)])
    (hsp : ∀ H : Hp, Only H -> SqL K H a (ns.map V.int) -> sp [.ref a] H (λ v _ => v = .bl true) λ _ _ _ => False)
    (hCX : ∀ H e s', CX [] H s₁ (λ _ _ _ => False) e s' -> False) :
    codeAny (model P w) callerA (.call (.ref fa) ⟨[.ref a], []⟩) (λ r s' => r = .ok (.ret (.bool true)) /\ OldK s₁.heap s'.heap /\ s'.os = s₁.os /\ AllBare s'.gens) s₁ := by
  have rv := jl hi
  have lenV := hi.length
  have core : ∀ H : Hp, Only H -> SqL K H a (ns.map V.int) -> HOk P w H s₁.heap -> (∀ b, H b ≠ none -> b = a) -> (H a ≠ none -> K.lookup a = none) →
      codeAny (model P w) callerA (.call (.ref fa) ⟨[.ref a], []⟩) (λ r s' => r = .ok (.ret (.bool true)) /\ OldK s₁.heap s'.heap /\ s'.os = s₁.os /\ AllBare s'.gens) s₁ := by
    intro H hO hS hok hA hK
    have cM : ∀ {b : Addr} {o : Obj}, s₁.heap.get? b = some o -> H b = none -> (jH s₁.heap H).get? b = some o := λ e n => hidT_get e n
    have noA : ∀ {b : Addr} {o : Obj} {es : Array DictEntry} {ep : Nat}, s₁.heap.get? b = some o -> o.data = .dict es ep -> H b = none := λ {b o es ep} e d => by
      cases q : H b with
      | none => rfl
      | some u =>
        have e' : b = a := hA b (by rw [q]; simp)
        subst e'
        rw [ha] at e; cases e
        have d' : Data.seq vs.toArray _ = Data.dict es ep := d
        cases d'
    have nsK : ∀ {b : Addr} {m : Str -> Option Value}, s₁.heap.Ns b m -> (jH s₁.heap H).Ns b m := λ {b m} ⟨o, es, ep, e, d, r⟩ => ⟨o, es, ep, cM e (noA e d), d, r⟩
    have hKb : K.In (jH s₁.heap H) := λ b o e => cM (KX b o e) (by
      cases q : H b with
      | none => rfl
      | some u =>
        have e' : b = a := hA b (by rw [q]; simp)
        subst e'
        rw [hK (by rw [q]; simp)] at e; cases e)
    have hM : Mod K mg (jH s₁.heap H) := ⟨hKb, nsK hns, ⟨mb, nsK hb, hbb⟩, let ⟨mc, h1, h2⟩ := hlim; ⟨mc, nsK h1, h2⟩⟩
    have e0 : Env0 P w K mg (jH s₁.heap H) callerA [] s₁ H := ⟨rfl, hM, λ b o e => of_hidT e, Nat.le_of_eq (oO _ _), trivial, λ b hb => absurd (show b ∈ ([] : List Addr) from hb) (by simp), hok, .of_eq hg⟩
    refine codeAny_mono ((F _ hKb (nsK hns)).run callerA [] s₁ H ⟨[.ref a], []⟩ [.ref a] [.ref a] _ _ hr e0 (hbind s₁ (.ref a)) (.cons rfl .nil) (hsp H hO hS)) λ r s' h => ?_
    cases r with
    | error e => exact (hCX H e s' h).elim
    | ok fl =>
      cases fl with
      | next => exact False.elim h
      | brk => exact False.elim h
      | cont => exact False.elim h
      | ret u =>
        obtain ⟨v, H', os, bare, un, hok', r', q⟩ := h
        have q' : v = .bl true := q
        subst q'
        obtain rfl : u = Value.bool true := r'
        refine ⟨rfl, OldK.of_keep λ b o e => ?_, os, bare⟩
        cases q : H b with
        | none => exact un.keep b o e q (by intro z; exact absurd (show b ∈ ([] : List Addr) from z) (by simp)) (by simp)
        | some u =>
          rcases hO b with z | ⟨ob, xs, z⟩
          . rw [q] at z; cases z
          . have z2 := un.frzs b ob _ z
            obtain ⟨e1, _⟩ := hok b _ z
            obtain ⟨e2, _⟩ := hok' b _ z2
            rw [e] at e1; cases e1
            exact e2
  cases hk : K.lookup a with
  | some o =>
    have e := KX a o hk
    rw [ha] at e
    cases e
    refine core (λ _ => none) (λ _ => .inl rfl) (.inr ⟨_, vs.toArray, _, hk, rfl, rfl, rfl, by rw [List.size_toArray, lenV]; exact hl, by simpa using rv⟩) (λ b u z => by have z' : (none : Option HO) = some u := z; cases z') (λ b z => absurd rfl z) λ z => absurd rfl z
  | none =>
    refine core (λ b => if b = a then some (.frz { cls := .type "list", data := .seq vs.toArray } (.lst (ns.map V.int))) else none) (λ b => ?_) (.inl (.inr ⟨{ cls := .type "list", data := .seq vs.toArray }, if_pos rfl⟩)) (λ b u z => ?_) (λ b z => ?_) λ _ => hk
    . by_cases hb : b = a
      . exact .inr ⟨_, _, if_pos hb⟩
      . exact .inl (if_neg hb)
    . by_cases hb : b = a
      . have z' := (if_pos hb).symm.trans z
        cases z'
        subst hb
        exact ⟨ha, by rw [List.length_map]; exact hl, vs, _, rv, ha⟩
      . have z' := (if_neg hb).symm.trans z
        cases z'
    . by_cases hb : b = a
      . exact hb
      . exact absurd (if_neg hb) z
end L2
namespace L2
open PySem PySem.Spec PyProof.Rows
end L2
/- THE LAST THEOREM (shape; LID, My.* are yours):
   My.Adr: a structure of the addresses that your layer names (classes, functions); My.Txt K t: a structure (Prop) of the equations over K;
   My.txt_mk : {K} {implicit addresses ..} (e1 : nsIn K mainGlobals "law" = some (some (.ref f))) (e2 : K.lookup f = some ⟨oc, od, .func (fnOf "law" "law" params body scope dV kV doc pm an cdv ct), sl⟩) (e3 : codeIn K cdv "law" = true) .. : ∃ t, My.Txt K t
set_option maxRecDepth 100000 in
set_option maxHeartbeats 0 in
(the tactic k_is has no namespace: write k_is) -/
namespace L2
open PySem PySem.Spec PyProof.Rows
def fH (s : Stmt) (j : Nat) : Stmt := match s with
  | .ClassDef _ _ _ body _ _ _ _ _ _ _ => body.getD j (.Pass ⟨0, 0, 0, 0⟩)
  | _ => .Pass ⟨0, 0, 0, 0⟩
def ae (s : Stmt) : Arguments := match s with
  | .FunctionDef _ a _ _ _ _ _ _ _ _ => a
  | _ => { posonlyargs := [], args := [], vararg := none, kwonlyargs := [], kw_defaults := [], kwarg := none, defaults := [] }
def a7 (s : Stmt) : List Stmt := match s with
  | .FunctionDef _ _ b _ _ _ _ _ _ _ => b
  | _ => []
def a0 (s : Stmt) : Scope := match s with
  | .FunctionDef _ _ _ _ _ _ sc _ _ _ => sc
  | _ => { kind := .function, names := [], isGenerator := false, isCoroutine := false }
abbrev CX0 : CXT := λ _ _ _ _ _ _ => False
abbrev E0 : XK := λ _ _ _ => False
theorem pass0 {X : Cx} : bU CX0 X E0 := λ _ _ _ _ _ _ _ h => h.elim
structure Fun (K : PySem.W.Frag) (x qual : Str) (st : Stmt) (f : Addr) (fd : FuncData) : Prop where
  ex : ∃ (oc : Value) (od : Option Addr) (kV doc pm : Value) (an : Option Addr) (cdv ct : Value) (osl : Array (Option Value)),
    fd = PySem.W.fnOf x qual (ae st) (a7 st) (a0 st) .none kV doc pm an cdv ct /\ K.lookup f = some ⟨oc, od, .func fd, osl⟩ /\ PySem.W.codeIn K cdv qual = true
  kp : PySem.W.keepIn K (.ref f) = true
section
variable {P : Program} {w : World} {K : PySem.W.Frag} {mg : Str -> Option Value} {base : Heap}
theorem Fun.ok {x qual : Str} {st : Stmt} {f : Addr} {fd : FuncData} {N ps : List Str} {k : Nat} {sp : Sp} (F : Fun K x qual st f fd) (S : FnScope N ps (a0 st)) (len : ∀ vs H Q E, sp vs H Q E -> vs.length = ps.length)
    (hbody : ∀ (cdv : Value) (A : Around) (outer : List Env) (s : Shared) (H : Hp) (vs : List V) (Q : VK) (E : XK), Room k (A.deeper (envOfC qual (a0 st) s.heap.objs.size f cdv)) -> sp vs H Q E →
      ∃ t, PSs (me CX0 P w K mg base N qual (a0 st) f cdv A outer s H E).nox (a7 st) t /\ t { nx := λ _ H' => Q .non H', rt := Q } (dJ N vs) H) : FnOk P w K mg base CX0 (k + 1) f fd ps sp := by
  obtain ⟨oc, od, kV, doc, pm, an, cdv, ct, osl, rfl, lk, hcd⟩ := F.ex
  refine fn_of lk hcd S len λ A outer s H vs Q E hr hsp => ?_
  obtain ⟨t, h, q⟩ := hbody cdv A outer s H vs Q E hr hsp
  exact ⟨t, h.nox, q⟩
theorem Fun.binds {x qual : Str} {st : Stmt} {f : Addr} {fd : FuncData} {ps : List Str} (F : Fun K x qual st f fd)
    (h : ∀ (kV doc pm : Value) (an : Option Addr) (cdv ct : Value) (us : List Value), us.length = ps.length -> bindArgs (PySem.W.fnOf x qual (ae st) (a7 st) (a0 st) .none kV doc pm an cdv ct) ⟨us, []⟩ = pure (ps.zip us)) : Binds K fd ps [] := by
  obtain ⟨oc, od, kV, doc, pm, an, cdv, ct, osl, rfl, lk, hcd⟩ := F.ex
  exact .all (h kV doc pm an cdv ct)
theorem fe {x qual : Str} {st : Stmt} {f : Addr} {oc : Value} {od an : Option Addr} {osl : Array (Option Value)} {kV doc pm cdv ct : Value} (l : K.lookup f = some ⟨oc, od, .func (PySem.W.fnOf x qual (ae st) (a7 st) (a0 st) .none kV doc pm an cdv ct), osl⟩)
    (c : PySem.W.codeIn K cdv qual = true) (k : PySem.W.keepIn K (.ref f) = true) : Fun K x qual st f (PySem.W.fnOf x qual (ae st) (a7 st) (a0 st) .none kV doc pm an cdv ct) := ⟨⟨oc, od, kV, doc, pm, an, cdv, ct, osl, rfl, l, c⟩, k⟩
end
theorem hV {A : Around} {k : Nat} (hr : Room k A) : A.units + 1 < cLine := Nat.lt_of_le_of_lt (Nat.add_le_add_left (by decide : 1 <= 64) _) hr.units
theorem p7 {n : Nat} (h : n <= 1000) : n < sizeLine := Nat.lt_of_le_of_lt h (by decide)
section
variable {X : Cx}
theorem p8 : CallR X (.builtin "len") (λ xs H Q => ∃ a kvs, xs = [V.ref a] /\ H a = some (.dK kvs) /\ Q (.int kvs.length) H) := by
  intro pins s σ H xs us Q I r h
  obtain ⟨a, kvs, rfl, ha, q⟩ := h
  obtain ⟨u, rfl, ru⟩ := bq r
  cases ru
  exact d_len I (.inl ha) λ t s' I' => ⟨.int kvs.length, H, I', ⟨t, rfl⟩, q⟩
end
def Same (H H' : Hp) : Prop := ∀ b o, H b = some o -> H' b = some o
theorem Same.refl (H : Hp) : Same H H := λ _ _ h => h
theorem Same.trans {H H1 H2 : Hp} (a : Same H H1) (b : Same H1 H2) : Same H H2 := λ c o h => b c o (a c o h)
theorem Same.free {H H' : Hp} (e : Same H H') {l : Addr} (h : H' l = Option.none) : H l = Option.none := by
  cases q : H l with
  | none => rfl
  | some o =>
    rw [e l o q] at h
    cases h
theorem Same.seq {K : PySem.W.Frag} {H H' : Hp} {a : Addr} {xs : List V} (e : Same H H') (h : SqL K H a xs) : SqL K H' a xs := by
  rcases h with (h | ⟨o, h⟩) | h
  . exact .inl (.inl (e _ _ h))
  . exact .inl (.inr ⟨o, e _ _ h⟩)
  . exact .inr h
section
variable {κ : Type} [DecidableEq κ]
theorem valV_in {kvs : List (κ × V)} {k : κ} {v : V} (h : ak kvs k = some v) : k ∈ kvs.map (·.1) := by
  have q : (kvs.any λ kv => decide (kv.1 = k)) = true := by
    rw [ck, h]
    all_goals rfl
  obtain ⟨p, hp, e⟩ := List.any_eq_true.mp q
  exact List.mem_map.mpr ⟨p, hp, of_decide_eq_true e⟩
theorem nG : ∀ {l : List κ} {k : κ}, l.Nodup -> ¬ k ∈ l -> (l ++ [k]).Nodup
  | [], k, _, _ => by simp
  | a :: r, k, h, hk => by
    obtain ⟨h1, h2⟩ := List.nodup_cons.mp h
    show (a :: (r ++ [k])).Nodup
    refine List.nodup_cons.mpr ⟨λ m => ?_, nG h2 λ m => hk (List.mem_cons.mpr (Or.inr m))⟩
    rcases List.mem_append.mp m with q | q
    . exact h1 q
    . exact hk (List.mem_cons.mpr (Or.inl (List.mem_singleton.mp q).symm))
end
end L2
set_option maxHeartbeats 4000000
namespace L2
open PySem PySem.Spec PyProof.Rows
theorem bw {H : Hp} {p : Addr} {o : HO} (h : H p = none) : Same H (upd H p o) := λ b u e => by
  rw [a4 (ai e h)]
  exact e
theorem Same.put {H H' : Hp} {p : Addr} {o : HO} (s : Same H H') (h : H p = none) : Same H (L2.upd H' p o) := λ b u e => by
  rw [a4 (ai e h)]
  exact s b u e
@[irreducible] def br (c : Bool) (A B : Prop) : Prop := match c with
  | true => A
  | false => B
theorem bO {c : Bool} {A B : Prop} (hc : c = true) (h : A) : br c A B := by
  subst hc
  unfold br
  exact h
theorem bb {c : Bool} {A B : Prop} (hc : c = false) (h : B) : br c A B := by
  subst hc
  unfold br
  exact h
theorem jO {A B : Prop} : br true A B = A := by unfold br; rfl
theorem hW {A B : Prop} : br false A B = B := by unfold br; rfl
theorem dZ {c : Bool} {A B : Prop} (h : br c A B) : if c = true then A else B := by
  cases c
  . rw [hW] at h
    simpa using h
  . rw [jO] at h
    simpa using h
theorem aR {c : Bool} {A B : Prop} (h1 : c = true -> A) (h2 : c = false -> B) : br c A B := by
  cases c
  . exact bb rfl (h2 rfl)
  . exact bO rfl (h1 rfl)
theorem ff {c : Prop} [Decidable c] {A B : Prop} (h1 : c -> A) (h2 : ¬ c -> B) : br (decide c) A B := aR (λ h => h1 (of_decide_eq_true h)) (λ h => h2 (of_decide_eq_false h))
theorem br_not {c : Bool} {A B : Prop} (h : br c B A) : br (!c) A B := by
  cases c
  . rw [hW] at h
    exact bO rfl h
  . rw [jO] at h
    exact bb rfl h
theorem kS {X : Cx} : CallR X (.builtin "isinstance") (λ xs H Q => ∃ (x : V) (t : Value) (b : Bool) (T : String), xs = [x, .ty T] /\ TyOf X.K H x t /\ PySem.W.kitOne X.K t (.type T) = some b /\ Q (.bl b) H) := by
  intro pins s σ H xs us Q I r h
  obtain ⟨x, t, b, T, rfl, ty, e, q⟩ := h
  obtain ⟨u, w', rfl, ru, rw'⟩ := nA r
  cases rw'
  exact ja I ru ty e λ tk => ⟨.bl b, H, I.tok tk, rfl, q⟩
def bZ (H : Hp) : V -> Option String
  | .non => some "NoneType"
  | .bl _ => some "bool"
  | .int _ => some "int"
  | .str _ => some "str"
  | .ref a => match H a with
    | some (.lst _) => some "list"
    | some (.frz _ (.lst _)) => some "list"
    | some (.tup _) => some "tuple"
    | some (.dK _) => some "dict"
    | some (.dT _) => some "dict"
    | _ => none
  | _ => none
theorem p9 {K : PySem.W.Frag} {H : Hp} {x : V} {T : String} (e : bZ H x = some T) : TyOf K H x (.type T) := by
  unfold bZ at e
  split at e
  . cases e; exact .non
  . cases e; exact .bl _
  . cases e; exact .int _
  . cases e; exact .str _
  . split at e
    . cases e; exact .lst (by assumption)
    . cases e; exact .frz (by assumption)
    . cases e; exact .tup (by assumption)
    . cases e; exact .dK (by assumption)
    . cases e; exact .dT (by assumption)
    . cases e
  . cases e
def dj (S T : String) : Bool := S == T || (S == "bool" && T == "int")
def hX : List String := ["NoneType", "bool", "int", "str", "list", "tuple", "dict"]
theorem kit_tt {K : PySem.W.Frag} {S T : String} {l : List Value} (hm : PySem.W.kitMeta T = true) (hl : fastBuiltinMro S = some l) : PySem.W.kitOne K (.type S) (.type T) = some ((Value.type S == Value.type T) || l.contains (.type T)) := by
  show (if (Value.type S == Value.type T) = true then some true else if PySem.W.kitMeta T = true then (fastBuiltinMro S).map (·.contains (.type T)) else none) = _
  rw [hm, hl]
  cases (Value.type S == Value.type T) <;> rfl
def rIsi : List V -> Hp -> VK -> Prop := λ xs H Q => ∃ (x : V) (S T : String), xs = [x, .ty T] /\ bZ H x = some S /\ T ∈ ["str", "int", "bool", "list", "tuple", "dict"] /\ Q (.bl (dj S T)) H
theorem pb {H : Hp} {x : V} {S : String} (e : bZ H x = some S) : S ∈ hX := by
  unfold bZ at e
  split at e
  . cases e; decide
  . cases e; decide
  . cases e; decide
  . cases e; decide
  . split at e <;> first | (cases e; done) | (cases e; decide)
  . cases e
theorem kit_own {K : PySem.W.Frag} : ∀ S ∈ hX, ∀ T ∈ ["str", "int", "bool", "list", "tuple", "dict"], PySem.W.kitOne K (.type S) (.type T) = some (dj S T) := by
  intro S hS T hT
  have hm : PySem.W.kitMeta T = true := by
    revert T
    decide +kernel
  have hl : ∃ l, fastBuiltinMro S = some l /\ ∀ T ∈ ["str", "int", "bool", "list", "tuple", "dict"], ((Value.type S == Value.type T) || l.contains (.type T)) = dj S T := by
    revert S
    have : ∀ S ∈ hX, (match fastBuiltinMro S with | some l => ["str", "int", "bool", "list", "tuple", "dict"].all λ T => ((Value.type S == Value.type T) || l.contains (.type T)) == dj S T | none => false) = true := by decide +kernel
    intro S hS
    have e := this S hS
    split at e
    . rename_i l hl
      refine ⟨l, hl, λ T hT => ?_⟩
      exact eq_of_beq (List.all_eq_true.mp e T hT)
    . cases e
  obtain ⟨l, h1, h2⟩ := hl
  rw [kit_tt hm h1, h2 T hT]
theorem call_isi {X : Cx} : CallR X (.builtin "isinstance") rIsi := by
  intro pins s σ H xs us Q I r h
  obtain ⟨x, S, T, rfl, e, hT, q⟩ := h
  exact kS pins s σ H _ us Q I r ⟨x, .type S, dj S T, T, rfl, p9 e, kit_own S (pb e) T hT, q⟩
theorem pf {X : Cx} : OpR X (compareOp .LtE) (λ x y H Q => ∃ i j, x = .str i /\ y = .str j /\ Q (.bl (!decide (j.cps.toList < i.cps.toList))) H) := by
  intro pins s σ H x y v u Q I rx ry h
  obtain ⟨i, j, rfl, rfl, q⟩ := h
  obtain ⟨t, rfl⟩ := rx
  obtain ⟨t', rfl⟩ := ry
  exact PySem.P.le_str (fZ I q rfl)
theorem sl_str {X : Cx} : SlR X (λ x lo hi H Q => ∃ z, x = .str z /\ z.length <= sizeLine /\ Q (.str (Txt.slice z lo hi)) H) := by
  intro pins s σ H x v vl vu lo hi sl Q I rx hs pl pu h
  obtain ⟨z, rfl, hz, q⟩ := h
  obtain ⟨t, rfl⟩ := rx
  refine ⟨"str", _, F.slot_str_getitem.lookup, typeIs_str _ _ _, ?_⟩
  have go : ∀ (l u : Option (Int × Tok)), vl = partValue l -> vu = partValue u -> lo = l.map (·.1) -> hi = u.map (·.1) -> wpAny (model X.prog X.w) X.A (getItem (.str z t) (.ref sl)) (EP X pins σ Q) X.xe s := by
    intro l u e1 e2 e3 e4
    subst e1 e2 e3 e4
    refine wpAny_getItem_str_slice (l := l) (u := u) (st := none) hs rfl ?_
    exact post_val_or_str ⟨Nat.le_trans (Txt.slice_le z _ _) hz, λ t' k => ⟨.str _, H, I.tok k, ⟨t', rfl⟩, q⟩⟩
  cases pl with
  | none =>
    cases pu with
    | none => exact go none none rfl rfl rfl rfl
    | int i t' => exact go none (some (i, t')) rfl rfl rfl rfl
  | int j t2 =>
    cases pu with
    | none => exact go (some (j, t2)) none rfl rfl rfl rfl
    | int i t' => exact go (some (j, t2)) (some (i, t')) rfl rfl rfl rfl
def jP (z : Str) (n : Nat) : Str := ⟨(List.replicate n z.cps.toList).flatten.toArray⟩
theorem kT (z : Str) (n : Nat) : (jP z n).length = n * z.length := by
  show ((List.replicate n z.cps.toList).flatten.toArray).size = n * z.cps.size
  rw [List.size_toArray, List.length_flatten, List.map_replicate, List.sum_replicate_nat, Array.length_toList]
theorem jm (a : Array Nat) : ∀ (n : Nat) (acc : Array Nat), ((List.replicate n a).foldl (· ++ ·) acc).toList = acc.toList ++ (List.replicate n a.toList).flatten
  | 0, acc => by simp
  | n + 1, acc => by
    rw [List.replicate_succ, List.foldl_cons, jm a n, Array.toList_append, List.replicate_succ, List.flatten_cons, List.append_assoc]
theorem mn {X : Cx} : OpR X (binaryOp .Mult) (λ x y H Q => ∃ z n, x = .str z /\ y = .int n /\ 0 < z.length /\ 0 <= n /\ n < 2 ^ 31 /\ n.toNat * z.length <= sizeLine /\ Q (.str (jP z n.toNat)) H) := by
  intro pins s σ H x y v u Q I rx ry h
  obtain ⟨z, n, rfl, rfl, h0, hn, h1, hz, q⟩ := h
  obtain ⟨t, rfl⟩ := rx
  obtain ⟨t', rfl⟩ := ry
  have hs : sizeLine = 16777216 := sizeLine_eq
  by_cases hn0 : n < 1
  . have e : n = 0 := by omega
    subst e
    refine PySem.P.mul_str_none (by decide) (by decide) ⟨.str (jP z 0), H, I.tok _, ⟨_, rfl⟩, q⟩
  . have hz' : z.length * n.toNat <= sizeLine := by rw [Nat.mul_comm]; exact hz
    have ez : ⟨(List.replicate n.toNat z.cps).foldl (· ++ ·) #[]⟩ = jP z n.toNat := by
      unfold jP
      congr 1
      apply Array.toList_inj.mp
      rw [jm]
      simp
    refine PySem.P.mul_str (by simp; omega) (λ _ _ => ?_) (λ _ _ => ?_) ?_
    . have e1 : (z.length : Int) * n <= 16777216 := by
        have := hz'
        have e2 : ((z.length * n.toNat : Nat) : Int) = (z.length : Int) * n := by rw [Int.natCast_mul, Int.toNat_of_nonneg hn]
        omega
      intro h3
      have h4 : (2 ^ 63 - 1) / n < (z.length : Int) := h3
      have h5 : (2 ^ 63 - 1 : Int) < (z.length : Int) * n := Int.lt_mul_of_ediv_lt (by omega) h4
      omega
    . unfold Builtin.Str.tooLong
      exact decide_eq_false (by omega)
    . rw [if_neg hn0]
      by_cases h1' : (n == 1 || z.length == 0) = true
      . rw [if_pos h1']
        have en : n = 1 := by
          rcases Bool.or_eq_true _ _ ▸ h1' with z1 | z1
          . exact eq_of_beq z1
          . have := eq_of_beq z1; omega
        subst en
        have er : jP z (1 : Int).toNat = z := by
          unfold jP
          simp
        rw [er] at q
        exact ⟨.str z, H, I, ⟨_, rfl⟩, q⟩
      . rw [if_neg h1', ez]
        exact ⟨by show (jP z n.toNat).length <= sizeLine; rw [kT]; exact hz, .str _, H, I.tok _, ⟨_, rfl⟩, q⟩
theorem kU {X : Cx} (hc : X.calm = true) : CallR X (.builtin "all") (λ xs H Q => ∃ p bs, xs = [.ref p] /\ SqL X.K H p (List.map V.bl bs) /\ Q (.bl (bs.all id)) H) := by
  intro pins s σ H xs us Q I r h
  obtain ⟨p, bs, rfl, hp, q⟩ := h
  obtain ⟨u, rfl, ru⟩ := bq r
  cases ru
  obtain ⟨its, rv, pl, hz⟩ := I.list hp
  have hlt : p < s.heap.objs.size := by
    obtain ⟨o, n, e, _⟩ := pl
    exact Heap.lt_size e
  have hlen : its.length = bs.length := by rw [<- rv.length, List.length_map]
  refine call_all_walk (wpAny_pyIter_list pl.isList ?_)
  refine ⟨s.heap.objs.size, _, _, _, _, _, λ i => bs.getD i true, rfl, Walks.list (show X.A.in1.handled = none from I.ok.hd hc) s.heap.objs.size p (Nat.ne_of_lt hlt) its.toArray, ⟨⟨_, Heap.get?_push_size _ rfl, rfl, rfl⟩, pl.isList.at λ o e => Heap.get?_push_of_some _ e⟩, ?_, ?_⟩
  . intro i v s' Q' E' hv hq
    have hv' : its[i]? = some v := by simpa using hv
    have hb : bs[i]? = some (bs.getD i true) := by
      have hi : i < bs.length := by rw [<- hlen]; exact (List.getElem?_eq_some_iff.mp hv').1
      simp [List.getD, hi]
    obtain ⟨u, hu, ru⟩ := rv.get (i := i) (x := .bl (bs.getD i true)) (by rw [List.getElem?_map, hb]; rfl)
    rw [hv'] at hu
    cases hu
    cases ru
    exact wpAny_truthy_bool hq
  . intro h' tk hk
    have e : ((List.range its.toArray.size).all λ i => bs.getD i true) = bs.all id := by
      rw [List.size_toArray, hlen]
      rw [Bool.eq_iff_iff, List.all_eq_true, List.all_eq_true]
      constructor
      . intro h b hb
        obtain ⟨i, hi, e⟩ := List.mem_iff_getElem.mp hb
        have := h i (List.mem_range.mpr hi)
        simp [List.getD, hi, e] at this
        exact this
      . intro h i hi
        have hi' := List.mem_range.mp hi
        have := h bs[i] (List.getElem_mem hi')
        simp [List.getD, hi']
        exact this
    rw [e]
    exact ⟨.bl _, H, I.kept (h' := h') (t' := tk) λ b o eo => hk b o (by
      have : b < s.heap.objs.size := Heap.lt_size eo
      simp
      exact Nat.ne_of_lt this) (Heap.get?_push_of_some _ eo), rfl, q⟩
theorem ph {X : Cx} (hc : X.calm = true) : CallR X (.builtin "all") (λ xs H Q => ∃ p bs, xs = [.ref p] /\ Rd H p (.lst (List.map V.bl bs)) /\ Q (.bl (bs.all id)) H) := by
  intro pins s σ H xs us Q I r h
  obtain ⟨p, bs, e, hp, q⟩ := h
  exact kU hc pins s σ H xs us Q I r ⟨p, bs, e, .inl hp, q⟩
theorem Turn.imp {P : Program} {w : World} {K : PySem.W.Frag} {tg : Expr} {J J' : It} {fp : List Addr} {it : Addr} {tn : Nat -> Heap -> Prop} (T : Turn P w K tg J fp it tn)
    (hg : ∀ i H, J'.go i H -> J.go i H) (hy : ∀ i H x H', J'.go i H -> J.yld i H x H' -> J'.yld i H x H') (hs : ∀ i H, J'.stop i H -> J.stop i H) : Turn P w K tg J' fp it tn :=
  ⟨T.mem, T.obj, T.keep, λ X e1 e2 e3 hc i pins s σ H E I hf st g => thn (T.item X e1 e2 e3 hc i pins s σ H E I hf st (hg i H g)) λ r s1 ⟨u, e, h⟩ => ⟨u, e, thn h λ _ s2 ⟨x, H', I', rx, y, st', fr⟩ => ⟨x, H', I', rx, hy i H x H' g y, st', fr⟩⟩,
    λ X e1 e2 e3 hc i pins s σ H E I hf st g => T.done X e1 e2 e3 hc i pins s σ H E I hf st (hs i H g), T.self⟩
def gE (a : Addr) : It := ⟨λ i H => ∃ xs x, Rd H a (.lst xs) /\ xs[i]? = some x, λ i H x H' => H' = H /\ ∀ xs, Rd H a (.lst xs) -> xs[i]? = some x, λ i H => ∃ xs, Rd H a (.lst xs) /\ xs.length <= i⟩
def Itt0 (a : Addr) : It := ⟨λ i H => ∃ xs x, Rd H a (.tup xs) /\ xs[i]? = some x, λ i H x H' => H' = H /\ ∀ xs, Rd H a (.tup xs) -> xs[i]? = some x, λ i H => ∃ xs, Rd H a (.tup xs) /\ xs.length <= i⟩
def Its (z : Str) : It := ⟨λ i _ => i < z.length, λ i H x H' => H' = H /\ ∃ c, z.cps[i]? = some c /\ x = .str ⟨#[c]⟩, λ i _ => z.length <= i⟩
theorem turn_str {P : Program} {w : World} {K : PySem.W.Frag} {tg : Expr} (it : Addr) (z : Str) (t : Tok) (ty : String) (hty : ty = "str_ascii_iterator" \/ ty = "str_iterator") : Turn P w K tg (Its z) [it] it (λ i h => h.IsStrIter it ty z t i) where
  mem := by simp
  obj := λ i h st b hb => by
    have e : b = it := by simpa using hb
    subst e
    obtain ⟨o, e, c, d⟩ := st
    exact ⟨o, e, λ v z => by rw [d] at z; cases z⟩
  keep := λ i h h' st k => by
    obtain ⟨o, e, r⟩ := st
    exact ⟨o, k it (by simp) o e, r⟩
  item := by
    intro X hP hw hK hc i pins s σ H E I hf st hg
    subst hP hw hK
    obtain ⟨f0, f1, f2, f3, f4, f5⟩ := hf it (by simp)
    have hg' : i < z.cps.size := hg
    have W : Walks X.prog X.w X.A it [it] [it] z.cps.size (SignAt z) (λ i h => h.IsStrIter it ty z t i) := by
      rcases hty with rfl | rfl
      . exact Walks.strAscii (I.ok.hd hc) it z t
      . exact Walks.strWide (I.ok.hd hc) it z t
    refine W.item i s _ _ hg' st λ v h' tk hv st' kk => ?_
    obtain ⟨c, u, hcu, rfl⟩ := hv
    have I1 : Inv X pins σ H { s with heap := h', toks := tk } := I.turned (λ b o hb e => kk b o (by simpa using hb) e) f0 f1 f3 f4 f5
    obtain ⟨o, e, cl, d⟩ := id st'
    have hn : ["enumerate", "zip", "dict_itemiterator", "dict_reverseitemiterator", "odict_iterator", "itertools.zip_longest", "itertools.pairwise"].contains ty = false := by
      rcases hty with rfl | rfl <;> decide
    exact ⟨_, rfl, gU (s := { s with heap := h', toks := tk }) e cl d hn ⟨.str ⟨#[c]⟩, H, I1, ⟨u, rfl⟩, ⟨rfl, c, hcu, rfl⟩, st', λ b hb => (hf b hb).1⟩⟩
  done := by
    intro X hP hw hK hc i pins s σ H E I hf st hg
    subst hP hw hK
    obtain ⟨f0, f1, f2, f3, f4, f5⟩ := hf it (by simp)
    have hg' : z.cps.size <= i := hg
    rcases hty with rfl | rfl
    . exact wpAny_pyNext_ascii_end (I.ok.hd hc) st (by simp; omega) λ h' eb => ⟨rfl, I.turned (t' := s.toks) (λ b o hb e => eb b o hb e) f0 f1 f3 f4 f5⟩
    . exact wpAny_pyNext_wide_end (I.ok.hd hc) st (by simp; omega) λ h' eb => ⟨rfl, I.turned (t' := s.toks) (λ b o hb e => eb b o hb e) f0 f1 f3 f4 f5⟩
  self := λ A i s Q E st h => by
    rcases hty with rfl | rfl
    . exact wpAny_pyIter_striter_ascii st h
    . exact wpAny_pyIter_striter_wide st h
section
variable {X : Cx} {tg : Expr}
def cJ (n : Nat) (t : TGs) : TG := λ v σ H Q => ∃ a xs, v = .ref a /\ Rd H a (.tup xs) /\ xs.length = n /\ t xs σ H Q
theorem nH {es : List Expr} {k : Nat} {t : TGs} {n : Nat} {pos : Pos} (hc : X.calm = true) (h : PGs X es t) (hn : (assignEach es X.env).length = n := by rfl) (hst : (assignEach es X.env).findIdx? (·.1) = none := by rfl) : PG X (.Tuple es k pos) (cJ n t) :=
  λ pins s σ H v u Q I r ⟨a, xs, e, hq, hl, hw⟩ => pg_tup (X := X) hc h hn hst pins s σ H v u Q I r ⟨a, xs, e, .inl hq, hl, hw⟩
def tFld0 (C : Addr) (ta : TE) (f : Str) : TE := λ σ H Q => ta σ H λ x H1 => ∃ a dx fs v, x = .ref a /\ H1 a = some (.ins C dx fs) /\ fs.lookup f = some v /\ Q v H1
theorem pe_fld0 {C : Addr} {e : Expr} {f : Str} {pos : Pos} {ta : TE} (c : Cls X.K C) (n : NoAttr X.K C f) (he : PE X e ta) (hb : attributeBase e f X.env (eval e X.env) = eval e X.env) : PE X (.Attribute e f pos) (tFld0 C ta f) := by
  intro pins s σ H Q I h
  refine attr_of hb (thn (he pins s σ H _ I h) λ u s1 ⟨x, H1, I1, rx, a, dx, fs, v, ex, ea, l, q⟩ => ?_)
  subst ex
  obtain rfl : u = Value.ref a := rx
  exact m8 I1 ea c n l λ u' s2 I2 ru => ⟨v, H1, I2, ru, q⟩
end
theorem pi {a : Addr} {xs : List V} {g : TG} {tb : TS} {D : Ends} {σ : St} {H : Hp} (Pv : Nat -> St -> Hp -> Prop) (h0 : Pv 0 σ H) (hl : ∀ i σ H, i <= xs.length -> Pv i σ H -> Rd H a (.lst xs))
    (hs : ∀ i x σ H, xs[i]? = some x -> Pv i σ H -> g x σ H λ σ2 H2 => tb { D with nx := Pv (i + 1), ct := Pv (i + 1), bk := D.nx } σ2 H2) (hd : ∀ σ H, Pv xs.length σ H -> D.nx σ H) :
    ∃ W : Nat -> Nat -> St -> Hp -> Prop, (∃ m, W 0 m σ H) /\ ∀ i m σ H, W i m σ H →
      ((gE a).stop i H /\ D.nx σ H) \/ ((gE a).go i H /\ ∃ N : St -> Hp -> Prop, (∀ σ' H', N σ' H' -> ∃ m', m' < m /\ W (i + 1) m' σ' H') /\ ∀ x H', (gE a).yld i H x H' -> g x σ H' λ σ2 H2 => tb { D with nx := N, ct := N, bk := D.nx } σ2 H2) := by
  refine ⟨λ i m σ H => m = xs.length - i /\ i <= xs.length /\ Pv i σ H, ⟨xs.length, by simp, Nat.zero_le _, h0⟩, ?_⟩
  rintro i m σ H ⟨rfl, hi, p⟩
  have q := hl i σ H hi p
  by_cases hlt : i < xs.length
  . refine .inr ⟨⟨xs, xs[i], q, by simp [hlt]⟩, Pv (i + 1), λ σ' H' p' => ⟨xs.length - (i + 1), by omega, rfl, hlt, p'⟩, λ x H' y => ?_⟩
    obtain ⟨e, y⟩ := y
    subst e
    exact hs i x σ _ (y xs q) p
  . have e : i = xs.length := by omega
    subst e
    exact .inl ⟨⟨xs, q, Nat.le_refl _⟩, hd σ H p⟩
def pv (X : Cx) (ifs : List Expr) (t : TT) : Prop :=
  ∀ (pins : List (Addr × Obj)) (s : Shared) (σ : St) (H : Hp) (Q : Bool -> Hp -> Prop), Inv X pins σ H s -> t σ H Q →
    wpAny (model X.prog X.w) X.A (forIn ifs true λ c r => if r = true then do let ok ← isTrue c X.env (eval c X.env); pure (ForInStep.yield ok) else pure (ForInStep.yield r)) (TP X pins σ Q) X.xe s
def gF : TT := λ _ H Q => Q true H
theorem pif_nil {X : Cx} : pv X [] gF := λ pins s σ H Q I h => by
  rw [List.forIn_nil]
  exact wpAny_pure ⟨H, I, h⟩
theorem pif_one {X : Cx} {c : Expr} {t : TT} (hc : PT X c t) : pv X [c] t := λ pins s σ H Q I h => by
  rw [List.forIn_cons, if_pos rfl]
  refine wpAny_bind (wpAny_bind (thn (hc pins s σ H Q I h) λ b s1 q => ?_))
  refine wpAny_pure ?_
  dsimp only
  rw [List.forIn_nil]
  exact wpAny_pure q
inductive FreeOk (X : Cx) (scope : Scope) (cl : List (Str × Addr)) : List (Str × Nat) -> Prop where
  | nil : FreeOk X scope cl []
  | cons {x : Str} {j : Nat} {fr : List (Str × Nat)} (h1 : X.N[j]? = some x) (h2 : X.env.kindOf x = some .cell) (h3 : (relabel scope X.env).names.lookup x = some .cell) (h4 : cl.lookup x = X.env.cells.lookup x) (r : FreeOk X scope cl fr) : FreeOk X scope cl ((x, j) :: fr)
theorem FreeOk.get {X : Cx} {scope : Scope} {cl : List (Str × Addr)} : ∀ {fr : List (Str × Nat)}, FreeOk X scope cl fr -> ∀ {k : Nat} {q : Str × Nat}, fr[k]? = some q →
    X.N[q.2]? = some q.1 /\ X.env.kindOf q.1 = some .cell /\ (relabel scope X.env).names.lookup q.1 = some .cell /\ cl.lookup q.1 = X.env.cells.lookup q.1
  | _, .nil, _, _, h => by simp at h
  | _, .cons h1 h2 h3 h4 r, 0, q, h => by
    simp at h
    subst h
    exact ⟨h1, h2, h3, h4⟩
  | _, .cons _ _ _ _ r, k + 1, q, h => r.get (k := k) (by simpa using h)
structure CDyn where
  fp : List Addr
  pins : List (Addr × Obj)
  s : Shared
  H : Hp
  C : Addr
def aL (X : Cx) (tn : List Str) (fr : List (Str × Nat)) (scope : Scope) (cl : List (Str × Addr)) (d : CDyn) : Cx where
  prog := X.prog
  w := X.w
  K := X.K
  mg := X.mg
  base := X.base
  A := X.A
  N := tn ++ fr.map (·.1)
  s₀ := d.s
  H₀ := d.H
  env := compEnvC scope cl d.C X.env
  outer := X.stack
  stack := X.stack
  ex := d.fp
  fn := λ _ => false
  calm := X.calm
  pn := X.pn ++ d.pins
  xe := λ _ _ => False
def inn (tn : List Str) (fr : List (Str × Nat)) (σ : St) : St := tn.map (λ _ => none) ++ fr.map λ q => (σ[q.2]?).join
def fh (n : Nat) (g : TG) : Prop := ∀ v σ H Q, g v σ H Q -> g v σ H λ σ' H' => Q σ' H' /\ σ'.drop n = σ.drop n
def jQ (n : Nat) (g : TGs) : Prop := ∀ v σ H Q, g v σ H Q -> g v σ H λ σ' H' => Q σ' H' /\ σ'.drop n = σ.drop n
theorem kg_name {n i : Nat} (h : i < n := by decide) : fh n (a6 i) := λ v σ H Q q => ⟨q, List.drop_set_of_lt h⟩
theorem kg_nil {n : Nat} : jQ n fB := λ v σ H Q ⟨e, q⟩ => ⟨e, q, rfl⟩
theorem kg_tup {n k : Nat} {t : TGs} (h : jQ n t) : fh n (cJ k t) := λ v σ H Q ⟨a, xs, e, hr, hl, q⟩ => ⟨a, xs, e, hr, hl, h _ _ _ _ q⟩
def nI (wi : TI) (tn : List Str) (fr : List (Str × Nat)) (g : TG) (tt : TT) (te : TE) : TE := λ σ H Q => wi σ H λ J H1 => ∀ p, H1 p = none →
  ∃ W : Nat -> Nat -> Hp -> Prop, (∃ m, W 0 m (upd H1 p (.lst []))) /\ ∀ i m G, W i m G →
    (J.stop i G /\ Q (.ref p) G) \/ (J.go i G /\ ∃ N : Hp -> Prop, (∀ G', N G' -> ∃ m', m' < m /\ W (i + 1) m' G') /\ ∀ x G', J.yld i G x G' →
      g x (inn tn fr σ) G' λ σ2 G2 => tt σ2 G2 λ b G3 => br b (te σ2 G3 λ y G4 => ∃ ys, G4 p = some (.lst ys) /\ ys.length < sizeLine /\ N (upd G4 p (.lst (ys ++ [y])))) (N G3))
section
variable {prog : Program} {w : World} {A : Around} {R : Result -> Shared -> Prop} {s : Shared}
theorem kW {elt target iter : Expr} {ifs : List Expr} {scope : Scope} {pos : Pos} {it acc : Value} {env : Env} (I : Nat -> Shared -> Prop)
    (turn : ∀ n s, I n s -> wpAny (model prog w) A (pyNext it) (λ r s₁ => match r with
      | none => R (.ok .next) s₁
      | some v => wpAny (model prog w) A (letOwnedTupleGo target it v) (λ _ s₀ => wpAny (model prog w) A (assign target env v) (λ _ s₂ =>
          wpAny (model prog w) A (forIn ifs true λ c r => if r = true then do let ok ← isTrue c env (eval c env); pure (ForInStep.yield ok) else pure (ForInStep.yield r)) (λ ok s₃ =>
            if ok = true then wpAny (model prog w) A (eval elt env) (λ x s₄ =>
              wpAny (model prog w) A (call (.builtin "list.append") [acc, x]) (λ _ s₅ => ∃ m, m < n /\ I m s₅) (λ _ _ => False) s₄) (λ _ _ => False) s₃
            else ∃ m, m < n /\ I m s₃) (λ _ _ => False) s₂) (λ _ _ => False) s₀) (λ _ _ => False) s₁) (λ _ _ => False) s)
    (n : Nat) (h : I n s) :
    codeAny (model prog w) A (.compLoop (.ListComp elt [⟨target, iter, ifs, 0⟩] scope pos) 0 it acc env) R s := by
  refine codeAny_loop rfl I (λ n s hI => ?_) n h
  show wpAny _ A ((compTurn (.ListComp elt [⟨target, iter, ifs, 0⟩] scope pos) 0 it acc env).onRaise (λ x => do noteFrame x env; theTreesLotGoes x)) _ _ s
  refine wpAny_noted ?_
  rw [compTurn_list]
  refine wpAny_bind (wpAny_standAt (wpAny_bind (wpAny_mono (turn n s hI) (λ r s₁ h₁ => ?_) λ _ _ z => z.elim)))
  cases r with
  | none => exact wpAny_pure h₁
  | some v =>
    refine wpAny_bind (wpAny_mono h₁ (λ _ s₀ h₀ => ?_) λ _ _ z => z.elim)
    refine wpAny_bind (wpAny_mono h₀ (λ _ s₂ h₂ => wpAny_bind (wpAny_mono h₂ (λ ok s₃ h₃ => ?_) λ _ _ z => z.elim)) λ _ _ z => z.elim)
    cases ok with
    | false => exact wpAny_pure ⟨rfl, h₃⟩
    | true =>
      exact wpAny_bind (wpAny_bind (wpAny_mono h₃ (λ x s₄ h₄ => wpAny_bind (wpAny_mono h₄ (λ _ s₅ h₅ => wpAny_pure (wpAny_pure ⟨rfl, h₅⟩)) λ _ _ z => z.elim)) λ _ _ z => z.elim))
end
section
variable {X : Cx} {elt tg iter : Expr} {ifs : List Expr} {scope : Scope} {pos : Pos} {tn : List Str} {fr : List (Str × Nat)} {cl : List (Str × Addr)} {wi : TI} {g : TG} {tt : TT} {te : TE}
structure CompOk (X : Cx) (scope : Scope) (tn : List Str) (fr : List (Str × Nat)) (cl : List (Str × Addr)) : Prop where
  clos : closureFor scope X.env = pure cl
  kind : scope.kind = .function
  nocell : ∀ y ∈ scope.names, y.2 ≠ .cell
  names : ∀ y ∈ scope.names, y.2 = .local -> scope.names.lookup y.1 = some .local
  free : FreeOk X scope cl fr
  has : ∀ x, ((relabel scope X.env).names.lookup x = some .cell \/ (relabel scope X.env).names.lookup x = some .free) -> ∃ c, cl.lookup x = some c
  sub : ∀ x c, cl.lookup x = some c -> X.env.cells.lookup x = some c
theorem jn {RR : Value -> Addr -> Result -> Shared -> Prop} {pins : List (Addr × Obj)} {s : Shared} {σ : St} {H : Hp} {Q : VK} (hc : X.calm = true) (ok : CompOk X scope tn fr cl) (kg : fh tn.length g) (hi : PI X tg iter wi)
    (hg : ∀ d, PG (aL X tn fr scope cl d) tg g) (ht : ∀ d, pv (aL X tn fr scope cl d) ifs tt) (he : ∀ d, PE (aL X tn fr scope cl d) elt te) (I : Inv X pins σ H s) (h : nI wi tn fr g tt te σ H Q)
    (hRR : ∀ (p C : Addr) (G : Hp) (s' : Shared), Inv X pins σ G s' -> jI X pins G C -> (∃ m, s'.heap.Ns C m) -> Q (.ref p) G -> RR (.ref p) C (.ok .next) s') :
    wpAny (model X.prog X.w) X.A (eval iter X.env) (λ x s₁ => wpAny (model X.prog X.w) X.A (pyIter x) (λ it s₂ => wpAny (model X.prog X.w) X.A (newList []) (λ acc s₃ =>
      wpAny (model X.prog X.w) X.A (newFunctionEnv scope X.env.globals cl [] X.env.qual none .none (some X.env)) (λ cenv s₄ =>
        codeAny (model X.prog X.w) X.A (.compStart (.ListComp elt [⟨tg, iter, ifs, 0⟩] scope pos) 0 it acc { cenv with scope := relabel scope X.env }) (RR acc cenv.locals) s₄) X.xe s₃) X.xe s₂) X.xe s₁) X.xe s := by
  refine thn (hi pins s σ H _ I h) λ v s1 h1 => thn h1 λ itv s2 h2 => ?_
  obtain ⟨it, fp, tk, J, H2, e, I2, T, st2, f2, hq⟩ := h2
  subst e
  refine wpAny_newObj_type (wpAny_newFunctionEnv ok.nocell (by intro y hy; simp at hy) (λ h₁ hns₁ hsb₁ => ?_) ok.kind)
  dsimp only at hns₁ hsb₁ ⊢
  generalize hH2 : s2.heap.push { cls := .type "list", dict := none, data := .seq ([] : List Value).toArray } = HH at hns₁ hsb₁ ⊢
  have hC : HH.objs.size = s2.heap.objs.size + 1 := by rw [<- hH2, Heap.size_push]
  have hDC : s2.heap.objs.size ≠ HH.objs.size := by rw [hC]; exact Nat.ne_of_lt (Nat.lt_succ_self _)
  have hCle : s2.heap.objs.size <= HH.objs.size := by rw [hC]; exact Nat.le_succ _
  have av : ∀ b, b < s2.heap.objs.size -> b ≠ HH.objs.size := λ b hb => by rw [hC]; exact Nat.ne_of_lt (Nat.lt_succ_of_lt hb)
  have old : ∀ b o, s2.heap.get? b = some o -> h₁.get? b = some o := λ b o e => hsb₁.extBut b o (av b (Heap.lt_size e)) (Heap.get?_push_of_some _ (hH2 ▸ Heap.get?_push_of_some _ e))
  have hacc : h₁.get? s2.heap.objs.size = some { cls := .type "list", data := .seq ([] : List Value).toArray } := hsb₁.extBut _ _ hDC (Heap.get?_push_of_some _ (hH2 ▸ Heap.get?_push_size _ rfl))
  generalize hp : s2.heap.objs.size = p at hDC hCle hacc
  generalize hCC : HH.objs.size = C at hDC hCle av hns₁
  have hnp : H2 p = none := I2.hok.fresh (by rw [<- hp]; exact Nat.le_refl _)
  have hnC : H2 C = none := I2.hok.fresh (by rw [hp]; exact hCle)
  obtain ⟨W, ⟨m0, w0⟩, turn⟩ := hq p hnp
  have lt2 : ∀ b o, s2.heap.get? b = some o -> b ≠ C := λ b o e => av b (Heap.lt_size e)
  have ok' : (aL X tn fr scope cl ⟨fp, pins, s2, H2, C⟩).Ok := by
    refine ⟨I2.ok.mod, ok.kind, I2.ok.glob, I2.ok.blt, (by show s2.heap.objs.size <= C; rw [hp]; exact hCle), λ x y c h1 h2 => I2.ok.inj x y c (ok.sub x c h1) (ok.sub y c h2), ok.has, λ x c z => absurd z (by simp [aL]), I2.ok.hd, I2.ok.frames, .inl rfl, λ b hb => ⟨?_, λ x c h => (f2 b hb).2.2.2.2.1 x c (ok.sub x c h)⟩, I2.bs,
      Nat.le_trans I2.ok.bsz I2.sz, λ b o e hb => ?_, λ b hb hf => ?_, I2.stack, I2.stkFree⟩
    . obtain ⟨o, e, _⟩ := T.obj 0 _ st2 b hb
      exact lt2 b o e
    . rcases (f2 b hb).2.2.2.1 with z | z
      . exact I2.ok.noex b o e z
      . have := Nat.lt_of_lt_of_le (Heap.lt_size e) (Nat.le_trans I2.ok.bsz z)
        exact absurd this (Nat.lt_irrefl _)
    . rcases List.mem_cons.mp (I2.stkSub b hf) with z | z
      . exact (f2 b hb).2.1 z
      . exact (f2 b hb).2.2.1 z
  have new : ObjOk X.prog X.w (upd H2 p (.lst [])) h₁ p (.lst []) := ⟨Nat.zero_le _, [], 0, .nil, hacc⟩
  have J0 : ∀ tk', Inv (aL X tn fr scope cl ⟨fp, pins, s2, H2, C⟩) [] (inn tn fr σ) (upd H2 p (.lst [])) { s2 with heap := h₁, toks := tk' } := λ tk' => by
    refine ⟨ok', rfl, I2.bare, Un.laid old (by rw [<- hp]; exact Nat.le_refl _) hnp, ⟨_, hns₁, λ i x v h1 h2 h3 => ?_⟩, λ x c h => ?_, ?_, λ x c h => ?_, λ q hq => ?_, I2.hok.laid old (by rw [<- hp]; exact Nat.le_refl _) new, ?_⟩
    . -- a name from around
      have h2' : (tn.map (λ _ => (none : Option V)) ++ fr.map λ q => (σ[q.2]?).join)[i]? = some (some v) := h2
      have h1' : (tn ++ fr.map (·.1))[i]? = some x := h1
      by_cases hi : i < tn.length
      . rw [List.getElem?_append_left (by simpa using hi), List.getElem?_map] at h2'
        cases e : tn[i]? with
        | none => rw [e] at h2'; cases h2'
        | some a => rw [e] at h2'; cases h2'
      . rw [List.getElem?_append_right (by simpa using hi), List.length_map, List.getElem?_map] at h2'
        rw [List.getElem?_append_right (by omega), List.getElem?_map] at h1'
        cases e : fr[i - tn.length]? with
        | none => rw [e] at h2'; cases h2'
        | some q =>
          rw [e] at h1' h2'
          have e1 : q.1 = x := Option.some.inj h1'
          have e2 : (σ[q.2]?).join = some v := Option.some.inj h2'
          have e3 : σ[q.2]? = some (some v) := by
            cases z : σ[q.2]? with
            | none => rw [z] at e2; cases e2
            | some o => rw [z] at e2; exact congrArg some e2
          obtain ⟨g1, g2, g3, g4⟩ := ok.free.get e
          obtain ⟨m, hn, hl⟩ := I2.loc
          obtain ⟨u, ru, lk⟩ := hl q.2 q.1 v g1 e3 (.inr (.inl g2))
          refine ⟨u, ru, .inr ⟨.inl (by rw [<- e1]; exact g3), ?_⟩⟩
          rcases lk with ⟨z, _⟩ | ⟨_, c, hcl, hcell⟩
          . rw [g2] at z; cases z
          . obtain ⟨o, ho, hd⟩ := hcell
            exact ⟨c, by rw [<- e1]; exact g4.trans hcl, o, old c o ho, hd⟩
    . obtain ⟨v, o, ho, hd⟩ := I2.cell x c (ok.sub x c h)
      exact ⟨v, o, old c o ho, hd⟩
    . show upd H2 p (.lst []) C = none
      rw [a4 (Ne.symm hDC)]
      exact hnC
    . obtain ⟨v, o, ho, hd⟩ := I2.cell x c (ok.sub x c h)
      show upd H2 p (.lst []) c = none
      rw [a4 (Nat.ne_of_lt (by rw [<- hp]; exact Heap.lt_size ho))]
      exact I2.freeC x c (ok.sub x c h)
    . have hq' : q ∈ X.pn ++ pins := by simpa [aL] using hq
      obtain ⟨e, n, ne, nf, d⟩ := I2.pin q hq'
      refine ⟨old _ _ e, ?_, lt2 _ _ e, λ hf => ?_, d⟩
      . show upd H2 p (.lst []) q.1 = none
        rw [a4 (Nat.ne_of_lt (by rw [<- hp]; exact Heap.lt_size e))]
        exact n
      . rcases List.mem_cons.mp (I2.stkSub _ hf) with z | z
        . exact ne z
        . exact nf z
    . show (inn tn fr σ).length = (tn ++ fr.map (·.1)).length
      unfold inn
      simp
  have stat : ∀ {G : Hp}, (∀ b ∈ fp, G b = none) -> ∀ b ∈ fp, jI (aL X tn fr scope cl ⟨fp, pins, s2, H2, C⟩) [] G b := λ {G} hn b hb => by
    obtain ⟨f0, f1, f3, f4, f5, f6⟩ := f2 b hb
    obtain ⟨o, e, _⟩ := T.obj 0 _ st2 b hb
    refine ⟨hn b hb, lt2 b o e, λ hf => ?_, .inl hb, λ x c h => f5 x c (ok.sub x c h), λ q hq => f6 q (by simpa [aL] using hq)⟩
    rcases List.mem_cons.mp (I2.stkSub _ hf) with z | z
    . exact f1 z
    . exact f3 z
  have wk : ∀ {σ9 : St}, σ9.drop tn.length = (inn tn fr σ).drop tn.length -> ∀ (i : Nat) (v : V), (inn tn fr σ)[i]? = some (some v) -> σ9[i]? = some (some v) := λ {σ9} hd i v h => by
    by_cases hi : i < tn.length
    . have h' : (tn.map (λ _ => (none : Option V)) ++ fr.map λ q => (σ[q.2]?).join)[i]? = some (some v) := h
      rw [List.getElem?_append_left (by simpa using hi), List.getElem?_map] at h'
      cases e : tn[i]? with
      | none => rw [e] at h'; cases h'
      | some a => rw [e] at h'; cases h'
    . have e1 : ((inn tn fr σ).drop tn.length)[i - tn.length]? = some (some v) := by
        rw [List.getElem?_drop]
        rw [show tn.length + (i - tn.length) = i by omega]
        exact h
      rw [<- hd, List.getElem?_drop, show tn.length + (i - tn.length) = i by omega] at e1
      exact e1
  have loop : ∀ tk', codeAny (model X.prog X.w) X.A (.compLoop (.ListComp elt [⟨tg, iter, ifs, 0⟩] scope pos) 0 (.ref it) (.ref p) (compEnvC scope cl C X.env)) (RR (.ref p) C) { s2 with heap := h₁, toks := tk' } := λ tk' => by
    refine kW (λ n s' => ∃ i G, Inv (aL X tn fr scope cl ⟨fp, pins, s2, H2, C⟩) [] (inn tn fr σ) G s' /\ tk i s'.heap /\ (∀ b ∈ fp, G b = none) /\ W i n G) ?_ m0
      ⟨0, _, J0 tk', T.keep 0 _ _ st2 λ b _ o e => old b o e, λ b hb => ?_, w0⟩
    . rintro n s3 ⟨i, G, I3, st3, fr3, w3⟩
      rcases turn i n G w3 with ⟨stop, qn⟩ | ⟨go, N, hN, step⟩
      . refine thn (T.done (aL X tn fr scope cl ⟨fp, pins, s2, H2, C⟩) rfl rfl rfl hc i [] s3 _ G _ I3 (stat fr3) st3 stop) λ r s4 ⟨hr, I4⟩ => ?_
        subst hr
        obtain ⟨m, hm, _⟩ := I4.loc
        refine hRR p C G s4 ?_ ?_ ⟨m, hm⟩ qn
        . exact I2.call' (ch := fp) I4.os I4.base I4.hok I4.bare λ b hb => ⟨(f2 b hb).2.2.2.1, (f2 b hb).2.1, (f2 b hb).2.2.2.2.1, (f2 b hb).2.2.2.2.2⟩
        . exact I2.fpOk (by rw [hp]; exact hCle) I4.free
      . refine thn (T.item (aL X tn fr scope cl ⟨fp, pins, s2, H2, C⟩) rfl rfl rfl hc i [] s3 _ G _ I3 (stat fr3) st3 go) λ r s4 ⟨u, hr, h4⟩ => ?_
        subst hr
        refine thn h4 λ _ s5 ⟨x, H5, I5, r5, y5, st5, fr5⟩ => ?_
        have I5' := I5.pinned (stat fr5) (T.obj _ _ st5)
        refine thn (hg _ _ s5 _ H5 x u _ I5' r5 (kg _ _ _ _ (step x H5 y5))) λ _ s6 ⟨σ6, H6, I6, q6, k6⟩ => ?_
        have again : ∀ {H9 : Hp} {s9 : Shared}, Inv (aL X tn fr scope cl ⟨fp, pins, s2, H2, C⟩) ([] ++ gW fp s5.heap) σ6 H9 s9 -> N H9 -> ∃ m, m < n /\ ∃ i G, Inv (aL X tn fr scope cl ⟨fp, pins, s2, H2, C⟩) [] (inn tn fr σ) G s9 /\ tk i s9.heap /\ (∀ b ∈ fp, G b = none) /\ W i m G := λ {H9 s9} I9 n9 => by
          obtain ⟨m', hm, w9⟩ := hN H9 n9
          refine ⟨m', hm, i + 1, H9, ?_, T.keep _ _ _ st5 λ b hb o e => (I9.pin (b, o) (List.mem_append_right _ (List.mem_append_right _ (di hb e)))).1, λ b hb => ?_, w9⟩
          . refine (I9.unpinned).weak ?_ (wk k6)
            rw [I9.len, I3.len]
          . obtain ⟨o, e, d⟩ := T.obj _ _ st5 b hb
            exact (I9.pin (b, o) (List.mem_append_right _ (List.mem_append_right _ (di hb e)))).2.1
        refine thn (ht _ _ s6 σ6 H6 _ I6 q6) λ b s7 ⟨H7, I7, q7⟩ => ?_
        cases b with
        | false =>
          rw [if_neg Bool.false_ne_true]
          rw [hW] at q7
          exact again I7 q7
        | true =>
          rw [if_pos rfl]
          rw [jO] at q7
          refine thn (he _ _ s7 σ6 H7 _ I7 q7) λ y s8 ⟨yv, H8, I8, r8, ys, hp8, hl8, n8⟩ => ?_
          refine thn (jk _ s8 σ6 H8 (.ref p) [yv] (.ref p) [y] (λ _ H9 => N H9) I8 rfl (.cons r8 .nil) ⟨p, ys, yv, rfl, rfl, hp8, hl8, n8⟩) λ _ s9 ⟨v9, H9, I9, r9, q9⟩ => ?_
          exact again I9 q9
    . obtain ⟨o, e, _⟩ := T.obj 0 _ st2 b hb
      rw [a4 (Nat.ne_of_lt (by rw [<- hp]; exact Heap.lt_size e))]
      exact (f2 b hb).1
  subst hp
  subst hCC
  exact codeAny_compStart_list (loop _) (T.self _ _ _ _ _ (T.keep 0 _ _ st2 λ b _ o e => old b o e) (loop _))
theorem pe_comp (hc : X.calm = true) (ok : CompOk X scope tn fr cl) (kg : fh tn.length g) (hi : PI X tg iter wi)
    (hg : ∀ d, PG (aL X tn fr scope cl d) tg g) (ht : ∀ d, pv (aL X tn fr scope cl d) ifs tt) (he : ∀ d, PE (aL X tn fr scope cl d) elt te)
    (hs : ∀ x, foldedSetIterable iter X.env x = pure x := by intro _; rfl) : PE X (.ListComp elt [⟨tg, iter, ifs, 0⟩] scope pos) (nI wi tn fr g tt te) := by
  intro pins s σ H Q I h
  rw [eval_ListComp]
  refine wpAny_comprehension_free (use := none) rfl hs ok.clos ok.kind ok.names (jn (RR := λ acc C => compPost (model X.prog X.w) X.A X.xe none (EP X pins σ Q) acc C) hc ok kg hi hg ht he I h ?_)
  intro p C G s' I' f m q
  obtain ⟨m, hm⟩ := m
  refine ⟨m, hm, λ h' hs' => ⟨.ref p, G, ?_, rfl, q⟩⟩
  exact I'.turned (it := C) (h' := h') (t' := s'.toks) (λ b o hb e => hs'.extBut b o hb e) f.1 f.2.1 f.2.2.2.1 f.2.2.2.2.1 f.2.2.2.2.2
end
end L2
namespace L2
open PySem PySem.Spec PyProof.Rows
theorem comp_str {z : Str} {g : TG} {tt : TT} {te : TE} {τ : St} {p : Addr} {H1 : Hp} {Q : VK} (f : Nat -> Option V) (hz : z.length < sizeLine)
    (turn : ∀ (i c : Nat), z.cps[i]? = some c -> ∀ (G : Hp) (k : Option V -> Hp -> Prop), k (f c) G -> g (.str ⟨#[c]⟩) τ G λ σ2 G2 => tt σ2 G2 λ b G3 => br b (te σ2 G3 λ y G4 => k (some y) G4) (k none G3))
    (fin : Q (.ref p) (upd H1 p (.lst (z.cps.toList.filterMap f)))) :
    ∃ W : Nat -> Nat -> Hp -> Prop, (∃ m, W 0 m (upd H1 p (.lst []))) /\ ∀ i m G, W i m G →
    ((Its z).stop i G /\ Q (.ref p) G) \/ ((Its z).go i G /\ ∃ N : Hp -> Prop, (∀ G', N G' -> ∃ m', m' < m /\ W (i + 1) m' G') /\ ∀ x G', (Its z).yld i G x G' →
      g x τ G' λ σ2 G2 => tt σ2 G2 λ b G3 => br b (te σ2 G3 λ y G4 => ∃ ys, G4 p = some (.lst ys) /\ ys.length < sizeLine /\ N (upd G4 p (.lst (ys ++ [y])))) (N G3)) := by
  have hzl : z.cps.toList.length = z.length := by simp [Str.length]
  refine ⟨λ i m G => m = z.length - i /\ i <= z.length /\ G = upd H1 p (.lst ((z.cps.toList.take i).filterMap f)), ⟨z.length, by simp, Nat.zero_le _, by simp⟩, ?_⟩
  rintro i m G ⟨rfl, hi, rfl⟩
  by_cases hlt : i < z.length
  . refine .inr ⟨hlt, λ G' => G' = upd H1 p (.lst ((z.cps.toList.take (i + 1)).filterMap f)), λ G' e => ⟨z.length - (i + 1), by omega, rfl, hlt, e⟩, λ x G' y => ?_⟩
    obtain ⟨e, c, hc, ex⟩ := y
    subst e ex
    have hc' : z.cps.toList[i]? = some c := by simpa using hc
    have et : (z.cps.toList.take (i + 1)).filterMap f = (z.cps.toList.take i).filterMap f ++ (f c).toList := by
      rw [List.take_add_one, hc', List.filterMap_append]
      cases e : f c <;> simp [e]
    have hlen : ((z.cps.toList.take i).filterMap f).length < sizeLine := Nat.lt_of_le_of_lt (Nat.le_trans (List.length_filterMap_le _ _) (by rw [List.length_take]; exact Nat.min_le_right _ _)) (by rw [hzl]; exact hz)
    refine turn i c hc _ (λ o G' => match o with | some y => ∃ ys, G' p = some (.lst ys) /\ ys.length < sizeLine /\ upd G' p (.lst (ys ++ [y])) = upd H1 p (.lst ((z.cps.toList.take (i + 1)).filterMap f)) | none => G' = upd H1 p (.lst ((z.cps.toList.take (i + 1)).filterMap f))) ?_
    rw [et]
    cases f c with
    | some y => exact ⟨_, a5, hlen, by rw [jG]; simp⟩
    | none => simp
  . have e : i = z.length := by omega
    subst e
    refine .inl ⟨Nat.le_refl _, ?_⟩
    rw [<- hzl, List.take_length]
    exact fin
theorem hZ (a b : Str) : (a ++ b).cps.toList = a.cps.toList ++ b.cps.toList := by
  show (a.cps ++ b.cps).toList = _
  simp
theorem app_len (a b : Str) : (a ++ b).length = a.length + b.length := by
  show (a.cps ++ b.cps).size = _
  simp [Str.length]
end L2
namespace L2
open PySem PySem.Spec PyProof.Rows
section
variable {X : Cx} {CX : CXT} {k : Nat} {f : Addr} {fd : FuncData} {st : Stmt} {ps : List Str} {sp : Sp} {x : Str} {p pos : Pos} {e : Expr} {es : List Expr} {t : TA}
end
end L2
namespace L2
open PySem PySem.Spec PyProof.Rows
end L2
namespace Tv
open PySem PySem.Spec PyProof.Rows L2
section
variable {prog : Program} {w : World} {A : Around} {E : Value -> Shared -> Prop} {s : Shared} {it l : Addr} {its : Array Value}
theorem kX (hne : l ≠ it) : ∀ (n i : Nat) (s : Shared) (Q : List Value -> Shared -> Prop), s.heap.IsListIter it l i -> s.heap.IsList l its -> i + n = its.size →
    (∀ h', h'.IsListIter it l its.size -> Heap.SameBut it s.heap h' -> Q (its.toList.drop i) { s with heap := h' }) -> wpAny (model prog w) A (draw (.ref it) n) Q E s
  | 0, i, s, Q, st, _, hl, q => by
    have e : i = its.size := by omega
    subst e
    refine wpAny_pure ?_
    have := q s.heap st (Heap.SameBut.refl ..)
    rwa [List.drop_eq_nil_of_le (by simp)] at this
  | n + 1, i, s, Q, st, hs, hl, q => by
    have lt : i < its.size := by omega
    refine wpAny_bind (wpAny_pyNext_list_item st hs (x := its[i]) (by simp [lt]) λ h1 st1 b1 => ?_)
    refine wpAny_bind (wpAny_holding (kX hne n (i + 1) _ _ st1 (hs.extBut b1.extBut hne) (by omega) λ h2 st2 b2 => wpAny_pure ?_))
    have := q h2 st2 (b1.trans b2)
    rwa [List.drop_eq_getElem_cons (by simpa using lt)] at this
theorem py {Q : List Value -> Shared -> Prop} (hh : A.handled = none) (hs : s.heap.IsList l its) (q : ∀ h', Heap.ExtBut s.heap.objs.size s.heap h' -> Q its.toList { s with heap := h' }) : wpAny (model prog w) A (unpackItems (.ref l) its.size none) Q E s := by
  have ne : l ≠ s.heap.objs.size := by
    obtain ⟨o, ho, _⟩ := hs
    exact Nat.ne_of_lt (Heap.lt_size ho)
  unfold unpackItems notIterableAtAll
  refine wpAny_bind (wpAny_bind (wpAny_specialOf hs.typeIs slot_list_iter.lookup (wpAny_pure ?_)))
  simp only [Bool.false_eq_true, if_false]
  refine wpAny_bind (wpAny_holding (wpAny_pyIter_list hs (wpAny_bind (wpAny_holding (kX ne its.size 0 _ _ ⟨_, Heap.get?_push_size _ rfl, rfl, rfl⟩ (hs.push _) (by omega) λ h1 st1 b1 => ?_)))))
  rw [if_neg (by simp)]
  refine wpAny_bind (wpAny_holding (wpAny_pyNext_list_end hh st1 ((hs.push _).extBut b1.extBut ne) (by simp) λ h2 b2 => ?_))
  simp only [Option.isSome_none, Bool.false_eq_true, if_false]
  exact wpAny_pure (q h2 λ b o n e => b2 b o n (b1.extBut b o n (Heap.get?_push_of_some _ e)))
end
def nJ (n : Nat) (t : TGs) : TG := λ v σ H Q => ∃ a xs, v = .ref a /\ (Rd H a (.tup xs) \/ Rd H a (.lst xs)) /\ xs.length = n /\ t xs σ H Q
theorem pg_tupQ {X : Cx} {es : List Expr} {k : Nat} {t : TGs} {n : Nat} {pos : Pos} (hc : X.calm = true) (h : PGs X es t) (hn : (assignEach es X.env).length = n) (hst : (assignEach es X.env).findIdx? (·.1) = none) : PG X (.Tuple es k pos) (nJ n t) := by
  intro pins s σ H v u Q I r hw
  obtain ⟨a, xs, e1, hq | hq, hl, hw⟩ := hw
  . exact nH hc h hn hst pins s σ H v u Q I r ⟨a, xs, e1, hq, hl, hw⟩
  . subst e1
    cases r
    obtain ⟨its, rv, ht, hz⟩ := I.list (.inl hq)
    rw [assign_Tuple]
    refine wpAny_bind (wpAny_standAt ?_)
    unfold unpack
    rw [hst, show (assignEach es X.env).length = its.toArray.size by simp [hn, <- hl, rv.length]]
    refine wpAny_bind (wpAny_holding (py (I.ok.hd hc) ht.isList λ h' hx => ?_))
    exact h pins _ σ H xs _ Q (I.kept (t' := s.toks) λ b o e => hx b o (Nat.ne_of_lt (Heap.lt_size e)) e) (by simpa using rv) hw
end Tv
namespace Tv
open PySem PySem.Spec PyProof.Rows L2
abbrev St := L2.St
section
variable {X : Cx}
theorem PE.imp {e : Expr} {t u : TE} (h : PE X e t) (i : ∀ σ H Q, u σ H Q -> t σ H Q) : PE X e u := λ pins s σ H Q I q => h pins s σ H Q I (i σ H Q q)
theorem PT.imp {e : Expr} {t u : TT} (h : PT X e t) (i : ∀ σ H Q, u σ H Q -> t σ H Q) : PT X e u := λ pins s σ H Q I q => h pins s σ H Q I (i σ H Q q)
theorem OpR.imp {f : Value -> Value -> Sem Value} {r r' : R2} (h : OpR X f r) (i : ∀ x y H Q, r' x y H Q -> r x y H Q) : OpR X f r' := λ pins s σ H x y v u Q I rx ry q => h pins s σ H x y v u Q I rx ry (i x y H Q q)
theorem CallR.imp {f : Value} {r r' : List V -> Hp -> VK -> Prop} (h : CallR X f r) (i : ∀ xs H Q, r' xs H Q -> r xs H Q) : CallR X f r' := λ pins s σ H xs us Q I rx q => h pins s σ H xs us Q I rx (i xs H Q q)
theorem IxR.imp {r r' : R2} (h : IxR X r) (i : ∀ x y H Q, r' x y H Q -> r x y H Q) : IxR X r' := λ value slice pins s σ H x y v u Q I rx ry q => h value slice pins s σ H x y v u Q I rx ry (i x y H Q q)
def xE : TE := λ _ _ _ => False
def xT : TT := λ _ _ _ => False
def xS : TS := λ _ _ _ => False
def xA : TA := λ _ _ _ => False
def xG : TG := λ _ _ _ _ => False
def xR : R2 := λ _ _ _ _ => False
theorem bx {e : Expr} : PE X e xE := λ _ _ _ _ _ _ h => h.elim
theorem pt_x {e : Expr} : PT X e xT := λ _ _ _ _ _ _ h => h.elim
theorem fI {e : Stmt} : PS X e xS := λ _ _ _ _ _ _ h => h.elim
theorem pa_x {e : List Expr} : PA X e xA := λ _ _ _ _ _ _ _ h => h.elim
theorem pg_x {e : Expr} : PG X e xG := λ _ _ _ _ _ _ _ _ _ h => h.elim
theorem mq {f : Value -> Value -> Sem Value} : OpR X f xR := λ _ _ _ _ _ _ _ _ _ _ _ _ h => h.elim
def gv (i : Nat) : TE := λ σ H Q => match σ[i]? with | some (some v) => Q v H | _ => False
theorem pe_gv {i : Nat} {x : Str} {pos : Pos} (hN : X.N[i]? = some x) (hv : Vis X.env.scope x) (hd : (x == ("__debug__" : Str)) = false) (hcd : (x == ("__classdict__" : Str)) = false) : PE X (.Name x pos) (gv i) :=
  PE.imp (pe_var hN hv hd hcd) λ σ H Q h => by
    unfold gv at h
    split at h
    . exact ⟨_, by assumption, h⟩
    . exact h.elim
def bz : List Str -> Str -> Option Nat
  | [], _ => none
  | y :: r, x => if y = x then some 0 else (bz r x).map (· + 1)
theorem bG : ∀ {N : List Str} {x : Str} {i : Nat}, bz N x = some i -> N[i]? = some x
  | [], _, _, h => by simp [bz] at h
  | y :: r, x, i, h => by
    unfold bz at h
    split at h
    . rename_i e
      cases h
      simp [e]
    . cases e : bz r x with
      | none => rw [e] at h; cases h
      | some j =>
        rw [e] at h
        cases h
        simpa using bG e
@[irreducible] def newO (H : Hp) (o : HO) (Q : VK) : Prop := ∀ p, H p = none -> Q (.ref p) (upd H p o)
theorem jR {H : Hp} {o : HO} {Q : VK} : newO H o Q = ∀ p, H p = none -> Q (.ref p) (upd H p o) := by unfold newO; rfl
theorem newO.at {H : Hp} {o : HO} {Q : VK} (h : newO H o Q) : ∀ p, H p = none -> Q (.ref p) (upd H p o) := by
  rw [jR] at h
  exact h
theorem af {H : Hp} {o : HO} {Q : VK} (h : ∀ p G, H p = none -> Same H G -> G p = some o -> Q (.ref p) G) : newO H o Q := by
  rw [jR]
  exact λ p hp => h p _ hp (bw hp) a5
theorem new_u {H : Hp} {o : HO} {Q : VK} (h : ∀ p, H p = none -> Q (.ref p) (upd H p o)) : newO H o Q := by
  rw [jR]
  exact h
@[irreducible] def addH (l b : Addr) (H : Hp) (Q : VK) : Prop := match H l, H b with
  | some (.lst xs), some (.lst ys) => xs.length + ys.length <= sizeLine /\ newO H (.lst (xs ++ ys)) Q
  | _, _ => False
def aT : R2 := λ x y H Q => match x, y with
  | .int i, .int j => Q (.int (i + j)) H
  | .str a, .str b => a.length + b.length <= sizeLine /\ Q (.str (a ++ b)) H
  | .ref l, .ref b => addH l b H Q
  | _, _ => False
theorem op_addG : OpR X (binaryOp .Add) aT := OpR.imp (OpR.or op_add (OpR.or m7 op_cat)) λ x y H Q h => by
  unfold aT at h
  split at h
  . exact .inl ⟨_, _, rfl, rfl, h⟩
  . exact .inr (.inl ⟨_, _, rfl, rfl, h⟩)
  . unfold addH at h
    split at h
    . exact .inr (.inr ⟨_, _, _, _, rfl, rfl, by assumption, by assumption, h.1, h.2.at⟩)
    . exact h.elim
  . exact h.elim
def pA : R2 := λ x y H Q => match x, y with
  | .int i, .int j => Q (.int (i - j)) H
  | _, _ => False
theorem op_subG : OpR X (binaryOp .Sub) pA := OpR.imp op_sub λ x y H Q h => by
  unfold pA at h
  split at h
  . exact ⟨_, _, rfl, rfl, h⟩
  . exact h.elim
def nK (i j : Int) : Prop := CMul i j \/ IntMulOk i j
theorem op_mulW : OpR X (binaryOp .Mult) (rI nK λ i j => .int (i * j)) := opI λ _ _ _ _ _ _ _ hc q => mul_int q (hc.elim CMul.ok id)
def d6 : R2 := λ x y H Q => match x, y with
  | .int i, .int j => nK i j /\ Q (.int (i * j)) H
  | .str z, .int n => (0 < z.length /\ 0 <= n /\ n < 2 ^ 31 /\ n.toNat * z.length <= sizeLine) /\ Q (.str (jP z n.toNat)) H
  | .ref l, .int k => match H l with
    | some (.lst xs) => (-(2 ^ 63) <= k /\ k < 2 ^ 63 /\ xs.length * k.toNat <= sizeLine) /\ newO H (.lst (List.replicate k.toNat xs).flatten) Q
    | _ => False
  | _, _ => False
theorem op_mulG : OpR X (binaryOp .Mult) d6 := OpR.imp (OpR.or op_mulW (OpR.or mn op_rep)) λ x y H Q h => by
  unfold d6 at h
  split at h
  . exact .inl ⟨_, _, rfl, rfl, h⟩
  . obtain ⟨⟨h1, h2, h3, h4⟩, q⟩ := h
    exact .inr (.inl ⟨_, _, rfl, rfl, h1, h2, h3, h4, q⟩)
  . split at h
    . obtain ⟨⟨h1, h2, h3⟩, q⟩ := h
      exact .inr (.inr ⟨_, _, _, rfl, rfl, by assumption, h1, h2, h3, q.at⟩)
    . exact h.elim
  . exact h.elim
def bh : R2 := λ x y H Q => match x, y with
  | .int i, .int j => (0 < j /\ j < 2 ^ 200) /\ Q (.int (i / j)) H
  | _, _ => False
theorem pB {j : Int} (h0 : 0 < j) (h : j < 2 ^ 200) : j.natAbs.log2 < 9000 := by
  have h1 : j.natAbs ≠ 0 := by omega
  have h2 : j.natAbs < 2 ^ 200 := by
    have e : ((j.natAbs : Nat) : Int) = j := by omega
    have h3 : ((j.natAbs : Nat) : Int) < ((2 ^ 200 : Nat) : Int) := by rw [e]; exact h
    exact Int.ofNat_lt.mp h3
  have h3 := (Nat.log2_lt h1).mpr h2
  omega
theorem op_fdivG : OpR X (binaryOp .FloorDiv) bh := by
  intro pins s σ H x y v u Q I rx ry h
  unfold bh at h
  split at h
  . obtain ⟨⟨hj, hj2⟩, q⟩ := h
    obtain ⟨t, rfl⟩ := rx
    obtain ⟨t', rfl⟩ := ry
    rename_i i j
    exact floordiv_int (by omega) (by rw [Int.fdiv_eq_ediv_of_nonneg i (by omega)]; exact ⟨.int (i / j), H, I.tok _, ⟨_, rfl⟩, q⟩) (.inl (PyProof.noPylong_of_log2 (pB hj hj2)))
  . exact h.elim
def aU : R2 := λ x y H Q => match x, y with
  | .int i, .int j => 0 < j /\ Q (.int (i % j)) H
  | _, _ => False
theorem op_modG : OpR X (binaryOp .Mod) aU := OpR.imp op_mod λ x y H Q h => by
  unfold aU at h
  split at h
  . exact ⟨_, _, rfl, rfl, h⟩
  . exact h.elim
def jS : R2 := λ x y H Q => match x, y with
  | .int i, .int j => CPow i j /\ Q (.int (i ^ j.toNat)) H
  | _, _ => False
theorem op_powG : OpR X (binaryOp .Pow) jS := OpR.imp op_pow λ x y H Q h => by
  unfold jS at h
  split at h
  . exact ⟨_, _, rfl, rfl, h⟩
  . exact h.elim
def binG : Operator -> R2
  | .Add => aT | .Sub => pA | .Mult => d6 | .FloorDiv => bh | .Mod => aU | .Pow => jS | _ => xR
theorem op_binG : ∀ op, OpR X (binaryOp op) (binG op)
  | .Add => op_addG | .Sub => op_subG | .Mult => op_mulG | .FloorDiv => op_fdivG | .Mod => op_modG | .Pow => op_powG
  | .MatMult => mq | .Div => mq | .LShift => mq | .RShift => mq | .BitOr => mq | .BitXor => mq | .BitAnd => mq
end
def rdD : Nat -> Hp -> V -> Option PyData
  | _, _, .non => some .none
  | _, _, .bl b => some (.bool b)
  | _, _, .int i => some (.int i)
  | _, _, .str x => some (.str x)
  | n + 1, H, .ref a => match H a with
    | some (.lst xs) => (xs.mapM (rdD n H)).map .list
    | some (.tup xs) => (xs.mapM (rdD n H)).map .tuple
    | _ => none
  | _, _, _ => none
theorem mapM_cons {α β : Type} {f : α -> Option β} {x : α} {xs : List α} : (x :: xs).mapM f = (f x).bind λ y => (xs.mapM f).bind λ ys => some (y :: ys) := by
  simp [List.mapM_cons]
theorem bc {α β : Type} {f : α -> Option β} : ∀ {xs : List α} {ys : List β}, xs.mapM f = some ys -> ys.length = xs.length /\ ∀ (i : Nat) x, xs[i]? = some x -> ∃ y, ys[i]? = some y /\ f x = some y
  | [], ys, h => by
    simp at h
    subst h
    exact ⟨rfl, λ i x e => by simp at e⟩
  | x :: xs, ys, h => by
    rw [mapM_cons] at h
    cases e : f x with
    | none => rw [e] at h; cases h
    | some y =>
      cases e2 : xs.mapM f with
      | none => rw [e, e2] at h; cases h
      | some r =>
        rw [e, e2] at h
        cases h
        obtain ⟨h1, h2⟩ := bc e2
        refine ⟨by simp [h1], λ i z hz => ?_⟩
        cases i with
        | zero =>
          simp at hz
          subst hz
          exact ⟨y, rfl, e⟩
        | succ i => exact h2 i z (by simpa using hz)
theorem pC {α β : Type} {f g : α -> Option β} (fg : ∀ x y, f x = some y -> g x = some y) : ∀ {xs : List α} {ys : List β}, xs.mapM f = some ys -> xs.mapM g = some ys
  | [], ys, h => by simpa using h
  | x :: xs, ys, h => by
    rw [mapM_cons] at h ⊢
    cases e : f x with
    | none => rw [e] at h; cases h
    | some y =>
      cases e2 : xs.mapM f with
      | none => rw [e, e2] at h; cases h
      | some r =>
        rw [e, e2] at h
        rw [fg x y e, pC fg e2]
        exact h
theorem d7 : ∀ {ds es : List PyData}, ds.length = es.length -> PyData.eqvAll ds es = (List.range ds.length).all λ j => PyData.eqv (ds.getD j .none) (es.getD j .none)
  | [], [], _ => rfl
  | [], _ :: _, h => by simp at h
  | _ :: _, [], h => by simp at h
  | d :: ds, e :: es, h => by
    show (PyData.eqv d e && PyData.eqvAll ds es) = _
    rw [d7 (by simpa using h), List.length_cons, List.range_succ_eq_map, List.all_cons, List.all_map]
    rfl
theorem d8 : ∀ {ds es : List PyData}, ds.length ≠ es.length -> PyData.eqvAll ds es = false
  | [], [], h => absurd rfl h
  | [], _ :: _, _ => rfl
  | _ :: _, [], _ => rfl
  | d :: ds, e :: es, h => by
    show (PyData.eqv d e && PyData.eqvAll ds es) = _
    rw [d8 (by simpa using h), Bool.and_false]
theorem gq {f : V -> Option PyData} (hf : ∀ x d, f x = some d -> PyData.eqv d d = true) : ∀ {xs : List V} {ds : List PyData}, xs.mapM f = some ds -> PyData.eqvAll ds ds = true
  | [], ds, h => by simp at h; subst h; rfl
  | x :: xs, ds, h => by
    rw [mapM_cons] at h
    cases e : f x with
    | none => rw [e] at h; cases h
    | some y =>
      cases e2 : xs.mapM f with
      | none => rw [e, e2] at h; cases h
      | some r =>
        rw [e, e2] at h
        cases h
        show (PyData.eqv y y && PyData.eqvAll r r) = true
        rw [hf x y e, gq hf e2]
        rfl
theorem i5 {H : Hp} : ∀ (n : Nat) (x : V) (d : PyData), rdD n H x = some d -> PyData.eqv d d = true
  | n, .non, d, h => by cases n <;> (cases h; rfl)
  | n, .bl b, d, h => by cases n <;> (cases h; exact beq_self_eq_true b)
  | n, .int b, d, h => by cases n <;> (cases h; exact beq_self_eq_true b)
  | n, .str b, d, h => by cases n <;> (cases h; exact beq_self_eq_true b)
  | n, .byt b, d, h => by cases n <;> cases h
  | n, .flt b, d, h => by cases n <;> cases h
  | n, .ty b, d, h => by cases n <;> cases h
  | 0, .ref a, d, h => by cases h
  | n + 1, .ref a, d, h => by
    unfold rdD at h
    cases e : H a with
    | none => rw [e] at h; cases h
    | some o =>
      rw [e] at h
      cases o <;> first | (cases h; done) | skip
      all_goals
        rename_i xs
        simp only at h
        cases e2 : xs.mapM (rdD n H) with
        | none => rw [e2] at h; cases h
        | some ds =>
          rw [e2] at h
          cases h
          exact gq (i5 n) e2
def flatD : V -> PyData
  | .non => .none
  | .bl b => .bool b
  | .int i => .int i
  | .str z => .str z
  | _ => .none
section
variable {X : Cx} {pins : List (Addr × Obj)} {σ : St} {H : Hp} {s : Shared}
theorem bH (I : Inv X pins σ H s) {a : Addr} {xs : List V} (e : H a = some (.lst xs)) : ∃ its : List Value, Vals xs its /\ s.heap.IsList a its.toArray := by
  obtain ⟨its, r, p, _⟩ := I.list (.inl (.inl e))
  exact ⟨its, r, p.isList⟩
theorem cV (I : Inv X pins σ H s) {a : Addr} {xs : List V} (e : H a = some (.tup xs)) : ∃ its : List Value, Vals xs its /\ s.heap.IsTuple a its.toArray := by
  obtain ⟨its, r, p, _⟩ := I.tuple (.inl (.inl e))
  exact ⟨its, r, p⟩
theorem bt (A : Around) : A.in1.units = A.units + 1 := rfl
theorem nL {A : Around} {x : V} {u : Value} {a : Addr} (rx : RelV x u) (fx : hE x = true) (hu : A.units < cLine) (h : (∃ its, s.heap.IsList a its) \/ ∃ its, s.heap.IsTuple a its) : SeqAt.EqAt A s u (.ref a) false /\ SeqAt.EqAt A s (.ref a) u false := by
  cases x with
  | non =>
    cases rx
    rcases h with ⟨its, h⟩ | ⟨its, h⟩
    . exact ⟨SeqAt.EqAt.none_list h hu, SeqAt.EqAt.list_none h hu⟩
    . exact ⟨SeqAt.EqAt.none_tuple h hu, SeqAt.EqAt.tuple_none h hu⟩
  | bl b =>
    cases rx
    rcases h with ⟨its, h⟩ | ⟨its, h⟩
    . exact ⟨SeqAt.EqAt.bool_list b h hu, SeqAt.EqAt.list_bool b h hu⟩
    . exact ⟨SeqAt.EqAt.bool_tuple b h hu, SeqAt.EqAt.tuple_bool b h hu⟩
  | int i =>
    obtain ⟨t, rfl⟩ := rx
    rcases h with ⟨its, h⟩ | ⟨its, h⟩
    . exact ⟨SeqAt.EqAt.int_list i t h hu, SeqAt.EqAt.list_int i t h hu⟩
    . exact ⟨SeqAt.EqAt.int_tuple i t h hu, SeqAt.EqAt.tuple_int i t h hu⟩
  | str i =>
    obtain ⟨t, rfl⟩ := rx
    rcases h with ⟨its, h⟩ | ⟨its, h⟩
    . exact ⟨SeqAt.EqAt.str_list i t h hu, SeqAt.EqAt.list_str i t h hu⟩
    . exact ⟨SeqAt.EqAt.str_tuple i t h hu, SeqAt.EqAt.tuple_str i t h hu⟩
  | _ => cases fx
theorem dk {n : Nat} {a : Addr} {d : PyData} (h : rdD n H (.ref a) = some d) : ∃ m, n = m + 1 /\ ((∃ xs ds, H a = some (.lst xs) /\ xs.mapM (rdD m H) = some ds /\ d = .list ds) \/ ∃ xs ds, H a = some (.tup xs) /\ xs.mapM (rdD m H) = some ds /\ d = .tuple ds) := by
  cases n with
  | zero => cases h
  | succ m =>
    refine ⟨m, rfl, ?_⟩
    unfold rdD at h
    cases e : H a with
    | none => rw [e] at h; cases h
    | some o =>
      rw [e] at h
      cases o <;> first | (cases h; done) | skip
      . rename_i xs
        simp only at h
        cases e2 : xs.mapM (rdD m H) with
        | none => rw [e2] at h; cases h
        | some ds => rw [e2] at h; cases h; exact .inl ⟨xs, ds, rfl, e2, rfl⟩
      . rename_i xs
        simp only at h
        cases e2 : xs.mapM (rdD m H) with
        | none => rw [e2] at h; cases h
        | some ds => rw [e2] at h; cases h; exact .inr ⟨xs, ds, rfl, e2, rfl⟩
theorem bP {n : Nat} {x : V} {d : PyData} (h : rdD n H x = some d) (hx : ∀ a, x ≠ .ref a) : hE x = true /\ d = flatD x := by
  cases x with
  | ref a => exact absurd rfl (hx a)
  | _ => cases n <;> first | (cases h; exact ⟨rfl, rfl⟩) | cases h
end
section
variable {X : Cx} {pins : List (Addr × Obj)} {σ : St} {H : Hp} {s : Shared}
theorem cK {α : Type} {xs : List α} {i : Nat} {x d : α} (h : xs[i]? = some x) : xs.getD i d = x := by
  simp [List.getD, h]
theorem bu (x : V) : (∃ a, x = .ref a) \/ ∀ a, x ≠ .ref a := by
  cases x <;> first | exact .inl ⟨_, rfl⟩ | exact .inr λ a h => by cases h
theorem jT (I : Inv X pins σ H s) : ∀ (n : Nat) (A : Around) (x y : V) (u v : Value) (d e : PyData), rdD n H x = some d -> rdD n H y = some e -> RelV x u -> RelV y v -> A.units + n < cLine -> SeqAt.EqAt A s u v (PyData.eqv d e) := by
  intro n
  induction n with
  | zero =>
    intro A x y u v d e hx hy rx ry hu
    rcases bu x with ⟨a, rfl⟩ | nx
    . cases hx
    rcases bu y with ⟨a, rfl⟩ | ny
    . cases hy
    obtain ⟨fx, rfl⟩ := bP hx nx
    obtain ⟨fy, rfl⟩ := bP hy ny
    have := eqAt_V (A := A) (s := s) rx ry fx fy
    cases x <;> cases y <;> first | (cases fx; done) | (cases fy; done) | exact this
  | succ n ih =>
    intro A x y u v d e hx hy rx ry hu
    have hu' : A.units < cLine := by omega
    rcases bu x with ⟨a, rfl⟩ | nx
    . obtain ⟨m, em, hx'⟩ := dk hx
      cases em
      cases rx
      rcases bu y with ⟨b, rfl⟩ | ny
      . obtain ⟨m', em', hy'⟩ := dk hy
        cases em'
        cases ry
        by_cases hab : a = b
        . subst hab
          rw [hx] at hy
          cases hy
          rw [i5 _ _ _ hx]
          exact SeqAt.EqAt.same _
        . rcases hx' with ⟨xs, ds, ha, hd, rfl⟩ | ⟨xs, ds, ha, hd, rfl⟩
          . obtain ⟨its, r1, l1⟩ := bH I ha
            obtain ⟨q1, q2⟩ := bc hd
            rcases hy' with ⟨ys, es, hb, he, rfl⟩ | ⟨ys, es, hb, he, rfl⟩
            . obtain ⟨jts, r2, l2⟩ := bH I hb
              obtain ⟨p1, p2⟩ := bc he
              have e1 := r1.length
              have e2 := r2.length
              show SeqAt.EqAt A s _ _ (PyData.eqvAll ds es)
              by_cases hl : its.length = jts.length
              . have ez : PyData.eqvAll ds es = (List.range its.toArray.size).all λ j => PyData.eqv (ds.getD j .none) (es.getD j .none) := by
                  rw [d7 (by omega)]
                  congr 2
                  simp
                  omega
                rw [ez]
                refine SeqAt.EqAt.of_refs hab (SeqAt.RcAt.lists l1 l2 (by simpa using hl) hu' λ j j1 j2 => ?_)
                have j1' : j < xs.length := by simpa [e1] using j1
                have j2' : j < ys.length := by simpa [e2] using j2
                obtain ⟨y1, g1, k1⟩ := q2 j xs[j] (by simp [j1'])
                obtain ⟨y2, g2, k2⟩ := p2 j ys[j] (by simp [j2'])
                obtain ⟨u1, w1, z1⟩ := r1.get (i := j) (x := xs[j]) (by simp [j1'])
                obtain ⟨u2, w2, z2⟩ := r2.get (i := j) (x := ys[j]) (by simp [j2'])
                rw [cK g1, cK g2]
                have o1 : its.toArray[j] = u1 := by
                  obtain ⟨_, o⟩ := List.getElem?_eq_some_iff.mp w1
                  simpa using o
                have o2 : jts.toArray[j] = u2 := by
                  obtain ⟨_, o⟩ := List.getElem?_eq_some_iff.mp w2
                  simpa using o
                rw [o1, o2]
                exact ih A.in1 _ _ _ _ _ _ k1 k2 z1 z2 (by rw [bt]; omega)
              . rw [d8 (by omega)]
                exact SeqAt.EqAt.of_refs hab (SeqAt.RcAt.lists_lengths l1 l2 (by simpa using hl) hu')
            . obtain ⟨jts, r2, l2⟩ := cV I hb
              exact SeqAt.EqAt.list_tuple l1 l2 hu'
          . obtain ⟨its, r1, l1⟩ := cV I ha
            obtain ⟨q1, q2⟩ := bc hd
            rcases hy' with ⟨ys, es, hb, he, rfl⟩ | ⟨ys, es, hb, he, rfl⟩
            . obtain ⟨jts, r2, l2⟩ := bH I hb
              exact SeqAt.EqAt.tuple_list l1 l2 hu'
            . obtain ⟨jts, r2, l2⟩ := cV I hb
              obtain ⟨p1, p2⟩ := bc he
              have e1 := r1.length
              have e2 := r2.length
              show SeqAt.EqAt A s _ _ (PyData.eqvAll ds es)
              have ez : PyData.eqvAll ds es = ((List.range (min its.toArray.size jts.toArray.size)).all (λ j => PyData.eqv (ds.getD j .none) (es.getD j .none)) && its.toArray.size == jts.toArray.size) := by
                by_cases hl : its.length = jts.length
                . rw [d7 (by omega)]
                  have : (its.toArray.size == jts.toArray.size) = true := by simpa using hl
                  rw [this, Bool.and_true]
                  congr 2
                  simp
                  omega
                . rw [d8 (by omega)]
                  have : (its.toArray.size == jts.toArray.size) = false := by simpa using hl
                  rw [this, Bool.and_false]
              rw [ez]
              refine SeqAt.EqAt.of_refs hab (SeqAt.RcAt.tuples l1 l2 hu' λ j j1 j2 => ?_)
              have j1' : j < xs.length := by simpa [e1] using j1
              have j2' : j < ys.length := by simpa [e2] using j2
              obtain ⟨y1, g1, k1⟩ := q2 j xs[j] (by simp [j1'])
              obtain ⟨y2, g2, k2⟩ := p2 j ys[j] (by simp [j2'])
              obtain ⟨u1, w1, z1⟩ := r1.get (i := j) (x := xs[j]) (by simp [j1'])
              obtain ⟨u2, w2, z2⟩ := r2.get (i := j) (x := ys[j]) (by simp [j2'])
              rw [cK g1, cK g2]
              have o1 : its.toArray[j] = u1 := by
                obtain ⟨_, o⟩ := List.getElem?_eq_some_iff.mp w1
                simpa using o
              have o2 : jts.toArray[j] = u2 := by
                obtain ⟨_, o⟩ := List.getElem?_eq_some_iff.mp w2
                simpa using o
              rw [o1, o2]
              exact ih A.in1 _ _ _ _ _ _ k1 k2 z1 z2 (by rw [bt]; omega)
      . obtain ⟨fy, rfl⟩ := bP hy ny
        have hs : (∃ its, s.heap.IsList a its) \/ ∃ its, s.heap.IsTuple a its := by
          rcases hx' with ⟨xs, ds, ha, _, _⟩ | ⟨xs, ds, ha, _, _⟩
          . obtain ⟨its, _, l⟩ := bH I ha; exact .inl ⟨_, l⟩
          . obtain ⟨its, _, l⟩ := cV I ha; exact .inr ⟨_, l⟩
        have z := (nL ry fy hu' hs).2
        rcases hx' with ⟨xs, ds, ha, hd, rfl⟩ | ⟨xs, ds, ha, hd, rfl⟩ <;> (cases y <;> first | (cases fy; done) | exact z)
    . obtain ⟨fx, rfl⟩ := bP hx nx
      rcases bu y with ⟨b, rfl⟩ | ny
      . obtain ⟨m', em', hy'⟩ := dk hy
        cases em'
        cases ry
        have hs : (∃ its, s.heap.IsList b its) \/ ∃ its, s.heap.IsTuple b its := by
          rcases hy' with ⟨xs, ds, ha, _, _⟩ | ⟨xs, ds, ha, _, _⟩
          . obtain ⟨its, _, l⟩ := bH I ha; exact .inl ⟨_, l⟩
          . obtain ⟨its, _, l⟩ := cV I ha; exact .inr ⟨_, l⟩
        have z := (nL rx fx hu' hs).1
        rcases hy' with ⟨xs, ds, ha, hd, rfl⟩ | ⟨xs, ds, ha, hd, rfl⟩ <;> (cases x <;> first | (cases fx; done) | exact z)
      . obtain ⟨fy, rfl⟩ := bP hy ny
        have := eqAt_V (A := A) (s := s) rx ry fx fy
        cases x <;> cases y <;> first | (cases fx; done) | (cases fy; done) | exact this
theorem rc_flat {A : Around} {x y : V} {u v : Value} (rx : RelV x u) (ry : RelV y v) (fx : hE x = true) (fy : hE y = true) : SeqAt.RcAt A s u v (eqV x y) /\ SeqAt.RcNeAt A s u v (!eqV x y) := by
  cases x with
  | non =>
    cases rx
    cases y with
    | non =>
      cases ry
      exact ⟨SeqAt.RcAt.none_none, SeqAt.RcNeAt.none_none⟩
    | bl c =>
      cases ry
      exact ⟨SeqAt.RcAt.none_bool _, SeqAt.RcNeAt.none_bool _⟩
    | int c =>
      obtain ⟨t2, rfl⟩ := ry
      exact ⟨SeqAt.RcAt.none_int _ _, SeqAt.RcNeAt.none_int _ _⟩
    | str c =>
      obtain ⟨t2, rfl⟩ := ry
      exact ⟨SeqAt.RcAt.none_str _ _, SeqAt.RcNeAt.none_str _ _⟩
    | _ => cases fy
  | bl a =>
    cases rx
    cases y with
    | non =>
      cases ry
      exact ⟨SeqAt.RcAt.bool_none _, SeqAt.RcNeAt.bool_none _⟩
    | bl c =>
      cases ry
      exact ⟨SeqAt.RcAt.bool_bool _ _, SeqAt.RcNeAt.bool_bool _ _⟩
    | int c =>
      obtain ⟨t2, rfl⟩ := ry
      exact ⟨SeqAt.RcAt.bool_int _ _ _, SeqAt.RcNeAt.bool_int _ _ _⟩
    | str c =>
      obtain ⟨t2, rfl⟩ := ry
      exact ⟨SeqAt.RcAt.bool_str _ _ _, SeqAt.RcNeAt.bool_str _ _ _⟩
    | _ => cases fy
  | int a =>
    obtain ⟨t1, rfl⟩ := rx
    cases y with
    | non =>
      cases ry
      exact ⟨SeqAt.RcAt.int_none _ _, SeqAt.RcNeAt.int_none _ _⟩
    | bl c =>
      cases ry
      exact ⟨SeqAt.RcAt.int_bool _ _ _, SeqAt.RcNeAt.int_bool _ _ _⟩
    | int c =>
      obtain ⟨t2, rfl⟩ := ry
      exact ⟨SeqAt.RcAt.int_int _ _ _ _, SeqAt.RcNeAt.int_int _ _ _ _⟩
    | str c =>
      obtain ⟨t2, rfl⟩ := ry
      exact ⟨SeqAt.RcAt.int_str _ _ _ _, SeqAt.RcNeAt.int_str _ _ _ _⟩
    | _ => cases fy
  | str a =>
    obtain ⟨t1, rfl⟩ := rx
    cases y with
    | non =>
      cases ry
      exact ⟨SeqAt.RcAt.str_none _ _, SeqAt.RcNeAt.str_none _ _⟩
    | bl c =>
      cases ry
      exact ⟨SeqAt.RcAt.str_bool _ _ _, SeqAt.RcNeAt.str_bool _ _ _⟩
    | int c =>
      obtain ⟨t2, rfl⟩ := ry
      exact ⟨SeqAt.RcAt.str_int _ _ _ _, SeqAt.RcNeAt.str_int _ _ _ _⟩
    | str c =>
      obtain ⟨t2, rfl⟩ := ry
      exact ⟨SeqAt.RcAt.str_str _ _ _ _, SeqAt.RcNeAt.str_str _ _ _ _⟩
    | _ => cases fy
  | _ => cases fx
theorem rc_fs {A : Around} {x : V} {u : Value} {a : Addr} (rx : RelV x u) (fx : hE x = true) (hu : A.units < cLine) (h : (∃ its, s.heap.IsList a its) \/ ∃ its, s.heap.IsTuple a its) :
    (SeqAt.RcAt A s u (.ref a) false /\ SeqAt.RcNeAt A s u (.ref a) true) /\ SeqAt.RcAt A s (.ref a) u false /\ SeqAt.RcNeAt A s (.ref a) u true := by
  cases x with
  | non =>
    cases rx
    rcases h with ⟨its, h⟩ | ⟨its, h⟩
    . exact ⟨⟨SeqAt.RcAt.none_list h hu, SeqAt.RcNeAt.none_list h hu⟩, SeqAt.RcAt.list_none h hu, SeqAt.RcNeAt.list_none h hu⟩
    . exact ⟨⟨SeqAt.RcAt.none_tuple h hu, SeqAt.RcNeAt.none_tuple h hu⟩, SeqAt.RcAt.tuple_none h hu, SeqAt.RcNeAt.tuple_none h hu⟩
  | bl a =>
    cases rx
    rcases h with ⟨its, h⟩ | ⟨its, h⟩
    . exact ⟨⟨SeqAt.RcAt.bool_list _ h hu, SeqAt.RcNeAt.bool_list _ h hu⟩, SeqAt.RcAt.list_bool _ h hu, SeqAt.RcNeAt.list_bool _ h hu⟩
    . exact ⟨⟨SeqAt.RcAt.bool_tuple _ h hu, SeqAt.RcNeAt.bool_tuple _ h hu⟩, SeqAt.RcAt.tuple_bool _ h hu, SeqAt.RcNeAt.tuple_bool _ h hu⟩
  | int a =>
    obtain ⟨t1, rfl⟩ := rx
    rcases h with ⟨its, h⟩ | ⟨its, h⟩
    . exact ⟨⟨SeqAt.RcAt.int_list _ _ h hu, SeqAt.RcNeAt.int_list _ _ h hu⟩, SeqAt.RcAt.list_int _ _ h hu, SeqAt.RcNeAt.list_int _ _ h hu⟩
    . exact ⟨⟨SeqAt.RcAt.int_tuple _ _ h hu, SeqAt.RcNeAt.int_tuple _ _ h hu⟩, SeqAt.RcAt.tuple_int _ _ h hu, SeqAt.RcNeAt.tuple_int _ _ h hu⟩
  | str a =>
    obtain ⟨t1, rfl⟩ := rx
    rcases h with ⟨its, h⟩ | ⟨its, h⟩
    . exact ⟨⟨SeqAt.RcAt.str_list _ _ h hu, SeqAt.RcNeAt.str_list _ _ h hu⟩, SeqAt.RcAt.list_str _ _ h hu, SeqAt.RcNeAt.list_str _ _ h hu⟩
    . exact ⟨⟨SeqAt.RcAt.str_tuple _ _ h hu, SeqAt.RcNeAt.str_tuple _ _ h hu⟩, SeqAt.RcAt.tuple_str _ _ h hu, SeqAt.RcNeAt.tuple_str _ _ h hu⟩
  | _ => cases fx
theorem rcAt_D (I : Inv X pins σ H s) {n : Nat} {A : Around} {x y : V} {u v : Value} {d e : PyData} (hx : rdD n H x = some d) (hy : rdD n H y = some e) (rx : RelV x u) (ry : RelV y v) (hu : A.units + n < cLine) :
    SeqAt.RcAt A s u v (PyData.eqv d e) /\ SeqAt.RcNeAt A s u v (!PyData.eqv d e) := by
  have hu' : A.units < cLine := by omega
  have seq : ∀ {a : Addr} {d : PyData}, rdD n H (.ref a) = some d -> (∃ its, s.heap.IsList a its) \/ ∃ its, s.heap.IsTuple a its := λ {a d} h => by
    obtain ⟨m, em, h'⟩ := dk h
    rcases h' with ⟨xs, ds, ha, _, _⟩ | ⟨xs, ds, ha, _, _⟩
    . obtain ⟨its, _, l⟩ := bH I ha; exact .inl ⟨_, l⟩
    . obtain ⟨its, _, l⟩ := cV I ha; exact .inr ⟨_, l⟩
  have sd : ∀ {a : Addr} {d : PyData}, rdD n H (.ref a) = some d -> (∃ ds, d = .list ds) \/ ∃ ds, d = .tuple ds := λ {a d} h => by
    obtain ⟨m, em, h'⟩ := dk h
    rcases h' with ⟨xs, ds, _, _, e⟩ | ⟨xs, ds, _, _, e⟩
    . exact .inl ⟨ds, e⟩
    . exact .inr ⟨ds, e⟩
  rcases bu x with ⟨a, rfl⟩ | nx
  . rcases bu y with ⟨b, rfl⟩ | ny
    . cases rx
      cases ry
      obtain ⟨m, em, hx'⟩ := dk hx
      obtain ⟨m', em', hy'⟩ := dk hy
      subst em
      cases em'
      rcases hx' with ⟨xs, ds, ha, hd, rfl⟩ | ⟨xs, ds, ha, hd, rfl⟩
      . obtain ⟨its, r1, l1⟩ := bH I ha
        obtain ⟨q1, q2⟩ := bc hd
        rcases hy' with ⟨ys, es, hb, he, rfl⟩ | ⟨ys, es, hb, he, rfl⟩
        . obtain ⟨jts, r2, l2⟩ := bH I hb
          obtain ⟨p1, p2⟩ := bc he
          have e1 := r1.length
          have e2 := r2.length
          show SeqAt.RcAt A s _ _ (PyData.eqvAll ds es) /\ SeqAt.RcNeAt A s _ _ (!PyData.eqvAll ds es)
          by_cases hl : its.length = jts.length
          . have ez : PyData.eqvAll ds es = (List.range its.toArray.size).all λ j => PyData.eqv (ds.getD j .none) (es.getD j .none) := by
              rw [d7 (by omega)]
              congr 2
              simp
              omega
            rw [ez]
            have each : ∀ j (j1 : j < its.toArray.size) (j2 : j < jts.toArray.size), SeqAt.EqAt A.in1 s its.toArray[j] jts.toArray[j] (PyData.eqv (ds.getD j .none) (es.getD j .none)) := λ j j1 j2 => by
              have j1' : j < xs.length := by simpa [e1] using j1
              have j2' : j < ys.length := by simpa [e2] using j2
              obtain ⟨y1, g1, k1⟩ := q2 j xs[j] (by simp [j1'])
              obtain ⟨y2, g2, k2⟩ := p2 j ys[j] (by simp [j2'])
              obtain ⟨u1, w1, z1⟩ := r1.get (i := j) (x := xs[j]) (by simp [j1'])
              obtain ⟨u2, w2, z2⟩ := r2.get (i := j) (x := ys[j]) (by simp [j2'])
              rw [cK g1, cK g2]
              have o1 : its.toArray[j] = u1 := by
                obtain ⟨_, o⟩ := List.getElem?_eq_some_iff.mp w1
                simpa using o
              have o2 : jts.toArray[j] = u2 := by
                obtain ⟨_, o⟩ := List.getElem?_eq_some_iff.mp w2
                simpa using o
              rw [o1, o2]
              exact jT I m A.in1 _ _ _ _ _ _ k1 k2 z1 z2 (by rw [bt]; omega)
            exact ⟨SeqAt.RcAt.lists l1 l2 (by simpa using hl) hu' each, SeqAt.RcNeAt.lists l1 l2 (by simpa using hl) hu' each⟩
          . rw [d8 (by omega)]
            exact ⟨SeqAt.RcAt.lists_lengths l1 l2 (by simpa using hl) hu', SeqAt.RcNeAt.lists_lengths l1 l2 (by simpa using hl) hu'⟩
        . obtain ⟨jts, r2, l2⟩ := cV I hb
          exact ⟨SeqAt.RcAt.list_tuple l1 l2 hu', SeqAt.RcNeAt.list_tuple l1 l2 hu'⟩
      . obtain ⟨its, r1, l1⟩ := cV I ha
        obtain ⟨q1, q2⟩ := bc hd
        rcases hy' with ⟨ys, es, hb, he, rfl⟩ | ⟨ys, es, hb, he, rfl⟩
        . obtain ⟨jts, r2, l2⟩ := bH I hb
          exact ⟨SeqAt.RcAt.tuple_list l1 l2 hu', SeqAt.RcNeAt.tuple_list l1 l2 hu'⟩
        . obtain ⟨jts, r2, l2⟩ := cV I hb
          obtain ⟨p1, p2⟩ := bc he
          have e1 := r1.length
          have e2 := r2.length
          show SeqAt.RcAt A s _ _ (PyData.eqvAll ds es) /\ SeqAt.RcNeAt A s _ _ (!PyData.eqvAll ds es)
          have ez : PyData.eqvAll ds es = ((List.range (min its.toArray.size jts.toArray.size)).all (λ j => PyData.eqv (ds.getD j .none) (es.getD j .none)) && its.toArray.size == jts.toArray.size) := by
            by_cases hl : its.length = jts.length
            . rw [d7 (by omega)]
              have : (its.toArray.size == jts.toArray.size) = true := by simpa using hl
              rw [this, Bool.and_true]
              congr 2
              simp
              omega
            . rw [d8 (by omega)]
              have : (its.toArray.size == jts.toArray.size) = false := by simpa using hl
              rw [this, Bool.and_false]
          rw [ez]
          have each : ∀ j (j1 : j < its.toArray.size) (j2 : j < jts.toArray.size), SeqAt.EqAt A.in1 s its.toArray[j] jts.toArray[j] (PyData.eqv (ds.getD j .none) (es.getD j .none)) := λ j j1 j2 => by
            have j1' : j < xs.length := by simpa [e1] using j1
            have j2' : j < ys.length := by simpa [e2] using j2
            obtain ⟨y1, g1, k1⟩ := q2 j xs[j] (by simp [j1'])
            obtain ⟨y2, g2, k2⟩ := p2 j ys[j] (by simp [j2'])
            obtain ⟨u1, w1, z1⟩ := r1.get (i := j) (x := xs[j]) (by simp [j1'])
            obtain ⟨u2, w2, z2⟩ := r2.get (i := j) (x := ys[j]) (by simp [j2'])
            rw [cK g1, cK g2]
            have o1 : its.toArray[j] = u1 := by
              obtain ⟨_, o⟩ := List.getElem?_eq_some_iff.mp w1
              simpa using o
            have o2 : jts.toArray[j] = u2 := by
              obtain ⟨_, o⟩ := List.getElem?_eq_some_iff.mp w2
              simpa using o
            rw [o1, o2]
            exact jT I m A.in1 _ _ _ _ _ _ k1 k2 z1 z2 (by rw [bt]; omega)
          exact ⟨SeqAt.RcAt.tuples l1 l2 hu' each, SeqAt.RcNeAt.tuples l1 l2 hu' each⟩
    . obtain ⟨fy, rfl⟩ := bP hy ny
      have z := (rc_fs (A := A) ry fy hu' (seq hx)).2
      cases rx
      rcases sd hx with ⟨ds, rfl⟩ | ⟨ds, rfl⟩ <;> (cases y <;> first | (cases fy; done) | exact z)
  . obtain ⟨fx, rfl⟩ := bP hx nx
    rcases bu y with ⟨b, rfl⟩ | ny
    . cases ry
      have z := (rc_fs rx fx hu' (seq hy)).1
      rcases sd hy with ⟨ds, rfl⟩ | ⟨ds, rfl⟩ <;> (cases x <;> first | (cases fx; done) | exact z)
    . obtain ⟨fy, rfl⟩ := bP hy ny
      have := rc_flat (A := A) (s := s) rx ry fx fy
      cases x <;> cases y <;> first | (cases fx; done) | (cases fy; done) | exact this
def isRf : V -> Bool
  | .ref _ => true
  | _ => false
def eqD (x y : V) (H : Hp) (Q : VK) : Prop := match rdD 8 H x, rdD 8 H y with
  | some d, some e => Q (.bl (PyData.eqv d e)) H
  | _, _ => False
inductive EqT (H : Hp) : Nat -> V -> V -> Prop where
  | same (n : Nat) (a : Addr) : EqT H n (.ref a) (.ref a)
  | data {n : Nat} {x y : V} {d e : PyData} (hx : rdD n H x = some d) (hy : rdD n H y = some e) (h : PyData.eqv d e = true) : EqT H n x y
  | lst {n : Nat} {p q : Addr} {xs ys : List V} (hne : p ≠ q) (hp : H p = some (.lst xs)) (hq : H q = some (.lst ys)) (hl : xs.length = ys.length) (he : ∀ (i : Nat) x y, xs[i]? = some x -> ys[i]? = some y -> EqT H n x y) : EqT H (n + 1) (.ref p) (.ref q)
theorem mr (I : Inv X pins σ H s) {A : Around} {p q : Addr} {xs ys : List V} (hp : H p = some (.lst xs)) (hq : H q = some (.lst ys)) (hl : xs.length = ys.length) (hu : A.units < cLine)
    (he : ∀ (i : Nat) x y u v, xs[i]? = some x -> ys[i]? = some y -> RelV x u -> RelV y v -> SeqAt.EqAt A.in1 s u v true) : SeqAt.RcAt A s (.ref p) (.ref q) true /\ SeqAt.RcNeAt A s (.ref p) (.ref q) false := by
  obtain ⟨its, r1, l1⟩ := bH I hp
  obtain ⟨jts, r2, l2⟩ := bH I hq
  have e1 := r1.length
  have e2 := r2.length
  have each : ∀ j (j1 : j < its.toArray.size) (j2 : j < jts.toArray.size), SeqAt.EqAt A.in1 s its.toArray[j] jts.toArray[j] ((λ _ : Nat => true) j) := λ j j1 j2 => by
    have j1' : j < xs.length := by simpa [e1] using j1
    have j2' : j < ys.length := by simpa [e2] using j2
    obtain ⟨u1, w1, z1⟩ := r1.get (i := j) (x := xs[j]) (by simp [j1'])
    obtain ⟨u2, w2, z2⟩ := r2.get (i := j) (x := ys[j]) (by simp [j2'])
    have o1 : its.toArray[j] = u1 := by
      obtain ⟨_, o⟩ := List.getElem?_eq_some_iff.mp w1
      simpa using o
    have o2 : jts.toArray[j] = u2 := by
      obtain ⟨_, o⟩ := List.getElem?_eq_some_iff.mp w2
      simpa using o
    rw [o1, o2]
    exact he j xs[j] ys[j] u1 u2 (by simp [j1']) (by simp [j2']) z1 z2
  have all : (List.range its.toArray.size).all (λ _ : Nat => true) = true := by simp
  have a := SeqAt.RcAt.lists l1 l2 (by simp; omega) hu each
  have b := SeqAt.RcNeAt.lists l1 l2 (by simp; omega) hu each
  rw [all] at a b
  exact ⟨a, b⟩
theorem eqT_at (I : Inv X pins σ H s) : ∀ {n : Nat} {x y : V}, EqT H n x y -> ∀ {A : Around} {u v : Value}, RelV x u -> RelV y v -> A.units + n < cLine -> SeqAt.EqAt A s u v true := λ {n x y} h => by
  induction h with
  | same n a =>
    intro A u v ru rv hu
    cases ru
    cases rv
    exact SeqAt.EqAt.same _
  | data hx hy h =>
    intro A u v ru rv hu
    have := jT I _ A _ _ _ _ _ _ hx hy ru rv hu
    rw [h] at this
    exact this
  | lst hne hp hq hl he ih =>
    intro A u v ru rv hu
    cases ru
    cases rv
    exact SeqAt.EqAt.of_refs hne (mr I hp hq hl (by omega) λ i x y u v h1 h2 r1 r2 => ih i x y h1 h2 r1 r2 (by rw [bt]; omega)).1
def eqL (x y : V) (H : Hp) (Q : VK) : Prop := ∃ (p q : Addr) (xs ys : List V), x = .ref p /\ y = .ref q /\ H p = some (.lst xs) /\ H q = some (.lst ys) /\ xs.length = ys.length /\ (∀ (i : Nat) x y, xs[i]? = some x -> ys[i]? = some y -> EqT H 8 x y) /\ Q (.bl true) H
@[irreducible] def eqH (x y : V) (H : Hp) (Q : VK) : Prop := eqD x y H Q \/ eqL x y H Q
def eqG : R2 := λ x y H Q => match isRf x || isRf y with
  | true => eqH x y H Q
  | false => eqD x y H Q
theorem eqG_D {x y : V} {H : Hp} {Q : VK} (h : eqG x y H Q) : eqD x y H Q \/ eqL x y H Q := by
  unfold eqG at h
  split at h
  . unfold eqH at h
    exact h
  . exact .inl h
def neG : R2 := λ x y H Q => eqG x y H λ v H1 => match v with
  | .bl b => Q (.bl (!b)) H1
  | _ => False
theorem op_eqG {k : Nat} (hr : Room k X.A) : OpR X (compareOp .Eq) eqG := λ pins s σ H x y v u Q I rx ry h => by
  rcases eqG_D h with h | ⟨p, q, xs, ys, rfl, rfl, hp, hq, hl, he, h⟩
  . unfold eqD at h
    split at h
    . rename_i d e h1 h2
      exact (rcAt_D I h1 h2 rx ry (by have := hr.un; omega)).1 X.prog X.w X.xe _ ⟨.bl _, H, I, rfl, h⟩
    . exact h.elim
  . cases rx
    cases ry
    exact (mr I hp hq hl (by have := hr.un; omega) λ i x y u v h1 h2 r1 r2 => eqT_at I (he i x y h1 h2) r1 r2 (by rw [bt]; have := hr.un; omega)).1 X.prog X.w X.xe _ ⟨.bl _, H, I, rfl, h⟩
theorem op_neG {k : Nat} (hr : Room k X.A) : OpR X (compareOp .NotEq) neG := λ pins s σ H x y v u Q I rx ry h => by
  rcases eqG_D h with h | ⟨p, q, xs, ys, rfl, rfl, hp, hq, hl, he, h⟩
  . unfold eqD at h
    split at h
    . rename_i d e h1 h2
      exact (rcAt_D I h1 h2 rx ry (by have := hr.un; omega)).2 X.prog X.w X.xe _ ⟨.bl _, H, I, rfl, h⟩
    . exact h.elim
  . cases rx
    cases ry
    exact (mr I hp hq hl (by have := hr.un; omega) λ i x y u v h1 h2 r1 r2 => eqT_at I (he i x y h1 h2) r1 r2 (by rw [bt]; have := hr.un; omega)).2 X.prog X.w X.xe _ ⟨.bl _, H, I, rfl, h⟩
end
def e8 : V -> Option Key
  | .int i => some (.inl i)
  | .str x => some (.inr x)
  | _ => none
theorem fJ {x : V} {k : Key} (h : e8 x = some k) : x = kV k := by
  cases x <;> first | (cases h; rfl) | cases h
def dl (xs : List V) : Option (List Key) := xs.mapM e8
theorem eJ : ∀ {xs : List V} {ks : List Key}, dl xs = some ks -> xs = ks.map kV
  | [], ks, h => by
    unfold dl at h
    simp at h
    subst h
    rfl
  | x :: xs, ks, h => by
    unfold dl at h
    rw [mapM_cons] at h
    cases e : e8 x with
    | none => rw [e] at h; cases h
    | some y =>
      cases e2 : xs.mapM e8 with
      | none => rw [e, e2] at h; cases h
      | some r =>
        rw [e, e2] at h
        cases h
        rw [List.map_cons, <- fJ e, <- eJ e2]
def cL (H : Hp) (a : Addr) (y : V) : Option (Option V) := match H a with
  | some (.dK kvs) => (e8 y).map (ak kvs)
  | some (.frz _ (.dK kvs)) => (e8 y).map (ak kvs)
  | some (.dT kvs) => match y with
    | .ref b => match H b with
      | some (.tup xs) => (dl xs).map (ak kvs)
      | _ => none
    | _ => none
  | some (.frz _ (.dT kvs)) => match y with
    | .ref b => match H b with
      | some (.tup xs) => (dl xs).map (ak kvs)
      | _ => none
    | _ => none
  | _ => none
theorem d9 {H : Hp} {a : Addr} {y : V} {r : Option V} (h : cL H a y = some r) : DGet H a y r := by
  unfold cL at h
  split at h
  . rename_i kvs e
    cases e2 : e8 y with
    | none => rw [e2] at h; cases h
    | some k => rw [e2] at h; cases h; rw [fJ e2]; exact DGet.k e
  . rename_i ob kvs e
    cases e2 : e8 y with
    | none => rw [e2] at h; cases h
    | some k => rw [e2] at h; cases h; rw [fJ e2]; exact .inl ⟨_, _, .inr ⟨_, e⟩, rfl, rfl⟩
  . rename_i kvs e
    split at h
    . split at h
      . rename_i xs e3
        cases e2 : dl xs with
        | none => rw [e2] at h; cases h
        | some k => rw [e2] at h; cases h; rw [eJ e2] at e3; exact DGet.t e e3
      . cases h
    . cases h
  . rename_i ob kvs e
    split at h
    . split at h
      . rename_i xs e3
        cases e2 : dl xs with
        | none => rw [e2] at h; cases h
        | some k => rw [e2] at h; cases h; rw [eJ e2] at e3; exact .inr ⟨_, _, _, .inr ⟨_, e⟩, rfl, e3, rfl⟩
      . cases h
    . cases h
  . cases h
section
variable {X : Cx} {pins : List (Addr × Obj)} {σ : St} {H : Hp} {s : Shared}
@[irreducible] def aw : R2 := λ x y H Q => match x with
  | .str z => match y with
    | .int i => match atI z.cps.toList i with
      | some c => z.length <= sizeLine /\ Q (.str ⟨#[c]⟩) H
      | none => False
    | _ => False
  | .ref p => match H p with
    | some (.lst xs) => match y with
      | .int i => match atI xs i with
        | some v => Q v H
        | none => False
      | _ => False
    | some (.tup xs) => match y with
      | .int i => match atI xs i with
        | some v => Q v H
        | none => False
      | _ => False
    | _ => match cL H p y with
      | some (some v) => Q v H
      | _ => False
  | _ => False
theorem ix_dict (hu : X.A.units + 1 < cLine) : IxR X (λ x y H Q => ∃ a v, x = .ref a /\ DGet H a y (some v) /\ Q v H) := by
  intro value slice pins s σ H x y v u Q I rx ry h hs
  obtain ⟨a, z, rfl, g, q⟩ := h
  cases rx
  exact tail_any (kO I g) PySem.F.slot_dict_getitem.lookup (oY hu I g ry λ w' s3 I3 rw' => ⟨z, H, I3, rw', q⟩) hs
theorem ix_getG (hu : X.A.units + 1 < cLine) : IxR X aw := IxR.imp (IxR.or nE (IxR.or ix_tup (IxR.or ix_str (ix_dict hu)))) λ x y H Q h => by
  unfold aw at h
  split at h
  . split at h
    . split at h
      . exact .inr (.inr (.inl ⟨_, _, _, rfl, rfl, h.1, by assumption, h.2⟩))
      . exact h.elim
    . exact h.elim
  . split at h
    . split at h
      . split at h
        . exact .inl ⟨_, _, _, _, rfl, rfl, .inl (.inl (by assumption)), by assumption, h⟩
        . exact h.elim
      . exact h.elim
    . split at h
      . split at h
        . exact .inr (.inl ⟨_, _, _, _, rfl, rfl, .inl (.inl (by assumption)), by assumption, h⟩)
        . exact h.elim
      . exact h.elim
    . split at h
      . exact .inr (.inr (.inr ⟨_, _, rfl, d9 (by assumption), h⟩))
      . exact h.elim
  . exact h.elim
def nM (H : Hp) (xs : List V) : Option (List PyData) := xs.mapM (rdD 7 H)
@[irreducible] def inG (neg : Bool) : R2 := λ x y H Q => match y with
  | .ref p => match H p with
    | some (.lst ys) => match nM H ys, rdD 7 H x with
      | some es, some d => Q (.bl (neg ^^ es.any λ e => PyData.eqv e d)) H
      | _, _ => False
    | some (.tup ys) => match nM H ys, rdD 7 H x with
      | some es, some d => Q (.bl (neg ^^ es.any λ e => PyData.eqv e d)) H
      | _, _ => False
    | _ => match cL H p x with
      | some o => Q (.bl (neg ^^ o.isSome)) H
      | _ => False
  | .str j => match x with
    | .str i => Q (.bl (neg ^^ !(Builtin.Str.occurrences j i 0 j.length 1).isEmpty)) H
    | _ => False
  | _ => False
theorem g6 {n : Nat} {d : PyData} {f : Value -> Bool} : ∀ {ys : List V} {us : List Value} {es : List PyData}, Vals ys us -> ys.mapM (rdD n H) = some es -> (∀ y u e, RelV y u -> rdD n H y = some e -> f u = PyData.eqv e d) -> us.any f = es.any λ e => PyData.eqv e d
  | _, _, _, .nil, h, _ => by
    simp at h
    subst h
    rfl
  | y :: ys, u :: us, es, .cons r t, h, hf => by
    rw [mapM_cons] at h
    cases e : rdD n H y with
    | none => rw [e] at h; cases h
    | some z =>
      cases e2 : ys.mapM (rdD n H) with
      | none => rw [e, e2] at h; cases h
      | some r2 =>
        rw [e, e2] at h
        cases h
        rw [List.any_cons, List.any_cons, hf y u z r e, g6 t e2 hf]
def da (n : Nat) (H : Hp) (d : PyData) (u : Value) : Bool := match absV u with
  | some y => match rdD n H y with
    | some e => PyData.eqv e d
    | none => false
  | none => false
theorem i6 {n : Nat} {d e : PyData} {y : V} {u : Value} (r : RelV y u) (h : rdD n H y = some e) : da n H d u = PyData.eqv e d := by
  unfold da
  rw [r.abs]
  simp only [h]
theorem db {n : Nat} {d : PyData} {x : V} {v : Value} {A : Around} (I : Inv X pins σ H s) (hu : A.units + n < cLine) (hx : rdD n H x = some d) (rx : RelV x v) : ∀ {ys : List V} {us : List Value} {es : List PyData}, Vals ys us -> ys.mapM (rdD n H) = some es -> ∀ u ∈ us, SeqAt.EqAt A s u v (da n H d u)
  | _, _, _, .nil, _, u, h => by cases h
  | y :: ys, u :: us, es, .cons r t, h, w, hw => by
    rw [mapM_cons] at h
    cases e : rdD n H y with
    | none => rw [e] at h; cases h
    | some z =>
      cases e2 : ys.mapM (rdD n H) with
      | none => rw [e, e2] at h; cases h
      | some r2 =>
        rcases List.mem_cons.mp hw with rfl | hw
        . rw [i6 r e]
          exact jT I n A y x _ _ _ _ e hx r rx hu
        . exact db I hu hx rx t e2 w hw
theorem in_D {k : Nat} (hr : Room k X.A) {p : Addr} {ys : List V} {es : List PyData} {d : PyData} {x : V} {v : Value} {Q : VK} (I : Inv X pins σ H s) (hp : H p = some (.lst ys) \/ H p = some (.tup ys)) (he : nM H ys = some es) (hx : rdD 7 H x = some d) (rx : RelV x v) :
    (Q (.bl (es.any λ e => PyData.eqv e d)) H -> wpAny (model X.prog X.w) X.A (compareOp .In v (.ref p)) (EP X pins σ Q) X.xe s) ∧
    (Q (.bl (!es.any λ e => PyData.eqv e d)) H -> wpAny (model X.prog X.w) X.A (compareOp .NotIn v (.ref p)) (EP X pins σ Q) X.xe s) := by
  have hu : X.A.in1.units + 7 < cLine := by
    have := hr.un
    rw [bt]
    omega
  rcases hp with hp | hp
  . obtain ⟨its, r, l⟩ := bH I hp
    have ea : its.toArray.any (da 7 H d) = es.any λ e => PyData.eqv e d := by
      rw [show its.toArray.any (da 7 H d) = its.any (da 7 H d) by simp]
      exact g6 r he λ y u e ru hy => i6 ru hy
    refine ⟨λ q => SeqAt.in_listAt (da 7 H d) l (λ w hw => db I hu hx rx r he w (by simpa using hw)) ⟨.bl _, H, I, rfl, ?_⟩, λ q => SeqAt.notIn_listAt (da 7 H d) l (λ w hw => db I hu hx rx r he w (by simpa using hw)) ⟨.bl _, H, I, rfl, ?_⟩⟩ <;> (rw [ea]; exact q)
  . obtain ⟨its, r, l⟩ := cV I hp
    have ea : its.toArray.any (da 7 H d) = es.any λ e => PyData.eqv e d := by
      rw [show its.toArray.any (da 7 H d) = its.any (da 7 H d) by simp]
      exact g6 r he λ y u e ru hy => i6 ru hy
    refine ⟨λ q => SeqAt.in_tupleAt (da 7 H d) l (λ w hw => db I hu hx rx r he w (by simpa using hw)) ⟨.bl _, H, I, rfl, ?_⟩, λ q => SeqAt.notIn_tupleAt (da 7 H d) l (λ w hw => db I hu hx rx r he w (by simpa using hw)) ⟨.bl _, H, I, rfl, ?_⟩⟩ <;> (rw [ea]; exact q)
theorem op_inG {k : Nat} (hr : Room k X.A) : OpR X (compareOp .In) (inG false) := λ pins s σ H x y v u Q I rx ry h => by
  unfold inG at h
  simp only [Bool.false_bne] at h
  split at h
  . cases ry
    split at h
    . split at h
      . exact (in_D hr I (.inl (by assumption)) (by assumption) (by assumption) rx).1 (by simpa using h)
      . exact h.elim
    . split at h
      . exact (in_D hr I (.inr (by assumption)) (by assumption) (by assumption) rx).1 (by simpa using h)
      . exact h.elim
    . split at h
      . exact d_in (hV hr) I (d9 (by assumption)) rx λ s' I' => ⟨.bl _, H, I', rfl, by simpa using h⟩
      . exact h.elim
  . split at h
    . exact oT pins s σ H _ _ v u Q I rx ry ⟨_, _, rfl, rfl, by simpa using h⟩
    . exact h.elim
  . exact h.elim
theorem pD {k : Nat} (hr : Room k X.A) : OpR X (compareOp .NotIn) (inG true) := λ pins s σ H x y v u Q I rx ry h => by
  unfold inG at h
  split at h
  . cases ry
    split at h
    . split at h
      . exact (in_D hr I (.inl (by assumption)) (by assumption) (by assumption) rx).2 (by simpa using h)
      . exact h.elim
    . split at h
      . exact (in_D hr I (.inr (by assumption)) (by assumption) (by assumption) rx).2 (by simpa using h)
      . exact h.elim
    . split at h
      . exact d_notIn (hV hr) I (d9 (by assumption)) rx λ s' I' => ⟨.bl _, H, I', rfl, by simpa using h⟩
      . exact h.elim
  . split at h
    . exact jJ pins s σ H _ _ v u Q I rx ry ⟨_, _, rfl, rfl, by simpa using h⟩
    . exact h.elim
  . exact h.elim
def ltG : R2 := λ x y H Q => match x, y with
  | .int i, .int j => Q (.bl (decide (i < j))) H
  | .str i, .str j => Q (.bl (decide (i.cps.toList < j.cps.toList))) H
  | _, _ => False
def leG : R2 := λ x y H Q => match x, y with
  | .int i, .int j => Q (.bl (decide (i <= j))) H
  | .str i, .str j => Q (.bl (!decide (j.cps.toList < i.cps.toList))) H
  | _, _ => False
def gtG : R2 := λ x y H Q => match x, y with
  | .int i, .int j => Q (.bl (decide (j < i))) H
  | _, _ => False
def geG : R2 := λ x y H Q => match x, y with
  | .int i, .int j => Q (.bl (decide (j <= i))) H
  | _, _ => False
theorem op_ltG : OpR X (compareOp .Lt) ltG := OpR.imp (OpR.or op_lt oS) λ x y H Q h => by
  unfold ltG at h
  split at h
  . exact .inl ⟨_, _, rfl, rfl, h⟩
  . exact .inr ⟨_, _, rfl, rfl, h⟩
  . exact h.elim
theorem op_leG : OpR X (compareOp .LtE) leG := OpR.imp (OpR.or op_le pf) λ x y H Q h => by
  unfold leG at h
  split at h
  . exact .inl ⟨_, _, rfl, rfl, h⟩
  . exact .inr ⟨_, _, rfl, rfl, h⟩
  . exact h.elim
theorem op_gtG : OpR X (compareOp .Gt) gtG := OpR.imp op_gt λ x y H Q h => by
  unfold gtG at h
  split at h
  . exact ⟨_, _, rfl, rfl, h⟩
  . exact h.elim
theorem op_geG : OpR X (compareOp .GtE) geG := OpR.imp op_ge λ x y H Q h => by
  unfold geG at h
  split at h
  . exact ⟨_, _, rfl, rfl, h⟩
  . exact h.elim
def isG (neg : Bool) : R2 := λ x y H Q => match y with
  | .non => Q (.bl (neg ^^ decide (x = .non))) H
  | .bl b => Q (.bl (neg ^^ decide (x = .bl b))) H
  | _ => False
end
section
variable {X : Cx} {pins : List (Addr × Obj)} {σ : St} {H : Hp} {s : Shared}
theorem op_isG : OpR X (compareOp .Is) (isG false) := λ pins s σ H x y v u Q I rx ry h => by
  unfold isG at h
  split at h
  . exact op_isN pins s σ H x _ v u Q I rx ry ⟨rfl, by simpa using h⟩
  . rename_i b
    cases ry
    have e : (v == Value.bool b) = decide (x = .bl b) := by
      cases x <;> first
        | (cases rx; rfl)
        | (obtain ⟨t, rfl⟩ := rx; rfl)
        | (cases rx; rename_i c; cases b <;> cases c <;> rfl)
    refine wpAny_is_plain (by cases x <;> first | (cases rx; rfl) | (obtain ⟨t, rfl⟩ := rx; rfl)) ⟨.bl _, H, I, rfl, ?_⟩
    rw [e]
    simpa using h
  . exact h.elim
theorem pE : OpR X (compareOp .IsNot) (isG true) := λ pins s σ H x y v u Q I rx ry h => by
  unfold isG at h
  split at h
  . exact op_notN pins s σ H x _ v u Q I rx ry ⟨rfl, by simpa using h⟩
  . rename_i b
    cases ry
    have e : (v == Value.bool b) = decide (x = .bl b) := by
      cases x <;> first
        | (cases rx; rfl)
        | (obtain ⟨t, rfl⟩ := rx; rfl)
        | (cases rx; rename_i c; cases b <;> cases c <;> rfl)
    refine wpAny_isNot_plain (by cases x <;> first | (cases rx; rfl) | (obtain ⟨t, rfl⟩ := rx; rfl)) ⟨.bl _, H, I, rfl, ?_⟩
    rw [show (!(v == Value.bool b)) = !decide (x = .bl b) by rw [e]]
    simpa using h
  . exact h.elim
def cmpG : CmpOp -> R2
  | .Eq => eqG | .NotEq => neG | .Lt => ltG | .LtE => leG | .Gt => gtG | .GtE => geG | .In => inG false | .NotIn => inG true | .Is => isG false | .IsNot => isG true
theorem eK {k : Nat} (hr : Room k X.A) : ∀ op, OpR X (compareOp op) (cmpG op)
  | .Eq => op_eqG hr | .NotEq => op_neG hr | .Lt => op_ltG | .LtE => op_leG | .Gt => op_gtG | .GtE => op_geG | .In => op_inG hr | .NotIn => pD hr | .Is => op_isG | .IsNot => pE
@[irreducible] def truH (p : Addr) (H : Hp) (Q : Bool -> Hp -> Prop) : Prop := match H p with
  | some (.lst xs) => Q (!xs.isEmpty) H
  | some (.tup xs) => Q (!xs.isEmpty) H
  | some (.dK kvs) => Q (!kvs.isEmpty) H
  | _ => False
def truG (x : V) (H : Hp) (Q : Bool -> Hp -> Prop) : Prop := match x with
  | .non => Q false H
  | .bl b => Q b H
  | .int i => Q (i != 0) H
  | .str y => y.length <= sizeLine /\ Q ((y.length : Int) != 0) H
  | .ref p => truH p H Q
  | _ => False
theorem truG_of {x : V} {H : Hp} {Q : Bool -> Hp -> Prop} {K : PySem.W.Frag} (h : truG x H Q) : ∃ k, TruV K x H k /\ Q k H := by
  unfold truG at h
  split at h
  . exact ⟨_, rfl, h⟩
  . exact ⟨_, rfl, h⟩
  . exact ⟨_, rfl, h⟩
  . exact ⟨_, ⟨h.1, rfl⟩, h.2⟩
  . unfold truH at h
    split at h
    . exact ⟨_, .inl ⟨_, .inl (.inl (by assumption)), rfl⟩, h⟩
    . exact ⟨_, .inr (.inl ⟨_, .inl (.inl (by assumption)), rfl⟩), h⟩
    . exact ⟨_, .inr (.inr ⟨_, by assumption, rfl⟩), h⟩
    . exact h.elim
  . exact h.elim
def ptG (t : TE) : TT := λ σ H Q => t σ H λ x H1 => truG x H1 Q
theorem pt_G {e : Expr} {t : TE} (h : PE X e t) (he : ∀ whole, isTrue e X.env whole = (do let v ← whole; standAt e.pos; holding [v] (truthy v))) : PT X e (ptG t) := by
  intro pins s σ H Q I q
  rw [he]
  refine wpAny_bind (thn (h pins s σ H _ I q) λ v s1 ⟨x, H1, I1, r1, q1⟩ => wpAny_bind (wpAny_standAt (wpAny_holding ?_)))
  exact tru_ok pins s1 σ H1 x v Q I1 r1 (truG_of q1)
end
def moE (t : TE) : TE := λ σ H Q => ∃ Q0 : VK, t σ H Q0 /\ ∀ v H', Q0 v H' -> Q v H'
def moT (t : TT) : TT := λ σ H Q => ∃ Q0 : Bool -> Hp -> Prop, t σ H Q0 /\ ∀ v H', Q0 v H' -> Q v H'
def moA (t : TA) : TA := λ σ H Q => ∃ Q0 : List V -> Hp -> Prop, t σ H Q0 /\ ∀ v H', Q0 v H' -> Q v H'
section
variable {X : Cx} {e a b c o : Expr} {te ta tb tc to : TE} {t u : TT} {es : List Expr} {tas : TA}
theorem PE.mo (h : PE X e te) : PE X e (moE te) := λ pins s σ H Q I ⟨Q0, q, i⟩ => thn (h pins s σ H Q0 I q) λ v s1 ⟨x, H1, I1, r1, q1⟩ => ⟨x, H1, I1, r1, i x H1 q1⟩
theorem PT.mo (h : PT X e t) : PT X e (moT t) := λ pins s σ H Q I ⟨Q0, q, i⟩ => thn (h pins s σ H Q0 I q) λ v s1 ⟨H1, I1, q1⟩ => ⟨H1, I1, i v H1 q1⟩
theorem PA.mo (h : PA X es tas) : PA X es (moA tas) := λ pos pins s σ H Q I ⟨Q0, q, i⟩ => thn (h pos pins s σ H Q0 I q) λ v s1 ⟨x, H1, I1, r1, q1⟩ => ⟨x, H1, I1, r1, i x H1 q1⟩
def tAndG (ta tb : TE) : TE := λ σ H Q => ta σ H λ x H1 => match x with
  | .bl c => br c (tb σ H1 Q) (Q (.bl false) H1)
  | _ => False
def tOrG (ta tb : TE) : TE := λ σ H Q => ta σ H λ x H1 => match x with
  | .bl c => br c (Q (.bl true) H1) (tb σ H1 Q)
  | _ => False
def tNotG (ta : TE) : TE := λ σ H Q => ta σ H λ x H1 => match x with
  | .bl c => Q (.bl (!c)) H1
  | _ => False
def tIfG (t : TT) (ta tb : TE) : TE := λ σ H Q => t σ H λ c H1 => br c (ta σ H1 Q) (tb σ H1 Q)
variable {rest : List Expr} {pos : Pos}
theorem pe_andG (ha : PE X a ta) (hb : PE X (.BoolOp .And (b :: rest) pos) tb) : PE X (.BoolOp .And (a :: b :: rest) pos) (tAndG ta tb) :=
  PE.imp (pe_and (PE.mo ha) hb) λ σ H Q h => ⟨_, h, λ x H1 q => by
    cases x <;> first | exact ⟨_, rfl, dZ q⟩ | exact q.elim⟩
theorem pe_orG (ha : PE X a ta) (hb : PE X (.BoolOp .Or (b :: rest) pos) tb) : PE X (.BoolOp .Or (a :: b :: rest) pos) (tOrG ta tb) :=
  PE.imp (pe_or (PE.mo ha) hb) λ σ H Q h => ⟨_, h, λ x H1 q => by
    cases x <;> first | exact ⟨_, rfl, dZ q⟩ | exact q.elim⟩
theorem pe_notG (ha : PE X a ta) : PE X (.UnaryOp .Not a pos) (tNotG ta) :=
  PE.imp (pe_not (PE.mo ha)) λ σ H Q h => ⟨_, h, λ x H1 q => by
    cases x <;> first | exact ⟨_, rfl, q⟩ | exact q.elim⟩
theorem pe_ifG (hc : PT X c t) (ha : PE X a ta) (hb : PE X b tb) : PE X (.IfExp c a b pos) (tIfG t ta tb) :=
  PE.imp (pe_ifExp (PT.mo hc) ha hb) λ σ H Q h => ⟨_, h, λ x H1 q => dZ q⟩
def i7 : V -> Hp -> VK -> Prop := λ x H Q => match x with
  | .int i => Q (.int (-i)) H
  | _ => False
theorem un_negG : UnR X (unaryOp .USub) i7 := λ pins s σ H x v Q I r h => by
  cases x <;> first | exact un_neg pins s σ H _ v Q I r ⟨_, rfl, h⟩ | exact h.elim
def fi (r r' : R2) (ta tb tc : TE) : TE := λ σ H Q => ta σ H λ x H1 => tb σ H1 λ y H2 => r x y H2 λ z H3 => match z with
  | .bl k => br k (tc σ H3 λ w' H4 => r' y w' H4 Q) (Q (.bl false) H3)
  | _ => False
def moR (r : R2) : R2 := λ x y H Q => ∃ Q0 : VK, r x y H Q0 /\ ∀ v H', Q0 v H' -> Q v H'
theorem OpR.mo {f : Value -> Value -> Sem Value} {r : R2} (h : OpR X f r) : OpR X f (moR r) := λ pins s σ H x y v u Q I rx ry ⟨Q0, q, i⟩ => thn (h pins s σ H x y v u Q0 I rx ry q) λ w' s1 ⟨z, H1, I1, r1, q1⟩ => ⟨z, H1, I1, r1, i z H1 q1⟩
theorem pF {op op' : CmpOp} {r r' : R2} (ho : OpR X (compareOp op) r) (ho' : OpR X (compareOp op') r') (ha : PE X a ta) (hb : PE X b tb) (hc : PE X c tc) (hm : lastMarks [op, op'] [b, c] = false) : PE X (.Compare a [op, op'] [b, c] pos) (fi r r' ta tb tc) :=
  PE.imp (pe_chain (OpR.mo ho) ho' (PE.mo ha) (PE.mo hb) hc hm) λ σ H Q h => ⟨_, h, λ x H1 q => ⟨_, q, λ y H2 q2 => ⟨_, q2, λ z H3 q3 => by
    cases z <;> first | exact ⟨_, rfl, dZ q3⟩ | exact q3.elim⟩⟩⟩
def bT (t : TE) : TT := λ σ H Q => t σ H λ x H1 => match x with
  | .bl k => Q k H1
  | _ => False
theorem pt_cmpG {op : CmpOp} {r : R2} (ho : OpR X (compareOp op) r) (ha : PE X a ta) (hb : PE X b tb) (hm : behindInMarks op b = false) : PT X (.Compare a [op] [b] pos) (bT (tOp r ta tb)) :=
  PT.imp (pt_cmpR (OpR.mo ho) (PE.mo ha) (PE.mo hb) hm) λ σ H Q h => ⟨_, h, λ x H1 q => ⟨_, q, λ y H2 q2 => ⟨_, q2, λ z H3 q3 => by
    cases z <;> first | exact ⟨_, rfl, q3⟩ | exact q3.elim⟩⟩⟩
theorem pG {op op' : CmpOp} {r r' : R2} (ho : OpR X (compareOp op) r) (ho' : OpR X (compareOp op') r') (ha : PE X a ta) (hb : PE X b tb) (hc : PE X c tc) (hm : lastMarks [op, op'] [b, c] = false) : PT X (.Compare a [op, op'] [b, c] pos) (bT (fi r r' ta tb tc)) :=
  PT.imp (pt_chain (OpR.mo ho) (OpR.mo ho') (PE.mo ha) (PE.mo hb) (PE.mo hc) hm) λ σ H Q h => ⟨_, h, λ x H1 q => ⟨_, q, λ y H2 q2 => ⟨_, q2, λ z H3 q3 => by
    cases z with
    | bl k =>
      refine ⟨k, rfl, ?_⟩
      have q3 := dZ q3
      cases k with
      | true => exact ⟨_, q3, λ w' H4 q4 => ⟨_, q4, λ z' H5 q5 => by cases z' <;> first | exact ⟨_, rfl, q5⟩ | exact q5.elim⟩⟩
      | false => exact ⟨false, rfl, q3⟩
    | _ => exact q3.elim⟩⟩⟩
def e9 (t u : TT) : TT := λ σ H Q => t σ H λ c H1 => br c (u σ H1 Q) (Q false H1)
def mt (t u : TT) : TT := λ σ H Q => t σ H λ c H1 => br c (Q true H1) (u σ H1 Q)
theorem pw_andB (ha : PT X a t) (hb : PW X (.BoolOp .And (b :: rest) pos) u) : PW X (.BoolOp .And (a :: b :: rest) pos) (e9 t u) := λ wh pins s σ H Q I h =>
  pw_and (PT.mo ha) hb wh pins s σ H Q I ⟨_, h, λ c H1 q => dZ q⟩
theorem pw_orB (ha : PT X a t) (hb : PW X (.BoolOp .Or (b :: rest) pos) u) : PW X (.BoolOp .Or (a :: b :: rest) pos) (mt t u) := λ wh pins s σ H Q I h =>
  pw_or (PT.mo ha) hb wh pins s σ H Q I ⟨_, h, λ c H1 q => dZ q⟩
@[irreducible] def fldK (cl : Addr) (f : Str) (x : V) (H1 : Hp) (Q : VK) : Prop := match x with
  | .ref p => match H1 p with
    | some (.ins C dx fs) => C = cl /\ match fs.lookup f with
      | some v => Q v H1
      | none => False
    | _ => False
  | _ => False
def i8 (cl : Addr) (f : Str) (to : TE) : TE := λ σ H Q => to σ H λ x H1 => fldK cl f x H1 Q
theorem pe_fldG {cl : Addr} {f : Str} (cc : Cls X.K cl) (n : NoAttr X.K cl f) (ho : PE X o to) (hb : attributeBase o f X.env (eval o X.env) = eval o X.env) : PE X (.Attribute o f pos) (i8 cl f to) :=
  PE.imp (pe_fld0 cc n (PE.mo ho) hb) λ σ H Q h => ⟨_, h, λ x H1 q => by
    unfold fldK at q
    split at q
    . split at q
      . obtain ⟨rfl, q⟩ := q
        split at q
        . exact ⟨_, _, _, _, rfl, by assumption, by assumption, q⟩
        . exact q.elim
      . exact q.elim
    . exact q.elim⟩
@[irreducible] def nN (cl : Addr) (m : Str) (x : V) (H1 : Hp) (R : Prop) : Prop := match x with
  | .ref p => match H1 p with
    | some (.ins C dx fs) => C = cl /\ fs.lookup m = none /\ R
    | _ => False
  | _ => False
def ee (cl : Addr) (m : Str) (sp : Sp) (E : XK) (to : TE) (t : TA) : TE := λ σ H Q => to σ H λ x H1 => nN cl m x H1 (t σ H1 λ vs H2 => sp (x :: (vs ++ [])) H2 Q E)
def bi : Expr -> Bool
  | .Call (.Name id _) [] [] _ => id != "super"
  | _ => true
theorem cM {f : Str} {env : Env} {w : Sem Value} (h : bi o = true) : attributeBase o f env w = w := by
  unfold attributeBase
  split
  . rename_i id _ _
    have h' : (id != "super") = true := h
    simp [h']
  . rfl
end
def dictO : HO -> Bool
  | .dK _ => true
  | .dT _ => true
  | _ => false
abbrev Th := Option (Addr × HO)
def NF (X : Cx) (a : Addr) : Prop := ∀ o u, X.H₀ a ≠ some (.frz o u)
section
variable {X : Cx} {pins : List (Addr × Obj)} {σ : St} {H : Hp} {s : Shared} {a : Addr} {u : HO} {o : Obj}
theorem obj_at (hd : dictO u = true) {P : Program} {w : World} {h : Heap} (x : ObjOk P w H h a u) : ∃ o, h.get? a = some o := by
  cases u <;> first | (cases hd; done) | skip
  . obtain ⟨_, _, vs, _, ob, es, ep, e, _⟩ := x
    exact ⟨ob, e⟩
  . obtain ⟨_, _, xs, _, ob, es, ep, e, _⟩ := x
    exact ⟨ob, e⟩
theorem kY {v u' : HO} (I : Inv X pins σ H s) (h : H a = some v) (hv : ∀ xs, v ≠ .tup xs) (ho : ∀ b, v ≠ .own b) (hb : ∀ ps, v ≠ .tbl ps) (nf : (∀ o u, v ≠ .frz o u) \/ NF X a) (new : ObjOk X.prog X.w H s.heap a u') : Inv X pins σ (upd H a u') s := by
  have ne : ∀ b w, H b = some w -> w ≠ v -> b ≠ a := λ b w e hw z => by
    rw [z, h] at e
    cases e
    exact hw rfl
  have non : ∀ b, H b = none -> b ≠ a := λ b e z => by rw [z, h] at e; cases e
  have ou : ∀ b c, H b = some (.own c) -> upd H a u' b = some (.own c) := λ b c e => by
    rw [a4 (ne b _ e λ z => ho _ z.symm)]
    exact e
  have tu : ∀ b xs, H b = some (.tup xs) -> upd H a u' b = some (.tup xs) := λ b xs e => by
    rw [a4 (ne b _ e λ z => hv _ z.symm)]
    exact e
  refine ⟨I.ok, I.os, I.bare, ?_, I.loc, I.cell, ?_, λ x c e => ?_, λ p hp => ?_, λ b w e => ?_, I.len⟩
  . refine ⟨I.base.keep, I.base.slot, λ b ob e n x => ?_, I.base.there, λ b xs e => tu b xs (I.base.tups b xs e), λ b ob w e => ?_, λ b ps e => ?_⟩
    . have := I.base.free b ob e n x
      rw [a4 (non b this)]
      exact this
    . have q := I.base.frzs b ob w e
      by_cases z : b = a
      . subst z
        rcases nf with nf | nf
        . rw [h] at q
          cases q
          exact absurd rfl (nf _ _)
        . exact absurd e (nf _ _)
      . rw [a4 z]
        exact q
    . obtain ⟨more, q⟩ := I.base.tbls b ps e
      refine ⟨more, ?_⟩
      rw [a4 (ne b _ q λ z => hb _ z.symm)]
      exact q
  . rw [a4 (non _ I.free)]
    exact I.free
  . rw [a4 (non _ (I.freeC x c e))]
    exact I.freeC x c e
  . obtain ⟨p1, p2, r⟩ := I.pin p hp
    refine ⟨p1, ?_, r⟩
    rw [a4 (non _ p2)]
    exact p2
  . by_cases z : b = a
    . subst z
      rw [a5] at e
      cases e
      exact new.stay (λ _ _ _ q => q) (λ c q => ou c _ q) tu
    . rw [a4 z] at e
      exact (I.hok b w e).stay (λ _ _ _ q => q) (λ c q => ou c _ q) tu
theorem dm (I : Inv X pins σ H s) (h : H a = some u) (hd : dictO u = true) : NF X a /\ ∃ o, s.heap.get? a = some o /\ Inv X pins σ (upd H a (.frz o u)) s := by
  have ok := I.hok a u h
  obtain ⟨o, e⟩ := obj_at hd ok
  have nf : ∀ o v, u ≠ .frz o v := λ o v z => by rw [z] at hd; cases hd
  refine ⟨λ ob v z => ?_, o, e, ?_⟩
  . have := I.base.frzs a ob v z
    rw [h] at this
    cases this
    exact nf _ _ rfl
  . exact kY I h (λ xs z => by rw [z] at hd; cases hd) (λ xs z => by rw [z] at hd; cases hd) (λ xs z => by rw [z] at hd; cases hd) (.inl nf) ⟨e, ok⟩
theorem eg (I : Inv X pins σ H s) (h : H a = some (.frz o u)) (nf : NF X a) : Inv X pins σ (upd H a u) s := by
  obtain ⟨_, ok⟩ := I.hok a _ h
  exact kY I h (λ xs z => by cases z) (λ xs z => by cases z) (λ xs z => by cases z) (.inr nf) ok
end
abbrev TI2 := St -> Hp -> (It -> Hp -> Th -> Prop) -> Prop
def iX (X : Cx) (pins : List (Addr × Obj)) (σ : St) (tg : Expr) (R : It -> Hp -> Th -> Prop) (itv : Value) (s2 : Shared) : Prop := ∃ th : Th, (∀ a u, th = some (a, u) -> NF X a) /\ PIE X pins σ tg (λ J H => R J H th) itv s2
def PI2 (X : Cx) (tg iter : Expr) (wi : TI2) : Prop :=
  ∀ (pins : List (Addr × Obj)) (s : Shared) (σ : St) (H : Hp) (R : It -> Hp -> Th -> Prop), Inv X pins σ H s -> wi σ H R →
    wpAny (model X.prog X.w) X.A (eval iter X.env) (λ v s1 => wpAny (model X.prog X.w) X.A (pyIter v) (iX X pins σ tg R) X.xe s1) X.xe s
def thD (th : Th) (D : Ends) : Ends := match th with
  | none => D
  | some (a, u) => ⟨λ σ H => (∃ o, H a = some (.frz o u)) /\ D.nx σ (upd H a u), λ v H => (∃ o, H a = some (.frz o u)) /\ D.rt v (upd H a u), λ σ H => (∃ o, H a = some (.frz o u)) /\ D.bk σ (upd H a u), λ σ H => (∃ o, H a = some (.frz o u)) /\ D.ct σ (upd H a u)⟩
def thQ (th : Th) (Q : VK) : VK := match th with
  | none => Q
  | some (a, u) => λ v H => (∃ o, H a = some (.frz o u)) /\ Q v (upd H a u)
@[irreducible] def bQ (J : It) (g : TG) (tb : TS) (D : Ends) (σ : St) (H : Hp) : Prop := ∃ W : Nat -> Nat -> St -> Hp -> Prop, (∃ m, W 0 m σ H) /\ ∀ i m σ H, W i m σ H →
  (J.stop i H /\ D.nx σ H) \/ (J.go i H /\ ∃ N : St -> Hp -> Prop, (∀ σ' H', N σ' H' -> ∃ m', m' < m /\ W (i + 1) m' σ' H') /\ ∀ x H', J.yld i H x H' -> g x σ H' λ σ2 H2 => tb { D with nx := N, ct := N, bk := D.nx } σ2 H2)
@[irreducible] def bF (J : It) (tn : List Str) (fr : List (Str × Nat)) (g : TG) (tt : TT) (te : TE) (σ : St) (H1 : Hp) (Q : VK) : Prop := ∀ p, H1 p = none →
  ∃ W : Nat -> Nat -> Hp -> Prop, (∃ m, W 0 m (upd H1 p (.lst []))) /\ ∀ i m G, W i m G →
    (J.stop i G /\ Q (.ref p) G) \/ (J.go i G /\ ∃ N : Hp -> Prop, (∀ G', N G' -> ∃ m', m' < m /\ W (i + 1) m' G') /\ ∀ x G', J.yld i G x G' →
      g x (inn tn fr σ) G' λ σ2 G2 => tt σ2 G2 λ b G3 => br b (te σ2 G3 λ y G4 => ∃ ys, G4 p = some (.lst ys) /\ ys.length < sizeLine /\ N (upd G4 p (.lst (ys ++ [y])))) (N G3))
@[irreducible] def aN (wi : TI2) (g : TG) (tb : TS) : TS := λ D σ H => wi σ H λ J H1 th => bQ J g tb (thD th D) σ H1
@[irreducible] def aZ (wi : TI2) (tn : List Str) (fr : List (Str × Nat)) (g : TG) (tt : TT) (te : TE) : TE := λ σ H Q => wi σ H λ J H1 th => bF J tn fr g tt te σ H1 (thQ th Q)
theorem ap {wi : TI2} {g : TG} {tb : TS} {D : Ends} {σ : St} {H : Hp} (h : wi σ H λ J H1 th => bQ J g tb (thD th D) σ H1) : aN wi g tb D σ H := by
  unfold aN
  exact h
theorem bI {wi : TI2} {tn : List Str} {fr : List (Str × Nat)} {g : TG} {tt : TT} {te : TE} {σ : St} {H : Hp} {Q : VK} (h : wi σ H λ J H1 th => bF J tn fr g tt te σ H1 (thQ th Q)) : aZ wi tn fr g tt te σ H Q := by
  unfold aZ
  exact h
def Ends.le (D D' : Ends) : Prop := (∀ σ H, D.nx σ H -> D'.nx σ H) /\ (∀ v H, D.rt v H -> D'.rt v H) /\ (∀ σ H, D.bk σ H -> D'.bk σ H) /\ ∀ σ H, D.ct σ H -> D'.ct σ H
def moS (t : TS) : TS := λ D σ H => ∃ D0 : Ends, t D0 σ H /\ Ends.le D0 D
def moG (g : TG) : TG := λ v σ H Q => ∃ Q0 : St -> Hp -> Prop, g v σ H Q0 /\ ∀ σ' H', Q0 σ' H' -> Q σ' H'
section
variable {X : Cx} {tg it : Expr}
theorem SP.le {pins : List (Addr × Obj)} {D D' : Ends} {f : Flow} {s : Shared} (h : SP X pins D f s) (l : Ends.le D D') : SP X pins D' f s := by
  cases f with
  | next => obtain ⟨σ, H, I, q⟩ := h; exact ⟨σ, H, I, l.1 _ _ q⟩
  | brk => obtain ⟨σ, H, I, q⟩ := h; exact ⟨σ, H, I, l.2.2.1 _ _ q⟩
  | cont => obtain ⟨σ, H, I, q⟩ := h; exact ⟨σ, H, I, l.2.2.2 _ _ q⟩
  | ret u => obtain ⟨v, σ, H, I, r, q⟩ := h; exact ⟨v, σ, H, I, r, l.2.1 _ _ q⟩
theorem PSs.mo {ss : List Stmt} {t : TS} (h : PSs X ss t) : PSs X ss (moS t) := λ pins s σ H D I ⟨D0, q, l⟩ => thn (h pins s σ H D0 I q) λ f s' sp => SP.le sp l
theorem PG.mo {g : TG} (h : PG X tg g) : PG X tg (moG g) := λ pins s σ H v u Q I r ⟨Q0, q, l⟩ => thn (h pins s σ H v u Q0 I r q) λ _ s' ⟨σ', H', I', q'⟩ => ⟨σ', H', I', l _ _ q'⟩
def anyD (X : Cx) (D : Ends) : Ends := ⟨λ σ H => D.nx σ H \/ ∃ a o u, NF X a /\ H a = some (.frz o u) /\ D.nx σ (upd H a u), λ v H => D.rt v H \/ ∃ a o u, NF X a /\ H a = some (.frz o u) /\ D.rt v (upd H a u),
  λ σ H => D.bk σ H \/ ∃ a o u, NF X a /\ H a = some (.frz o u) /\ D.bk σ (upd H a u), λ σ H => D.ct σ H \/ ∃ a o u, NF X a /\ H a = some (.frz o u) /\ D.ct σ (upd H a u)⟩
theorem thD_any {th : Th} {D : Ends} (hn : ∀ a u, th = some (a, u) -> NF X a) : Ends.le (thD th D) (anyD X D) := by
  cases th with
  | none => exact ⟨λ _ _ h => .inl h, λ _ _ h => .inl h, λ _ _ h => .inl h, λ _ _ h => .inl h⟩
  | some p =>
    obtain ⟨a, u⟩ := p
    have nf := hn a u rfl
    exact ⟨λ _ _ ⟨⟨o, e⟩, h⟩ => .inr ⟨a, o, u, nf, e, h⟩, λ _ _ ⟨⟨o, e⟩, h⟩ => .inr ⟨a, o, u, nf, e, h⟩, λ _ _ ⟨⟨o, e⟩, h⟩ => .inr ⟨a, o, u, nf, e, h⟩, λ _ _ ⟨⟨o, e⟩, h⟩ => .inr ⟨a, o, u, nf, e, h⟩⟩
theorem SP.thaw {pins : List (Addr × Obj)} {D : Ends} {f : Flow} {s : Shared} (h : SP X pins (anyD X D) f s) : SP X pins D f s := by
  cases f with
  | next =>
    obtain ⟨σ, H, I, q | ⟨a, o, u, nf, e, q⟩⟩ := h
    . exact ⟨σ, H, I, q⟩
    . exact ⟨σ, _, eg I e nf, q⟩
  | brk =>
    obtain ⟨σ, H, I, q | ⟨a, o, u, nf, e, q⟩⟩ := h
    . exact ⟨σ, H, I, q⟩
    . exact ⟨σ, _, eg I e nf, q⟩
  | cont =>
    obtain ⟨σ, H, I, q | ⟨a, o, u, nf, e, q⟩⟩ := h
    . exact ⟨σ, H, I, q⟩
    . exact ⟨σ, _, eg I e nf, q⟩
  | ret v =>
    obtain ⟨w, σ, H, I, r, q | ⟨a, o, u, nf, e, q⟩⟩ := h
    . exact ⟨w, σ, H, I, r, q⟩
    . exact ⟨w, σ, _, eg I e nf, r, q⟩
def oldI (X : Cx) (wi : TI2) : TI := λ σ H R => ∃ R0 : It -> Hp -> Th -> Prop, wi σ H R0 /\ ∀ J H1 th, (∀ a u, th = some (a, u) -> NF X a) -> R0 J H1 th -> R J H1
theorem mv {wi : TI2} (h : PI2 X tg it wi) : PI X tg it (oldI X wi) := λ pins s σ H R I ⟨R0, q, l⟩ => thn (h pins s σ H R0 I q) λ v s1 h1 => thn h1 λ itv s2 ⟨th, nf, a, b, c, d, e, f, g, i, j, k, m⟩ => ⟨a, b, c, d, e, f, g, i, j, k, l _ _ _ nf m⟩
theorem ps_for2 {wi : TI2} {g : TG} {tb : TS} {body : List Stmt} {pos : Pos} (hp : PassesOwn (model X.prog X.w) X.A X.env X.xe) (hc : X.calm = true) (hi : PI2 X tg it wi) (hg : PG X tg g) (hb : PSs X body tb)
    (hs : ∀ x, foldedSetIterable it X.env x = pure x) : PS X (.For tg it body [] pos) (aN wi g tb) := by
  intro pins s σ H D I h
  unfold aN at h
  refine thn (ps_for hp hc (mv hi) (PG.mo hg) (PSs.mo hb) hs pins s σ H (anyD X D) I ⟨_, h, λ J H1 th nf q => ?_⟩) λ f s' sp => SP.thaw sp
  have le := thD_any (X := X) (D := D) nf
  unfold bQ at q
  obtain ⟨W, h0, hs⟩ := q
  refine ⟨W, h0, λ i m σ H w => ?_⟩
  rcases hs i m σ H w with ⟨st, nx⟩ | ⟨go, N, hN, step⟩
  . exact .inl ⟨st, le.1 _ _ nx⟩
  . exact .inr ⟨go, N, hN, λ x H' y => ⟨_, step x H' y, λ σ2 H2 q => ⟨_, q, λ _ _ z => z, le.2.1, le.1, λ _ _ z => z⟩⟩⟩
def anyQ (X : Cx) (Q : VK) : VK := λ v H => Q v H \/ ∃ a o u, NF X a /\ H a = some (.frz o u) /\ Q v (upd H a u)
theorem thQ_any {th : Th} {Q : VK} (hn : ∀ a u, th = some (a, u) -> NF X a) : ∀ v H, thQ th Q v H -> anyQ X Q v H := by
  cases th with
  | none => exact λ _ _ h => .inl h
  | some p =>
    obtain ⟨a, u⟩ := p
    exact λ _ _ ⟨⟨o, e⟩, h⟩ => .inr ⟨a, o, u, hn a u rfl, e, h⟩
theorem jo {wi : TI2} {tn : List Str} {fr : List (Str × Nat)} {g : TG} {tt : TT} {te : TE} {σ : St} {H : Hp} {Q : VK} (h : aZ wi tn fr g tt te σ H Q) : nI (oldI X wi) tn fr g tt te σ H (anyQ X Q) := by
  unfold aZ at h
  refine ⟨_, h, λ J H1 th nf q => ?_⟩
  unfold bF at q
  intro p hp
  obtain ⟨W, h0, hs⟩ := q p hp
  refine ⟨W, h0, λ i m G w => ?_⟩
  rcases hs i m G w with ⟨st, q⟩ | r
  . exact .inl ⟨st, thQ_any nf _ _ q⟩
  . exact .inr r
end
def Itd (a : Addr) (o : Obj) (kvs : List (Key × V)) : It := ⟨λ i H => H a = some (.frz o (.dK kvs)) /\ i < kvs.length, λ i H x H' => H' = H /\ ∃ k v, kvs[i]? = some (k, v) /\ x = kV k, λ i H => H a = some (.frz o (.dK kvs)) /\ kvs.length <= i⟩
def Itp (a : Addr) (o : Obj) (kvs : List (Key × V)) : It := ⟨λ i H => H a = some (.frz o (.dK kvs)) /\ i < kvs.length, λ i H x H' => ∃ k v t, kvs[i]? = some (k, v) /\ x = .ref t /\ H t = none /\ H' = upd H t (.tup [kV k, v]), λ i H => H a = some (.frz o (.dK kvs)) /\ kvs.length <= i⟩
theorem jU {P : Program} {w : World} {k : Key} {v : Value} (h : (ao P w).is k v = true) : RelV (kV k) v := by
  rcases aG (show gR k v = true from h) with ⟨i, t, rfl, rfl⟩ | ⟨x, t, rfl, rfl⟩
  . exact ⟨t, rfl⟩
  . exact ⟨t, rfl⟩
theorem KV.get {kvs : List (Key × V)} {vs : List (Key × Value)} : KV kvs vs -> ∀ {i : Nat} {k : Key} {v : V}, kvs[i]? = some (k, v) -> ∃ u, vs[i]? = some (k, u) /\ RelV v u := by
  intro r
  induction r with
  | nil => intro i k v h; simp at h
  | cons h t ih =>
    intro i k v e
    cases i with
    | zero =>
      rename_i p b ps bs
      obtain ⟨kb, ub⟩ := b
      obtain ⟨kp, vp⟩ := p
      simp at e
      obtain ⟨rfl, rfl⟩ := e
      obtain ⟨e1, e2⟩ := h
      simp only at e1 e2
      subst e1
      exact ⟨ub, rfl, e2⟩
    | succ i => exact ih (by simpa using e)
section
variable {P : Program} {w : World} {K : PySem.W.Frag} {tg : Expr}
theorem i9 {h : Heap} {a : Addr} {o : Obj} {vs : List (Key × Value)} {ep : Nat} (e : h.get? a = some o) (d : h.DictAt (ao P w) a vs ep) : ∀ h' : Heap, h'.get? a = some o -> h'.DictAt (ao P w) a vs ep := λ h' e' => d.at' λ o' q => by
  rw [e] at q
  cases q
  exact e'
theorem pH (it a : Addr) (o : Obj) {kvs : List (Key × V)} {vs : List (Key × Value)} {ep : Nat} (r : KV kvs vs) (hD : ∀ h : Heap, h.get? a = some o -> h.DictAt (ao P w) a vs ep) :
    Turn P w K tg (Itd a o kvs) [it] it (λ i h => h.IsKeyIter it a i vs.length ep) where
  mem := by simp
  obj := λ i h st b hb => by
    have e : b = it := by simpa using hb
    subst e
    obtain ⟨o, e, c, d⟩ := st
    exact ⟨o, e, λ v z => by rw [d] at z; cases z⟩
  keep := λ i h h' st k => st.at λ o e => k it (by simp) o e
  item := by
    intro X hP hw hK hc i pins s σ H E I hf st hg
    subst hP hw hK
    obtain ⟨f0, f1, f2, f3, f4, f5⟩ := hf it (by simp)
    obtain ⟨ha, hi⟩ := hg
    obtain ⟨eo, _⟩ := I.hok a _ ha
    obtain ⟨⟨k, v⟩, hx⟩ : ∃ p, kvs[i]? = some p := ⟨kvs[i], by simp [hi]⟩
    obtain ⟨u, hu, ru⟩ := KV.get r hx
    refine wpAny_pyNext_dict_item st (hD _ eo) hu λ key h' hkey hit' hs' => ?_
    have I1 : Inv X pins σ H { s with heap := h' } := I.turned (t' := s.toks) (λ b o hb e => hs'.extBut b o hb e) f0 f1 f3 f4 f5
    obtain ⟨ob, e, c, d⟩ := id hit'
    exact ⟨key, rfl, gU (s := { s with heap := h' }) e c d (by decide) ⟨kV k, H, I1, jU hkey, ⟨rfl, k, v, hx, rfl⟩, hit', λ b hb => (hf b hb).1⟩⟩
  done := by
    intro X hP hw hK hc i pins s σ H E I hf st hg
    subst hP hw hK
    obtain ⟨f0, f1, f2, f3, f4, f5⟩ := hf it (by simp)
    obtain ⟨ha, hi⟩ := hg
    obtain ⟨eo, _⟩ := I.hok a _ ha
    have hl := KV.length r
    exact wpAny_pyNext_dict_end (I.ok.hd hc) st (hD _ eo) (by simp; omega) λ h' eb => ⟨rfl, I.turned (t' := s.toks) (λ b o hb e => eb b o hb e) f0 f1 f3 f4 f5⟩
  self := λ _ _ _ _ _ st h => wpAny_pyIter_keyiter st h
theorem mw {es : List Expr} {k1 : Nat} {pos : Pos} (it a : Addr) (o : Obj) {kvs : List (Key × V)} {vs : List (Key × Value)} {ep : Nat} (r : KV kvs vs) (hD : ∀ h : Heap, h.get? a = some o -> h.DictAt (ao P w) a vs ep) :
    Turn P w K (.Tuple es k1 pos) (Itp a o kvs) [it] it (λ i h => ∃ ok ov, IsItemIter h it a i vs.length ep ok ov) where
  mem := by simp
  obj := λ i h st b hb => by
    have e : b = it := by simpa using hb
    subst e
    obtain ⟨ok, ov, e⟩ := st
    exact ⟨_, e, λ v z => by cases z⟩
  keep := λ i h h' ⟨ok, ov, e⟩ k => ⟨ok, ov, k it (by simp) _ e⟩
  item := by
    intro X hP hw hK hc i pins s σ H E I hf st hg
    subst hP hw hK
    obtain ⟨f0, f1, f2, f3, f4, f5⟩ := hf it (by simp)
    obtain ⟨ha, hi⟩ := hg
    obtain ⟨eo, _⟩ := I.hok a _ ha
    obtain ⟨⟨k, v⟩, hx⟩ : ∃ p, kvs[i]? = some p := ⟨kvs[i], by simp [hi]⟩
    obtain ⟨u, hu, ru⟩ := KV.get r hx
    obtain ⟨ok, ov, st⟩ := st
    refine wpAny_pyNext_items_item st (hD _ eo) hu λ key h' hkey hit' ht hsz kp => ⟨_, rfl, ?_⟩
    refine wpAny_letOwnedTupleGo_items hit' λ h2 hit2 sb => ?_
    have hT : s.heap.objs.size ≠ it := Nat.ne_of_gt (Heap.lt_size st)
    have e2 : h2.get? s.heap.objs.size = some { cls := .type "tuple", data := .seq #[key, u] } := sb.extBut _ _ hT ht
    have I1 : Inv X pins σ H { s with heap := h2 } := I.turned (t' := s.toks) (λ b o hb e => sb.extBut b o hb (kp b o hb e)) f0 f1 f3 f4 f5
    have hn : H s.heap.objs.size = none := I.hok.fresh (Nat.le_refl _)
    refine ⟨.ref s.heap.objs.size, upd H s.heap.objs.size (.tup [kV k, v]), ?_, rfl, ⟨k, v, _, hx, rfl, hn, rfl⟩, ⟨key, u, hit2⟩, λ b hb => ?_⟩
    . have new : ObjOk X.prog X.w (upd H s.heap.objs.size (.tup [kV k, v])) h2 s.heap.objs.size (.tup [kV k, v]) := ⟨by show 2 <= sizeLine; decide, [key, u], .cons (jU hkey) (.cons ru .nil), _, e2, rfl, _, rfl⟩
      refine ⟨I1.ok, I1.os, I1.bare, ?_, I1.loc, I1.cell, ?_, λ x c e => ?_, λ p hp => ?_, λ b w e => ?_, I1.len⟩
      . refine ⟨I1.base.keep, I1.base.slot, λ b ob e n x => ?_, I1.base.there, λ b xs e => ?_, λ b ob w e => ?_, λ b ps e => ?_⟩
        . have q := I1.base.free b ob e n x
          by_cases z : b = s.heap.objs.size
          . subst z
            exact absurd (Nat.lt_of_lt_of_le (Heap.lt_size e) I.sz) (Nat.lt_irrefl _)
          . rw [a4 z]
            exact q
        . have q := I1.base.tups b xs e
          rw [a4 (ai q hn)]
          exact q
        . have q := I1.base.frzs b ob w e
          rw [a4 (ai q hn)]
          exact q
        . obtain ⟨more, q⟩ := I1.base.tbls b ps e
          exact ⟨more, by rw [a4 (ai q hn)]; exact q⟩
      . rw [a4 (Nat.ne_of_lt I.lt)]
        exact I1.free
      . have : c ≠ s.heap.objs.size := by
          obtain ⟨v, ob, ho, _⟩ := I.cell x c e
          exact Nat.ne_of_lt (Heap.lt_size ho)
        rw [a4 this]
        exact I1.freeC x c e
      . obtain ⟨p1, p2, q⟩ := I1.pin p hp
        refine ⟨p1, ?_, q⟩
        have : p.1 ≠ s.heap.objs.size := Nat.ne_of_lt (Heap.lt_size (I.pin p hp).1)
        rw [a4 this]
        exact p2
      . by_cases z : b = s.heap.objs.size
        . subst z
          rw [a5] at e
          cases e
          exact new
        . rw [a4 z] at e
          refine (I1.hok b w e).stay (λ _ _ _ q => q) (λ c q => ?_) λ c xs q => ?_
          . rw [a4 (ai q hn)]
            exact q
          . rw [a4 (ai q hn)]
            exact q
    . have e : b = it := by simpa using hb
      subst e
      rw [a4 (Ne.symm hT)]
      exact f0
  done := by
    intro X hP hw hK hc i pins s σ H E I hf st hg
    subst hP hw hK
    obtain ⟨f0, f1, f2, f3, f4, f5⟩ := hf it (by simp)
    obtain ⟨ha, hi⟩ := hg
    obtain ⟨eo, _⟩ := I.hok a _ ha
    have hl := KV.length r
    obtain ⟨ok, ov, st⟩ := st
    exact wpAny_pyNext_items_end (I.ok.hd hc) st (hD _ eo) (by simp; omega) λ h' eb => ⟨rfl, I.turned (t' := s.toks) (λ b o hb e => eb b o hb e) f0 f1 f3 f4 f5⟩
  self := λ A i s Q E st h => by
    obtain ⟨ok, ov, st⟩ := st
    exact PySem.W.kcp_self st h
end
section
variable {X : Cx} {pins : List (Addr × Obj)} {σ : St} {H : Hp} {s : Shared}
theorem frz_at (I : Inv X pins σ H s) {a : Addr} {o : Obj} {kvs : List (Key × V)} (h : H a = some (.frz o (.dK kvs))) : (a == sysModules) = false /\ kvs.length <= sizeLine /\ s.heap.get? a = some o /\ ∃ vs ep, KV kvs vs /\ s.heap.DictAt (ao X.prog X.w) a vs ep := by
  obtain ⟨e, z, lo, vs, r, d⟩ := I.hok a _ h
  obtain ⟨ep, d⟩ := d.dictAt
  exact ⟨lo, z, e, vs, ep, r, d⟩
theorem pI {kvs : List (Key × V)} {vs : List (Key × Value)} {us : List Value} (r : KV kvs vs) (hl : us.length = vs.length) (h : ∀ (j : Nat) (u : Value), us[j]? = some u -> ∃ k x, vs[j]? = some (k, x) /\ (ao X.prog X.w).is k u = true) : Vals (kvs.map λ kv => kV kv.1) us := by
  induction r generalizing us with
  | nil =>
    cases us with
    | nil => exact .nil
    | cons a b => simp at hl
  | cons hp t ih =>
    rename_i p b ps bs
    cases us with
    | nil => simp at hl
    | cons u us =>
      obtain ⟨k, x, e, hk⟩ := h 0 u rfl
      simp at e
      subst e
      rw [List.map_cons]
      refine .cons ?_ (ih (by simpa using hl) λ j w hj => h (j + 1) w (by simpa using hj))
      rw [hp.1]
      exact jU hk
theorem jp (hc : X.calm = true) (I : Inv X pins σ H s) {a : Addr} {kvs : List (Key × V)} (h : Rd H a (.dK kvs)) {Q : VK} (q : newO H (.lst (kvs.map λ kv => kV kv.1)) Q) : wpAny (model X.prog X.w) X.A (call (.type "list") [.ref a]) (EP X pins σ Q) X.xe s := by
  obtain ⟨z, lo, vs, r, d⟩ := eW I.hok h
  obtain ⟨ep, d⟩ := d.dictAt
  have hl := KV.length r
  refine PySem.W.kdl_call (PySem.W.kdl_dict (knd := ao X.prog X.w) (kvs := vs) (ep := ep) lo) (I.ok.hd hc) d (by rw [<- hl]; exact z) λ h' tk acc' c' hk hD hacc => ?_
  have rv : Vals (kvs.map λ kv => kV kv.1) acc'.toList := pI (X := X) r (by rw [Array.length_toList]; exact hacc.1) λ j u hu => hacc.2 j u (by rw [<- Array.getElem?_toList]; exact hu)
  refine ⟨.ref s.heap.objs.size, _, I.laid (t' := tk) hk (Nat.le_refl _) (o := .lst (kvs.map λ kv => kV kv.1)) ?_, rfl, q.at _ (I.hok.fresh (Nat.le_refl _))⟩
  exact ⟨by rw [List.length_map]; exact z, acc'.toList, c', rv, by rw [Array.toArray_toList]; exact hD⟩
theorem mx {z : Str} : ∀ {us : List Value}, us.length = z.cps.toList.length -> (∀ (j : Nat) (u : Value), us[j]? = some u -> ∃ c t, z.cps.toList[j]? = some c /\ u = .str ⟨#[c]⟩ t) -> Vals (z.cps.toList.map λ c => V.str ⟨#[c]⟩) us := by
  generalize z.cps.toList = l
  induction l with
  | nil =>
    intro us hl h
    cases us with
    | nil => exact .nil
    | cons a b => simp at hl
  | cons c r ih =>
    intro us hl h
    cases us with
    | nil => simp at hl
    | cons u us =>
      obtain ⟨d, t, e, rfl⟩ := h 0 u rfl
      simp at e
      subst e
      exact .cons ⟨t, rfl⟩ (ih (by simpa using hl) λ j w hj => h (j + 1) w (by simpa using hj))
theorem pJ (hc : X.calm = true) (I : Inv X pins σ H s) {z : Str} {t : Tok} (hz : z.length <= sizeLine) {Q : VK} (q : newO H (.lst (z.cps.toList.map λ c => V.str ⟨#[c]⟩)) Q) : wpAny (model X.prog X.w) X.A (call (.type "list") [.str z t]) (EP X pins σ Q) X.xe s := by
  refine call_list_str (I.ok.hd hc) z t (λ h' tk acc' c' hk hD hacc => ?_) hz
  have rv : Vals (z.cps.toList.map λ c => V.str ⟨#[c]⟩) acc'.toList := mx (by rw [Array.length_toList, hacc.1]; simp) λ j u hu => by
    obtain ⟨c, tk, hc, rfl⟩ := hacc.2 j u (by rw [<- Array.getElem?_toList]; exact hu)
    exact ⟨c, tk, by simpa using hc, rfl⟩
  refine ⟨.ref s.heap.objs.size, _, I.laid (t' := tk) hk (Nat.le_refl _) (o := .lst (z.cps.toList.map λ c => V.str ⟨#[c]⟩)) ?_, rfl, q.at _ (I.hok.fresh (Nat.le_refl _))⟩
  exact ⟨by rw [List.length_map, Array.length_toList]; exact hz, acc'.toList, c', rv, by rw [Array.toArray_toList]; exact hD⟩
def fj : List V -> Option (List Str)
  | [] => some []
  | .str x :: r => match fj r with
    | some l => some (x :: l)
    | none => none
  | _ => none
theorem ia : ∀ {xs : List V} {us : List Value} {ys : List Str}, Vals xs us -> fj xs = some ys -> StrsAre us ys
  | _, _, _, .nil, h => by cases h; exact .nil
  | x :: r, u :: us, ys, .cons h t, e => by
    cases x <;> first | (cases e; done) | skip
    obtain ⟨tk, rfl⟩ := h
    unfold fj at e
    split at e
    . cases e
      exact .cons _ _ (ia t (by assumption))
    . cases e
abbrev RM := V -> List V -> Hp -> VK -> Prop
@[irreducible] def jq : RM := λ x vs H Q => match x, vs with
  | .str sep, [.ref l] => match H l with
    | some (.lst xs) => match fj xs with
      | some ys => (ys.map (·.length)).sum + ys.length * sep.length <= 16777216 /\ Q (.str (Txt.join sep ys)) H
      | none => False
    | _ => False
  | _, _ => False
theorem mt_joinG : MtR X "str.join" jq := λ pins s σ H x xs v us Q I rx rs h => by
  unfold jq at h
  split at h
  . split at h
    . split at h
      . rename_i sep l _ ys hl _ zs hz
        obtain ⟨t, rfl⟩ := rx
        obtain ⟨u, rfl, ru⟩ := bq rs
        cases ru
        obtain ⟨its, r, li⟩ := bH I hl
        exact join_list li (by simpa using ia r hz) h.1 λ t' k => ⟨.str _, H, I.tok k, ⟨t', rfl⟩, h.2⟩
      . exact h.elim
    . exact h.elim
  . exact h.elim
end
def RawD (h : Heap) (d : Addr) (es : Array DictEntry) (ep : Nat) : Prop := ∃ o, h.get? d = some o /\ o.ExactDict /\ o.data = .dict es ep
section
variable {prog : Program} {w : World} {A : Around} {E : Value -> Shared -> Prop} {s : Shared} {d it : Addr} {es : Array DictEntry} {ep i : Nat}
theorem RawD.typeIs (r : RawD s.heap d es ep) : s.TypeIs (.ref d) "dict" := by
  obtain ⟨o, h1, h2, h3⟩ := r
  exact ⟨o, h1, h2.1⟩
theorem kZ {Q : Value -> Shared -> Prop} (lo : (d == sysModules) = false) (r : RawD s.heap d es ep)
    (q : Q (.ref s.heap.objs.size) { s with heap := s.heap.push { cls := .type "dict_keyiterator", data := .fields #[.ref d, .int 0 0, .int es.size 0, .int ep 0] } }) : wpAny (model prog w) A (pyIter (.ref d)) Q E s := by
  have ty := r.typeIs
  obtain ⟨o, h1, h2, h3⟩ := r
  refine wpAny_pyIter_slot ty F.slot_dict_iter (wpAny_call_entry F.slot_dict_iter ty F.entry_dict_iter ?_ (F.args_dict_iter_1 _))
  show wpAny _ _ (Builtin.Dict.dictSlotNone _ _ >>= _) _ _ s
  refine wpAny_bind (wpAny_bind (wpAny_notOrdered_dict ty (show wpAny _ _ (pure (Value.ref d)) _ _ s from wpAny_pure ?_)))
  show wpAny _ _ ((if (d == sysModules) = true then _ else _) >>= _) _ _ s
  rw [if_neg (by rw [lo]; decide)]
  refine wpAny_bind (wpAny_pure (wpAny_bind (wpAny_dictEntries h1 h3 (wpAny_bind (wpAny_dictEpoch h1 h3 (wpAny_bind (wpAny_newObj_type (wpAny_pure ⟨_, rfl, "dict_keyiterator", _, ⟨_, Heap.get?_push_size _ rfl, rfl⟩, F.slot_dict_keyiterator_next.lookup, ?_⟩))))))))
  simpa [rawInt] using q
theorem l0 {e : DictEntry} {Q : Option Value -> Shared -> Prop} (k : s.heap.IsKeyIter it d i es.size ep) (r : RawD s.heap d es ep) (he : es[i]? = some e)
    (q : ∀ h' : Heap, h'.IsKeyIter it d (i + 1) es.size ep -> Heap.SameBut it s.heap h' -> Q (some e.key) { s with heap := h' }) : wpAny (model prog w) A (pyNext (.ref it)) Q E s := by
  have ty := k.typeIs
  obtain ⟨o, k1, k2, k3⟩ := id k
  obtain ⟨b, h1, h2, h3⟩ := r
  unfold pyNext
  refine wpAny_bind (wpAny_attempt (wpAny_callSpecial?_slot (name := Str.ofString "__next__") ty F.slot_dict_keyiterator_next (wpAny_call_entry F.slot_dict_keyiterator_next ty F.entry_dict_keyiterator_next ?_ (F.args_dict_keyiterator_next_1 _))))
  refine wpAny_bind (wpAny_pure (wpAny_bind (wpAny_bind (wpAny_bind (wpAny_typeNameOfWhole_keyiter ty (wpAny_pure (wpAny_bind (wpAny_fieldsOf k1 k3 ?_))))))))
  rw [show Builtin.Dict_items.ownsTuple "dict_keyiterator" = false by decide]
  simp only [Bool.false_eq_true, if_false]
  show wpAny _ _ (if (Value.ref d == Value.none) = true then _ else _) _ _ s
  rw [if_neg (show ¬ ((Value.ref d == Value.none) = true) from Bool.false_ne_true)]
  refine wpAny_bind (wpAny_pure (wpAny_bind (wpAny_dictEntries h1 h3 ?_)))
  rw [if_neg (by simp)]
  refine wpAny_bind (wpAny_pure (wpAny_bind (wpAny_dictEpoch h1 h3 ?_)))
  rw [if_neg (by simp)]
  refine wpAny_pure ?_
  have hi : i < es.size := (Array.getElem?_eq_some_iff.mp he).1
  simp only [show ¬ ((i : Int) < 0) from by omega, if_false, Int.toNat_natCast, he]
  refine wpAny_bind (wpAny_bind (wpAny_typeNameOfWhole_keyiter ty (wpAny_pure (wpAny_bind (wpAny_isOneOf_keyiter ty ?_)))))
  show wpAny _ _ (setField (.ref it) 1 (rawInt ((i : Int) + 1)) >>= _) _ _ s
  have k' : (s.heap.update it (Obj.mapFields (·.setIfInBounds 1 (rawInt ((i : Int) + 1))))).IsKeyIter it d (i + 1) es.size ep := ⟨_, Heap.get?_update_self _ k1 (Obj.isFreed_of_fields (Obj.data_mapFields k3 _)), (Obj.cls_mapFields ..).trans k2, by rw [Obj.data_mapFields k3]; simp [rawInt]⟩
  refine wpAny_bind (wpAny_setField k1 k3 (by simp) (wpAny_bind (wpAny_holding (wpAny_bind (wpAny_isOneOf_keyiter (s := { s with heap := s.heap.update it (Obj.mapFields (·.setIfInBounds 1 (rawInt ((i : Int) + 1)))) }) k'.typeIs ?_)))))
  show wpAny _ _ (pure e.key) _ _ _
  exact wpAny_pure (wpAny_pure ⟨_, rfl, wpAny_pure (q _ k' (Heap.SameBut.update ..))⟩)
theorem nO {Q : Option Value -> Shared -> Prop} (hh : A.handled = none) (k : s.heap.IsKeyIter it d i es.size ep) (r : RawD s.heap d es ep) (he : es.size <= i)
    (q : ∀ h' : Heap, Heap.ExtBut it s.heap h' -> Q none { s with heap := h' }) : wpAny (model prog w) A (pyNext (.ref it)) Q E s := by
  have ty := k.typeIs
  obtain ⟨o, k1, k2, k3⟩ := id k
  obtain ⟨b, h1, h2, h3⟩ := r
  unfold pyNext
  refine wpAny_bind (wpAny_attempt (wpAny_callSpecial?_slot (name := Str.ofString "__next__") ty F.slot_dict_keyiterator_next (wpAny_call_entry F.slot_dict_keyiterator_next ty F.entry_dict_keyiterator_next ?_ (F.args_dict_keyiterator_next_1 _))))
  refine wpAny_bind (wpAny_pure (wpAny_bind (wpAny_bind (wpAny_bind (wpAny_typeNameOfWhole_keyiter ty (wpAny_pure (wpAny_bind (wpAny_fieldsOf k1 k3 ?_))))))))
  rw [show Builtin.Dict_items.ownsTuple "dict_keyiterator" = false by decide]
  simp only [Bool.false_eq_true, if_false]
  show wpAny _ _ (if (Value.ref d == Value.none) = true then _ else _) _ _ s
  rw [if_neg (show ¬ ((Value.ref d == Value.none) = true) from Bool.false_ne_true)]
  refine wpAny_bind (wpAny_pure (wpAny_bind (wpAny_dictEntries h1 h3 ?_)))
  rw [if_neg (by simp)]
  refine wpAny_bind (wpAny_pure (wpAny_bind (wpAny_dictEpoch h1 h3 ?_)))
  rw [if_neg (by simp)]
  refine wpAny_pure ?_
  simp only [show ¬ ((i : Int) < 0) from by omega, if_false, Int.toNat_natCast, Array.getElem?_eq_none he]
  refine wpAny_bind (wpAny_bind (wpAny_typeNameOfWhole_keyiter ty (wpAny_pure ?_)))
  show wpAny _ _ (setField (.ref it) 0 .none >>= _) _ _ s
  refine wpAny_bind (wpAny_setField k1 k3 (by simp) ?_)
  show wpAny _ _ (newExc (.type "StopIteration") [] >>= _) _ _ _
  refine wpAny_bind ?_
  simp only [newExc, newTuple]
  refine wpAny_bind (wpAny_newObj_type (wpAny_bind (m := firstArgMember _ _) (wpAny_of_eq (a := Value.none) (by first | rfl | (simp only [firstArgMember]; rfl)) (wpAny_newObj_type ?_ (by size_fits)))) (by size_fits))
  simp only [raiseNew]
  refine wpAny_bind (wpAny_handled ?_)
  rw [show A.in1.handled = none from hh]
  refine wpAny_bind (wpAny_pure (wpAny_throw ?_))
  refine wpAny_bind (wpAny_isInstance (T := "StopIteration") (b := true) ⟨_, Heap.get?_push_size _ rfl, rfl⟩ isSubtype_stop ?_)
  exact wpAny_pure (q _ (((Heap.SameBut.update ..).extBut.push _).push _))
end
def my (a : Addr) (o : Obj) (kvs : List (List Key × V)) : It := ⟨λ i H => H a = some (.frz o (.dT kvs)) /\ i < kvs.length, λ i H x H' => H' = H /\ ∃ k v t, kvs[i]? = some (k, v) /\ x = .ref t /\ H t = some (.tup (k.map kV)), λ i H => H a = some (.frz o (.dT kvs)) /\ kvs.length <= i⟩
theorem ib {α β : Type} {R : α -> β -> Prop} {xs : List α} {ys : List β} (h : Paired R xs ys) : ∀ {i : Nat} {x : α}, xs[i]? = some x -> ∃ y, ys[i]? = some y /\ R x y := by
  induction h with
  | nil => intro i x e; simp at e
  | cons h t ih =>
    intro i x e
    cases i with
    | zero => simp at e; subst e; exact ⟨_, rfl, h⟩
    | succ i => exact ih (by simpa using e)
section
variable {X : Cx} {pins : List (Addr × Obj)} {σ : St} {H : Hp} {s : Shared}
theorem ie (I : Inv X pins σ H s) {a : Addr} {kvs : List (List Key × V)} (h : Rd H a (.dT kvs)) : (a == sysModules) = false /\ kvs.length <= sizeLine /\ ∃ (xs : List (List Key × Addr × Value)) (es : Array DictEntry) (ep : Nat),
    KT H kvs xs /\ es.toList = xs.map (entryOfKey (tupleKind (ao X.prog X.w))) /\ RawD s.heap a es ep := by
  have ok : ObjOk X.prog X.w H s.heap a (.dT kvs) := by
    rcases h with h | ⟨o, h⟩
    . exact I.hok a _ h
    . exact (I.hok a _ h).2
  obtain ⟨z, lo, xs, pr, o, es, ep, e1, e2, e3, e4, _⟩ := ok
  exact ⟨lo, z, xs, es, ep, pr, e4, o, e1, e2, e3⟩
end
theorem turn_dT {P : Program} {w : World} {K : PySem.W.Frag} {tg : Expr} (it a : Addr) (o : Obj) {kvs : List (List Key × V)} {es : Array DictEntry} {ep : Nat} (hl : es.size = kvs.length) (ho : o.data = .dict es ep) :
    Turn P w K tg (my a o kvs) [it] it (λ i h => h.IsKeyIter it a i es.size ep) where
  mem := by simp
  obj := λ i h st b hb => by
    have e : b = it := by simpa using hb
    subst e
    obtain ⟨o, e, c, d⟩ := st
    exact ⟨o, e, λ v z => by rw [d] at z; cases z⟩
  keep := λ i h h' st k => st.at λ o e => k it (by simp) o e
  item := by
    intro X hP hw hK hc i pins s σ H E I hf st hg
    subst hP hw hK
    obtain ⟨f0, f1, f2, f3, f4, f5⟩ := hf it (by simp)
    obtain ⟨ha, hi⟩ := hg
    obtain ⟨eo, _, _, xs, pr, o', es', ep', e1, e2, e3, e4, _⟩ := I.hok a _ ha
    rw [eo] at e1
    cases e1
    rw [ho] at e3
    cases e3
    obtain ⟨⟨k, v⟩, hx⟩ : ∃ p, kvs[i]? = some p := ⟨kvs[i], by simp [hi]⟩
    obtain ⟨⟨k', t, u⟩, hy, rk, rt, rv⟩ := ib pr hx
    have he : es[i]? = some (entryOfKey (tupleKind (ao X.prog X.w)) (k', t, u)) := by
      rw [<- Array.getElem?_toList, e4, List.getElem?_map, hy]
      rfl
    refine l0 st ⟨o, eo, e2, ho⟩ he λ h' st' sb => ?_
    have I1 : Inv X pins σ H { s with heap := h' } := I.turned (t' := s.toks) (λ b o hb e => sb.extBut b o hb e) f0 f1 f3 f4 f5
    obtain ⟨ob, e, c, d⟩ := id st'
    exact ⟨.ref t, rfl, gU (s := { s with heap := h' }) e c d (by decide) ⟨.ref t, H, I1, rfl, ⟨rfl, k, v, t, hx, rfl, rt⟩, st', λ b hb => (hf b hb).1⟩⟩
  done := by
    intro X hP hw hK hc i pins s σ H E I hf st hg
    subst hP hw hK
    obtain ⟨f0, f1, f2, f3, f4, f5⟩ := hf it (by simp)
    obtain ⟨ha, hi⟩ := hg
    obtain ⟨eo, _, _, xs, pr, o', es', ep', e1, e2, e3, e4, _⟩ := I.hok a _ ha
    rw [eo] at e1
    cases e1
    exact nO (I.ok.hd hc) st ⟨o, eo, e2, ho⟩ (by rw [hl]; exact hi) λ h' eb => ⟨rfl, I.turned (t' := s.toks) (λ b o hb e => eb b o hb e) f0 f1 f3 f4 f5⟩
  self := λ _ _ _ _ _ st h => wpAny_pyIter_keyiter st h
section
variable {prog : Program} {w : World} {A : Around} {E : Value -> Shared -> Prop} {s : Shared} {d : Addr} {es : Array DictEntry} {ep : Nat}
theorem raw_len {Q : Value -> Shared -> Prop} (lo : (d == sysModules) = false) (r : RawD s.heap d es ep) (fit : (es.size : Int) < 2 ^ 63) (q : Q (.int es.size (s.toks + 1)) { s with toks := s.toks + 1 + 1 }) : wpAny (model prog w) A (call (.builtin "len") [.ref d]) Q E s := by
  have ty := r.typeIs
  have ml : MeetsIn prog w (Builtin.«dict.__len__» ⟨[.ref d], []⟩) (λ _ R s => ∃ es ep, RawD s.heap d es ep /\ R (.ok (.ret (.int es.size s.toks))) { s with toks := s.toks + 1 }) := .of_wp λ A R s ⟨es, ep, ⟨o, h1, h2, h3⟩, h⟩ => by
    show wpAny _ _ (dictSize d >>= _) _ _ s
    unfold dictSize
    refine wpAny_bind (wpAny_bind (wpAny_dictEntries h1 h3 (wpAny_pure ?_)))
    show wpAny _ _ (Builtin.Dict.pendingCount d >>= _) _ _ s
    refine wpAny_bind (wpAny_pendingCount_other lo (wpAny_ret_mkInt ?_))
    rw [Nat.add_zero]
    exact h
  refine Calls.call_function_entry kind_len plain_len entry_len (args_len1 _) ?_
  unfold Builtin.«len»
  refine wpAny_bind (m := oneArg "len" _) (wpAny_pure (wpAny_bind (m := callSpecial? (.ref d) (Str.ofString "__len__")) (wpAny_callSpecial?_slot (name := Str.ofString "__len__") ty F.slot_dict_len (call_meetsIn F.slot_dict_len ty F.entry_dict_len (F.args_dict_len_1 _) ml ⟨es, ep, r, ?_⟩))))
  show wpAny _ _ _ _ _ { s with toks := s.toks + 1 }
  refine wpAny_bind (wpAny_holding (wpAny_pure (wpAny_bind (wpAny_letGo ?_))))
  show wpAny _ _ (if ((es.size : Nat) : Int) < 0 then _ else _) _ _ _
  rw [if_neg (by omega)]
  show wpAny _ _ (if ((es.size : Nat) : Int) ≥ 2 ^ 63 then _ else _) _ _ _
  rw [if_neg (by omega)]
  exact wpAny_bind (wpAny_mkInt (wpAny_pure ⟨_, rfl, q⟩))
end
section
variable {X : Cx}
theorem pK : CallR X (.builtin "len") (λ xs H Q => ∃ a kvs, xs = [V.ref a] /\ Rd H a (.dT kvs) /\ Q (.int kvs.length) H) := by
  intro pins s σ H xs us Q I r h
  obtain ⟨a, kvs, rfl, ha, q⟩ := h
  obtain ⟨u, rfl, ru⟩ := bq r
  cases ru
  obtain ⟨lo, z, xs, es, ep, pr, e4, rd⟩ := ie I ha
  have hl : es.size = kvs.length := by
    rw [<- Array.length_toList, e4, List.length_map]
    exact (Paired.length pr).symm
  refine raw_len lo rd (by rw [hl]; rw [sizeLine_eq] at z; omega) ⟨.int kvs.length, H, I.tok _, ⟨_, by rw [hl]⟩, q⟩
def g7 : List V -> Option (List Int)
  | [] => some []
  | .int x :: r => match g7 r with
    | some l => some (x :: l)
    | none => none
  | _ => none
theorem ig : ∀ {xs : List V} {us : List Value} {ys : List Int}, Vals xs us -> g7 xs = some ys -> IntsAre us ys
  | _, _, _, .nil, h => by cases h; exact .nil
  | x :: r, u :: us, ys, .cons h t, e => by
    cases x <;> first | (cases e; done) | skip
    obtain ⟨tk, rfl⟩ := h
    unfold g7 at e
    split at e
    . cases e
      exact .cons _ _ (ig t (by assumption))
    . cases e
@[irreducible] def pL : List V -> Hp -> VK -> Prop := λ xs H Q => match xs with
  | [.ref p] => match H p with
    | some (.lst ys) => match g7 ys with
      | some ns => Q (.int ns.sum) H
      | none => False
    | _ => False
  | _ => False
theorem pM (hc : X.calm = true) : CallR X (.builtin "sum") pL := λ pins s σ H xs us Q I r h => by
  unfold pL at h
  split at h
  . rename_i p
    split at h
    . rename_i ys e
      split at h
      . rename_i ns en
        obtain ⟨u, rfl, ru⟩ := bq r
        cases ru
        obtain ⟨its, rv, pl, hz⟩ := I.list (.inl (.inl e))
        have hi := ig rv en
        obtain ⟨zs, hx⟩ := hi.allInts.items
        have hl' : s.heap.IsList p (intItems zs) := hx ▸ pl.isList
        refine sum_intListG (I.ok.hd hc) hl' λ h' tk t' hk => ?_
        have e1 : ns = zs.toList.map (·.1) := by
          rw [<- nums_intItems, <- hx]
          exact (show numsOf its.toArray.toList = ns from hi.numsOf).symm
        have e2 : preSum (numAt zs) zs.size = ns.sum := by rw [preSum_eq, List.take_of_length_le (by simp), e1]
        rw [e2]
        exact ⟨.int ns.sum, H, I.kept (t' := tk) hk, ⟨_, rfl⟩, h⟩
      . exact h.elim
    . exact h.elim
  . exact h.elim
end
section
variable {prog : Program} {w : World} {A : Around} {E : Value -> Shared -> Prop} {s : Shared} {es : Array DictEntry} {ep i : Nat} {d it : Addr}
theorem RawD.at {h h' : Heap} (r : RawD h d es ep) (k : ∀ o, h.get? d = some o -> h'.get? d = some o) : RawD h' d es ep := by
  obtain ⟨o, z1, z2⟩ := r
  exact ⟨o, k o z1, z2⟩
theorem pN (hh : A.handled = none) (I : Addr) (hne : d ≠ I) : Walks prog w A I [I, d] [I] es.size (λ i v => ∃ e, es[i]? = some e /\ v = e.key) (λ i h => h.IsKeyIter I d i es.size ep /\ RawD h d es ep) where
  sub := λ b hb => by rw [List.mem_singleton.mp hb]; simp
  frame := λ _ _ _ st k => ⟨st.1.at λ o e => k I (by simp) o e, st.2.at λ o e => k d (by simp) o e⟩
  item := λ i s Q E hi st q => l0 st.1 st.2 (Array.getElem?_eq_getElem hi) λ h' st' sb => q _ h' s.toks ⟨_, Array.getElem?_eq_getElem hi, rfl⟩ ⟨st', st.2.at λ o e => sb.extBut d o hne e⟩ λ b o hb e => sb.extBut b o (λ z => hb (by simp [z])) e
  done := λ s Q E st q => nO hh st.1 st.2 (Nat.le_refl _) λ h' x => q h' s.toks λ b o hb e => x b o (λ z => hb (by simp [z])) e
  self := λ _ _ _ _ st q => wpAny_pyIter_keyiter st.1 q
theorem raw_src (lo : (d == sysModules) = false) : PySem.W.KdlSrc prog w "dict" d d es.size (λ i v => ∃ e, es[i]? = some e /\ v = e.key) (λ h => RawD h d es ep) where
  type := λ _ r => r.typeIs
  there := λ _ r => by obtain ⟨o, z, _⟩ := r; exact ⟨Heap.lt_size z, Heap.lt_size z⟩
  keep := λ _ _ r k => r.at λ o e => k d (.inl rfl) o e
  notList := by decide
  notTuple := by decide
  hint := λ _ _ _ _ r q => PySem.W.kdl_hint_dict r.typeIs q
  iter := λ _ s hh r => ⟨_, _, (λ _ _ q => kZ lo r q), pN hh _ (by obtain ⟨o, z, _⟩ := r; exact Nat.ne_of_lt (Heap.lt_size z)), ⟨⟨_, Heap.get?_push_size _ rfl, rfl, rfl⟩, r.at λ o e => Heap.get?_push_of_some _ e⟩⟩
theorem iY (d : Addr) : MeetsIn prog w (Builtin.«dict.clear» ⟨[.ref d], []⟩) (λ _ R s => ∃ es ep, RawD s.heap d es ep /\ es.size <= sizeLine /\ ∀ h', RawD h' d #[] (ep + 1) -> Heap.SameBut d s.heap h' -> R (.ok (.ret .none)) { s with heap := h' }) :=
  .of_wp λ A R s ⟨es, ep, r, hz, h⟩ => by
    have ty := r.typeIs
    obtain ⟨o, z1, z2, z3⟩ := r
    unfold Builtin.«dict.clear» Builtin.Dict.noArgs
    refine wpAny_bind (wpAny_bind (wpAny_notOrdered_dict ty ?_))
    show wpAny _ _ (pure d) _ _ s
    refine wpAny_pure (wpAny_bind (wpAny_dictEntries z1 z3 (wpAny_bind ?_)))
    unfold bearsInstanceDictMark
    refine wpAny_bind (wpAny_load z1 (wpAny_pure (wpAny_bind (wpAny_updateDictKeys (hz := hz) z1 z3 ?_))))
    have r' : RawD (s.heap.update d (Obj.mapDictKeys λ _ => #[])) d #[] (ep + 1) := ⟨_, Heap.get?_update_self _ z1 (Obj.isFreed_of_dict (Obj.data_mapDictKeys z3 _)), z2.mapDictKeys _, Obj.data_mapDictKeys z3 _⟩
    split
    . exact wpAny_bind (wpAny_letGo (wpAny_pure ⟨.none, rfl, h _ r' (Heap.SameBut.update ..)⟩))
    . exact wpAny_bind (wpAny_pure (wpAny_pure ⟨.none, rfl, h _ r' (Heap.SameBut.update ..)⟩))
end
section
variable {X : Cx} {pins : List (Addr × Obj)} {σ : St} {H : Hp} {s : Shared}
abbrev KeysAt (H : Hp) : List (List Key × V) -> List Addr -> Prop := Paired λ kv t => H t = some (.tup (kv.1.map kV))
@[irreducible] def gN (kvs : List (List Key × V)) (H : Hp) (Q : VK) : Prop := ∀ ts, KeysAt H kvs ts -> newO H (.lst (ts.map V.ref)) Q
theorem kt_keys : ∀ {kvs : List (List Key × V)} {xs : List (List Key × Addr × Value)}, KT H kvs xs -> KeysAt H kvs (xs.map λ x => x.2.1) := λ h => by
  induction h with
  | nil => exact .nil
  | cons h t ih => exact .cons h.2.1 ih
theorem jr : ∀ (ts : List Addr) (us : List Value), us.length = ts.length -> (∀ (j : Nat) (u : Value), us[j]? = some u -> ∃ t, ts[j]? = some t /\ u = .ref t) -> Vals (ts.map V.ref) us
  | [], [], _, _ => .nil
  | [], _ :: _, h, _ => by simp at h
  | _ :: _, [], h, _ => by simp at h
  | t :: ts, u :: us, hl, h => by
    obtain ⟨t', e, rfl⟩ := h 0 u rfl
    simp at e
    subst e
    exact .cons rfl (jr ts us (by simpa using hl) λ j w hj => h (j + 1) w (by simpa using hj))
theorem nP (hc : X.calm = true) (I : Inv X pins σ H s) {a : Addr} {kvs : List (List Key × V)} (h : Rd H a (.dT kvs)) {Q : VK} (q : gN kvs H Q) : wpAny (model X.prog X.w) X.A (call (.type "list") [.ref a]) (EP X pins σ Q) X.xe s := by
  obtain ⟨lo, z, xs, es, ep, kt, e4, r⟩ := ie I h
  have hl : es.size = xs.length := by rw [<- Array.length_toList, e4, List.length_map]
  have hk : xs.length = kvs.length := (Paired.length kt).symm
  unfold gN at q
  refine PySem.W.kdl_call (raw_src (es := es) (ep := ep) lo) (I.ok.hd hc) r (by omega) λ h' tk acc c k hD ha => ?_
  have rv : Vals ((xs.map λ x => x.2.1).map V.ref) acc.toList := jr _ _ (by rw [Array.length_toList, List.length_map, ha.1, hl]) λ j u hu => by
    obtain ⟨e, e1, rfl⟩ := ha.2 j u (by rw [<- Array.getElem?_toList]; exact hu)
    rw [<- Array.getElem?_toList, e4, List.getElem?_map] at e1
    cases hx : xs[j]? with
    | none => rw [hx] at e1; cases e1
    | some x =>
      rw [hx] at e1
      cases e1
      exact ⟨x.2.1, by rw [List.getElem?_map, hx]; rfl, rfl⟩
  refine ⟨.ref s.heap.objs.size, _, I.laid (t' := tk) k (Nat.le_refl _) (o := .lst ((xs.map λ x => x.2.1).map V.ref)) ?_, rfl, (q _ (kt_keys kt)).at _ (I.hok.fresh (Nat.le_refl _))⟩
  exact ⟨by rw [List.length_map, List.length_map, hk]; exact z, acc.toList, c, rv, by rw [Array.toArray_toList]; exact hD⟩
theorem clear_dT {A : Around} {E : Value -> Shared -> Prop} {a : Addr} {kvs : List (List Key × V)} {Q : Value -> Shared -> Prop} (I : Inv X pins σ H s) (e : H a = some (.dT kvs)) (h : ∀ s', Inv X pins σ (upd H a (.dT [])) s' -> Q .none s') : wpAny (model X.prog X.w) A (call (.builtin "dict.clear") [.ref a]) Q E s := by
  obtain ⟨lo, z, xs, es, ep, kt, e4, r⟩ := ie I (.inl e)
  have hl : es.size = kvs.length := by rw [<- Array.length_toList, e4, List.length_map]; exact (Paired.length kt).symm
  refine call_meetsIn F.slot_dict_clear r.typeIs F.entry_dict_clear (F.args_dict_clear_1 _) (iY a) ⟨es, ep, r, by omega, λ h' r' hs => h _ ?_⟩
  obtain ⟨o, z1, z2, z3⟩ := r'
  exact fD (t' := s.toks) I (by rw [e]; exact True.intro) hs ⟨o, z1⟩ ⟨Nat.zero_le _, lo, [], .nil, o, #[], ep + 1, z1, z2, z3, rfl, List.nodup_nil⟩
theorem int_text {z : Str} {t : Tok} {n : Int} (I : Inv X pins σ H s) (hz : z.length <= 640) (hn : PySem.intText? z = some n) {Q : VK} (q : Q (.int n) H) : wpAny (model X.prog X.w) X.A (call (.type "int") [.str z t]) (EP X pins σ Q) X.xe s :=
  PySem.W.KIN.call_text hn hz ⟨.int n, H, I.tok _, ⟨_, rfl⟩, q⟩
end
section
variable {X : Cx} {o e : Expr} {es : List Expr} {to : TE} {t : TA} {pos apos cpos : Pos}
def bJ : Expr -> Bool
  | .Starred _ _ => true
  | _ => false
theorem aM {env : Env} (h : bJ e = false) : starEach (e :: es) env = (false, eval e env) :: starEach es env := by
  cases e <;> first | rfl | cases h
theorem aE {env : Env} : ∀ {es : List Expr}, es.any bJ = false -> (backTo pos (starEach es env)).any (·.1) = false /\ (backTo pos (starEach es env)).all (λ x => !x.1) = true
  | [], _ => ⟨rfl, rfl⟩
  | e :: es, h => by
    rw [List.any_cons, Bool.or_eq_false_iff] at h
    obtain ⟨i1, i2⟩ := aE (env := env) h.2
    rw [aM h.1]
    exact ⟨by simpa [backTo] using i1, by simpa [backTo] using i2⟩
@[irreducible] def pO (p : Addr) (H : Hp) (Q : VK) : Prop := match H p with
  | some (.lst ys) => Q (.int ys.length) H
  | some (.tup ys) => Q (.int ys.length) H
  | some (.dK kvs) => Q (.int kvs.length) H
  | some (.dT kvs) => Q (.int kvs.length) H
  | some (.frz _ (.dT kvs)) => Q (.int kvs.length) H
  | _ => False
def fk : List V -> Hp -> VK -> Prop := λ xs H Q => match xs with
  | [.str z] => z.length <= sizeLine /\ Q (.int z.length) H
  | [.ref p] => pO p H Q
  | _ => False
theorem pP : CallR X (.builtin "len") fk := CallR.imp (CallR.or jN (CallR.or fF (CallR.or p8 pK))) λ xs H Q h => by
  unfold fk at h
  split at h
  . exact .inl ⟨_, rfl, h⟩
  . unfold pO at h
    split at h
    . exact .inr (.inl ⟨_, _, rfl, .inl (.inl (.inl (by assumption))), h⟩)
    . exact .inr (.inl ⟨_, _, rfl, .inr (.inl (.inl (by assumption))), h⟩)
    . exact .inr (.inr (.inl ⟨_, _, rfl, by assumption, h⟩))
    . exact .inr (.inr (.inr ⟨_, _, rfl, .inl (by assumption), h⟩))
    . exact .inr (.inr (.inr ⟨_, _, rfl, .inr ⟨_, by assumption⟩, h⟩))
    . exact h.elim
  . exact h.elim
def okTy (T : String) : Bool := ["str", "int", "bool", "list", "tuple", "dict"].contains T
@[irreducible] def iZ : List V -> Hp -> VK -> Prop := λ xs H Q => match xs with
  | [x, .ty T] => okTy T = true /\ match bZ H x with
    | some S => Q (.bl (dj S T)) H
    | none => False
  | _ => False
theorem pQ : CallR X (.builtin "isinstance") iZ := CallR.imp call_isi λ xs H Q h => by
  unfold iZ at h
  split at h
  . obtain ⟨h1, h⟩ := h
    split at h
    . exact ⟨_, _, _, rfl, by assumption, by simpa [okTy] using h1, h⟩
    . exact h.elim
  . exact h.elim
def gr : List V -> Option (List Bool)
  | [] => some []
  | .bl b :: r => (gr r).map (b :: ·)
  | _ => none
theorem js : ∀ {xs : List V} {bs : List Bool}, gr xs = some bs -> xs = bs.map V.bl
  | [], bs, h => by cases h; rfl
  | x :: r, bs, h => by
    cases x <;> first | (cases h; done) | skip
    rename_i b
    unfold gr at h
    cases e : gr r with
    | none => rw [e] at h; cases h
    | some cs => rw [e] at h; cases h; rw [js e]; rfl
@[irreducible] def pR : List V -> Hp -> VK -> Prop := λ xs H Q => match xs with
  | [.ref p] => match H p with
    | some (.lst ys) => match gr ys with
      | some bs => Q (.bl (bs.all id)) H
      | none => False
    | _ => False
  | _ => False
theorem pS (hc : X.calm = true) : CallR X (.builtin "all") pR := CallR.imp (ph hc) λ xs H Q h => by
  unfold pR at h
  split at h
  . split at h
    . split at h
      . rename_i ys hy _ bs hb
        refine ⟨_, bs, rfl, .inl ?_, h⟩
        rw [<- js hb]
        exact hy
      . exact h.elim
    . exact h.elim
  . exact h.elim
@[irreducible] def cp : List V -> Hp -> VK -> Prop := λ xs H Q => match xs with
  | [.str z] => z.length <= sizeLine /\ newO H (.lst (z.cps.toList.map λ c => V.str ⟨#[c]⟩)) Q
  | [.ref p] => match H p with
    | some (.lst ys) => newO H (.lst ys) Q
    | some (.tup ys) => newO H (.lst ys) Q
    | some (.dK kvs) => newO H (.lst (kvs.map λ kv => kV kv.1)) Q
    | some (.frz _ (.dK kvs)) => newO H (.lst (kvs.map λ kv => kV kv.1)) Q
    | some (.dT kvs) => gN kvs H Q
    | some (.frz _ (.dT kvs)) => gN kvs H Q
    | _ => False
  | _ => False
theorem mz (hc : X.calm = true) : CallR X (.type "list") cp := λ pins s σ H xs us Q I r h => by
  unfold cp at h
  split at h
  . obtain ⟨u, rfl, ru⟩ := bq r
    obtain ⟨t, rfl⟩ := ru
    exact pJ hc I h.1 h.2
  . split at h
    . exact fG pins s σ H _ us Q I r ⟨_, _, rfl, .inl (.inl (.inl (by assumption))), h.at⟩
    . exact fG pins s σ H _ us Q I r ⟨_, _, rfl, .inr (.inl (.inl (by assumption))), h.at⟩
    . obtain ⟨u, rfl, ru⟩ := bq r
      cases ru
      exact jp hc I (.inl (by assumption)) h
    . obtain ⟨u, rfl, ru⟩ := bq r
      cases ru
      exact jp hc I (.inr ⟨_, by assumption⟩) h
    . obtain ⟨u, rfl, ru⟩ := bq r
      cases ru
      exact nP hc I (.inl (by assumption)) h
    . obtain ⟨u, rfl, ru⟩ := bq r
      cases ru
      exact nP hc I (.inr ⟨_, by assumption⟩) h
    . exact h.elim
  . exact h.elim
@[irreducible] def mB : List V -> Hp -> VK -> Prop := λ xs H Q => match xs with
  | [.ref p] => match H p with
    | some (.lst ys) => newO H (.tup ys) Q
    | some (.tup ys) => Q (.ref p) H
    | _ => False
  | _ => False
theorem l3 : CallR X (.type "tuple") mB := CallR.imp iW λ xs H Q h => by
  unfold mB at h
  split at h
  . split at h
    . exact ⟨_, _, rfl, .inl ⟨.inl (.inl (by assumption)), h.at⟩⟩
    . exact ⟨_, _, rfl, .inr ⟨.inl (.inl (by assumption)), h⟩⟩
    . exact h.elim
  . exact h.elim
def mD : List V -> Hp -> VK -> Prop := λ xs H Q => match xs with
  | [.int i] => Q (.int i) H
  | [.bl k] => Q (.int (if k then 1 else 0)) H
  | [.str z] => z.length <= 640 /\ ∃ n, PySem.intText? z = some n /\ Q (.int n) H
  | _ => False
theorem pT : CallR X (.type "int") mD := λ pins s σ H xs us Q I r h => by
  unfold mD at h
  split at h
  . exact j9 pins s σ H _ us Q I r (.inl ⟨_, rfl, h⟩)
  . exact j9 pins s σ H _ us Q I r (.inr ⟨_, rfl, h⟩)
  . obtain ⟨u, rfl, ru⟩ := bq r
    obtain ⟨t, rfl⟩ := ru
    obtain ⟨hz, n, hn, q⟩ := h
    exact int_text I hz hn q
  . exact h.elim
def bltF (x : Str) : Option (String × (List V -> Hp -> VK -> Prop)) :=
  if x = "len" then some ("len", fk) else if x = "isinstance" then some ("isinstance", iZ) else if x = "all" then some ("all", pR)
  else if x = "sum" then some ("sum", pL) else none
def bltC (x : Str) : Option (String × (List V -> Hp -> VK -> Prop)) :=
  if x = "list" then some ("list", cp) else if x = "tuple" then some ("tuple", mB) else if x = "int" then some ("int", mD) else none
theorem bltF_ok (hc : X.calm = true) {x : Str} {i : String} {r : List V -> Hp -> VK -> Prop} (h : bltF x = some (i, r)) : CallR X (.builtin i) r /\ bootBuiltins x = some (.builtin i) /\ x ≠ "__name__" /\ (x == ("__debug__" : Str)) = false := by
  unfold bltF at h
  split at h
  . rename_i e; cases h; subst e; exact ⟨pP, by decide +kernel, by decide +kernel, by decide +kernel⟩
  split at h
  . rename_i e; cases h; subst e; exact ⟨pQ, by decide +kernel, by decide +kernel, by decide +kernel⟩
  split at h
  . rename_i e; cases h; subst e; exact ⟨pS hc, by decide +kernel, by decide +kernel, by decide +kernel⟩
  split at h
  . rename_i e; cases h; subst e; exact ⟨pM hc, by decide +kernel, by decide +kernel, by decide +kernel⟩
  cases h
theorem bltC_ok (hc : X.calm = true) {x : Str} {i : String} {r : List V -> Hp -> VK -> Prop} (h : bltC x = some (i, r)) : CallR X (.type i) r /\ bootBuiltins x = some (.type i) /\ x ≠ "__name__" /\ (x == ("__debug__" : Str)) = false := by
  unfold bltC at h
  split at h
  . rename_i e; cases h; subst e; exact ⟨mz hc, by decide +kernel, by decide +kernel, by decide +kernel⟩
  split at h
  . rename_i e; cases h; subst e; exact ⟨l3, by decide +kernel, by decide +kernel, by decide +kernel⟩
  split at h
  . rename_i e; cases h; subst e; exact ⟨pT, by decide +kernel, by decide +kernel, by decide +kernel⟩
  cases h
def mE (x : Str) : Option String :=
  if x = "int" then some "int" else if x = "str" then some "str" else if x = "bool" then some "bool" else if x = "list" then some "list" else if x = "tuple" then some "tuple" else if x = "dict" then some "dict" else if x = "ValueError" then some "ValueError" else none
theorem pU {x : Str} {i : String} (h : mE x = some i) : bootBuiltins x = some (.type i) /\ x ≠ "__name__" /\ (x == ("__debug__" : Str)) = false := by
  unfold mE at h
  repeat
    split at h
    . rename_i e; cases h; subst e; exact ⟨by decide +kernel, by decide +kernel, by decide +kernel⟩
  cases h
def tyB (H : Hp) : V -> Option String
  | .str _ => some "str"
  | .ref p => match H p with
    | some (.lst _) => some "list"
    | some (.dK _) => some "dict"
    | some (.dT _) => some "dict"
    | _ => none
  | _ => none
theorem tyB_ok {K : PySem.W.Frag} {H : Hp} {x : V} {T : String} (h : tyB H x = some T) : tyV K T x H := by
  unfold tyB at h
  split at h
  . cases h; rfl
  . split at h
    . cases h; exact .inl ⟨rfl, _, .inl (.inl (by assumption))⟩
    . cases h; exact .inr (.inr (.inl ⟨rfl, .inl ⟨_, by assumption⟩⟩))
    . cases h; exact .inr (.inr (.inl ⟨rfl, .inr ⟨_, by assumption⟩⟩))
    . cases h
  . cases h
@[irreducible] def eL : RM := λ x vs H Q => match x, vs with
  | .ref l, [y] => match H l with
    | some (.lst xs) => xs.length < sizeLine /\ Q .non (upd H l (.lst (xs ++ [y])))
    | _ => False
  | _, _ => False
theorem mF : MtR X "list.append" eL := λ pins s σ H x xs v us Q I rx rs h => jk pins s σ H x xs v us Q I rx rs (by
  unfold eL at h
  split at h
  . split at h
    . exact ⟨_, _, _, rfl, rfl, by assumption, h⟩
    . exact h.elim
  . exact h.elim)
@[irreducible] def mG : RM := λ x vs H Q => match x, vs with
  | .ref l, [] => match H l with
    | some (.lst _) => Q .non (upd H l (.lst []))
    | _ => False
  | _, _ => False
theorem pV : MtR X "list.clear" mG := λ pins s σ H x xs v us Q I rx rs h => mt_clear pins s σ H x xs v us Q I rx rs (by
  unfold mG at h
  split at h
  . split at h
    . exact ⟨_, _, rfl, rfl, by assumption, h⟩
    . exact h.elim
  . exact h.elim)
@[irreducible] def dclrG : RM := λ x vs H Q => match x, vs with
  | .ref a, [] => match H a with
    | some (.dT _) => Q .non (upd H a (.dT []))
    | some (.dK _) => Q .non (upd H a (.dK []))
    | _ => False
  | _, _ => False
theorem mt_dclrG : MtR X "dict.clear" dclrG := λ pins s σ H x xs v us Q I rx rs h => by
  unfold dclrG at h
  split at h
  . split at h
    . rename_i e
      cases rx
      have hus := rs.zero
      subst hus
      exact clear_dT I e λ s' I' => ⟨.non, _, I', rfl, h⟩
    . rename_i e
      cases rx
      have hus := rs.zero
      subst hus
      exact d_clear I e λ s' I' => ⟨.non, _, I', rfl, h⟩
    . exact h.elim
  . exact h.elim
@[irreducible] def jt : RM := λ x vs H Q => match x, vs with
  | .ref a, [y] => match cL H a y with
    | some o => Q (o.getD .non) H
    | none => False
  | .ref a, [y, z] => match cL H a y with
    | some o => Q (o.getD z) H
    | none => False
  | _, _ => False
theorem mt_dgetG {k : Nat} (hr : Room k X.A) : MtR X "dict.get" jt := λ pins s σ H x xs v us Q I rx rs h => by
  unfold jt at h
  split at h
  . split at h
    . rename_i a y _ o e
      cases rx
      obtain ⟨u, rfl, ru⟩ := bq rs
      exact d_get1 (hV hr) I (d9 e) ru λ w' s' I' rw' => ⟨_, H, I', rw', h⟩
    . exact h.elim
  . split at h
    . rename_i a y z _ o e
      cases rx
      obtain ⟨u, u2, rfl, ru, ru2⟩ := nA rs
      exact d_get2 (hV hr) I (d9 e) ru ru2 λ w' s' I' rw' => ⟨_, H, I', rw', h⟩
    . exact h.elim
  . exact h.elim
def bmR (T : String) (m : Str) : Option (String × RM) :=
  if T = "list" then
    if m = "append" then some ("list.append", eL) else if m = "clear" then some ("list.clear", mG) else none
  else if T = "dict" then
    if m = "get" then some ("dict.get", jt) else if m = "clear" then some ("dict.clear", dclrG) else none
  else if T = "str" then
    if m = "join" then some ("str.join", jq) else none
  else none
theorem bmR_ok {k : Nat} (hr : Room k X.A) {T : String} {m : Str} {i : String} {r : RM} (h : bmR T m = some (i, r)) : PlainAttrs T /\ Slot T m i /\ typeOf (.builtin i) = pure (.type "method_descriptor") /\ MtR X i r := by
  unfold bmR at h
  split at h
  . rename_i eT
    subst eT
    split at h
    . rename_i e; cases h; subst e; exact ⟨PySem.F.plainAttrs_list, PySem.F.slot_list_append, PySem.F.type_list_append, mF⟩
    split at h
    . rename_i e; cases h; subst e; exact ⟨PySem.F.plainAttrs_list, PySem.F.slot_list_clear, PySem.F.type_list_clear, pV⟩
    cases h
  split at h
  . rename_i eT
    subst eT
    split at h
    . rename_i e; cases h; subst e; exact ⟨PySem.F.plainAttrs_dict, PySem.F.slot_dict_get, PySem.F.type_dict_get, mt_dgetG hr⟩
    split at h
    . rename_i e; cases h; subst e; exact ⟨PySem.F.plainAttrs_dict, PySem.F.slot_dict_clear, PySem.F.type_dict_clear, mt_dclrG⟩
    cases h
  split at h
  . rename_i eT
    subst eT
    split at h
    . rename_i e; cases h; subst e; exact ⟨PySem.F.plainAttrs_str, PySem.F.slot_str_join, PySem.F.type_str_join, mt_joinG⟩
    cases h
  cases h
@[irreducible] def bmK (m : Str) (t : TA) (σ : St) (Q : VK) (x : V) (H1 : Hp) : Prop := match tyB H1 x with
  | some T => match bmR T m with
    | some (_, r) => t σ H1 λ xs H2 => r x xs H2 Q
    | none => False
  | none => False
def cW (m : Str) (to : TE) (t : TA) : TE := λ σ H Q => to σ H (bmK m t σ Q)
theorem few_of {env : Env} (h : es.any bJ = false) (hl : es.length < 29) : ((backTo cpos (starEach es env)).all (λ x => !x.1) && (backToKw cpos (keywordEach [] env)).all (λ x => x.1.isSome)
      && decide (es.length + ([] : List Keyword).length + (if ([] : List Keyword).isEmpty then 0 else 1) < 30)) = true := by
  rw [(aE (env := env) h).2]
  have : decide (es.length + ([] : List Keyword).length + (if ([] : List Keyword).isEmpty then 0 else 1) < 30) = true := by
    apply decide_eq_true
    simp
    omega
  rw [this]
  rfl
theorem pe_bmG {k : Nat} {m : Str} (hr : Room k X.A) (ho : PE X o to) (ha : PA X (e :: es) t) (hb : bi o = true) (hs : (e :: es).any bJ = false) (hl : (e :: es).length < 29) (hline : (apos.endLine == cpos.line) = true) : PE X (.Call (.Attribute o m apos) (e :: es) [] cpos) (cW m to t) := by
  intro pins s σ H Q I h
  refine wpAny_Call_method_late (cM hb) (few_of hs hl) hline rfl (thn (ho pins s σ H _ I h) λ v s1 ⟨x, H1, I1, r1, q1⟩ => ?_)
  unfold bmK at q1
  split at q1
  . rename_i T eT
    split at q1
    . rename_i i r eb
      obtain ⟨pa, sl, hty, hm⟩ := bmR_ok hr eb
      obtain ⟨h1, h2⟩ := tyV_is I1 r1 (tyB_ok (K := X.K) eT)
      refine ⟨T, i, pa, sl, hty, h1, h2, ?_⟩
      have hA := thn (ha cpos pins s1 σ H1 _ I1 q1) λ us s2 ⟨vs, H2, I2, r2, q2⟩ => hm pins s2 σ H2 x vs v us Q I2 r1 r2 q2
      have hs' := hs
      rw [List.any_cons, Bool.or_eq_false_iff] at hs'
      rw [aM hs'.1] at hA ⊢
      exact Calls.callWith_builtin (by show (false || (backTo cpos (starEach es X.env)).any (·.1)) = false; rw [(aE hs'.2).1]; rfl) (Calls.evalArgs_plain hA)
    . exact q1.elim
  . exact q1.elim
theorem pe_bmG0 {k : Nat} {m : Str} (hr : Room k X.A) (ho : PE X o to) (hb : bi o = true) (hline : (apos.endLine == cpos.line) = true) : PE X (.Call (.Attribute o m apos) [] [] cpos) (cW m to a8) := by
  intro pins s σ H Q I h
  refine wpAny_Call_method0_late (cM hb) hline (thn (ho pins s σ H _ I h) λ v s1 ⟨x, H1, I1, r1, q1⟩ => ?_)
  unfold bmK at q1
  split at q1
  . rename_i T eT
    split at q1
    . rename_i i r eb
      obtain ⟨pa, sl, hty, hm⟩ := bmR_ok hr eb
      obtain ⟨h1, h2⟩ := tyV_is I1 r1 (tyB_ok (K := X.K) eT)
      exact ⟨T, i, pa, sl, hty, h1, h2, Calls.callWith_builtin rfl (PySem.evalArgs_none (hm pins s1 σ H1 x [] v [] Q I1 r1 .nil q1))⟩
    . exact q1.elim
  . exact q1.elim
theorem ju {env : Env} {m : Str} (hb : bi o = true) (hs : es.any bJ = false) (hl : es.length < 29) (hline : (apos.endLine == cpos.line) = true) :
    eval (.Call (.Attribute o m apos) es [] cpos) env = (do
      let ov ← eval o env
      standAt apos.atName
      let (f, first) ← holding [ov] (getMethod ov m (do return (← importBound o env).getD true))
      callWith cpos f first (backTo cpos (starEach es env)) (backToKw cpos (keywordEach [] env))) := by
  rw [arm_eval_Call, cM hb]
  have hf : methodCallForm (es.length + ([] : List Keyword).length) (backTo cpos (starEach es env)) (backToKw cpos (keywordEach [] env)) = true := few_of hs hl
  simp only [methodCall, calleeOf, methodCallPos, hf, hline, if_true, Bool.not_true, Bool.false_or, pure_bind]
theorem ii {cl : Addr} {m : Str} {sp : Sp} {E : XK} {σ : St} {H : Hp} {Q : VK} (h : ee cl m sp E to t σ H Q) : tMeth cl m sp [] E (moE to) t σ H Q := ⟨_, h, λ x H1 q => by
  unfold nN at q
  split at q
  . split at q
    . obtain ⟨rfl, q1, q2⟩ := q
      exact ⟨_, _, _, rfl, by assumption, q1, q2⟩
    . exact q.elim
  . exact q.elim⟩
theorem pe_methG {k : Nat} {CX : CXT} {f cl : Addr} {fd : FuncData} {ps : List Str} {sp : Sp} {E : XK} {m : Str} (ho : PE X o to) (c : Cls X.K cl) (hm : Meth X.K cl m f) (F : FnOk X.prog X.w X.K X.mg X.base CX k f fd ps sp) (hr : Room k X.A) (b : Binds X.K fd ps []) (hx : bU CX X E) (ha : PA X (e :: es) t)
    (hb : bi o = true) (hs : (e :: es).any bJ = false) (hl : (e :: es).length < 29) (hline : (apos.endLine == cpos.line) = true) : PE X (.Call (.Attribute o m apos) (e :: es) [] cpos) (ee cl m sp E to t) := by
  have hs' := hs
  rw [List.any_cons, Bool.or_eq_false_iff] at hs'
  exact PE.imp (pe_meth (PE.mo ho) c hm F hr b .nil hx ha (aM hs'.1) (aE hs'.2).1 (ju hb hs hl hline)) λ σ H Q h => ii h
theorem pW {k : Nat} {CX : CXT} {f cl : Addr} {fd : FuncData} {ps : List Str} {sp : Sp} {E : XK} {m : Str} (ho : PE X o to) (c : Cls X.K cl) (hm : Meth X.K cl m f) (F : FnOk X.prog X.w X.K X.mg X.base CX k f fd ps sp) (hr : Room k X.A) (b : Binds X.K fd ps []) (hx : bU CX X E)
    (hb : bi o = true) (hline : (apos.endLine == cpos.line) = true) : PE X (.Call (.Attribute o m apos) [] [] cpos) (ee cl m sp E to a8) :=
  PE.imp (pe_meth0 (PE.mo ho) c hm F hr b .nil hx (ju hb rfl (by decide) hline)) λ σ H Q h => ii h
@[irreducible] def bV : TSet := λ o i v H Q => match o with
  | .ref p => match H p with
    | some (.lst xs) => match i with
      | .int k => match ixN xs.length k with
        | some j => Q (upd H p (.lst (xs.set j v)))
        | none => False
      | _ => False
    | some (.dK kvs) => match e8 i with
      | some k => kvs.length < sizeLine /\ Q (upd H p (.dK (b8 kvs k v)))
      | none => False
    | some (.dT kvs) => match i with
      | .ref b => match H b with
        | some (.tup xs) => match dl xs with
          | some k => kvs.length < sizeLine /\ Q (upd H p (.dT (b8 kvs k v)))
          | none => False
        | _ => False
      | _ => False
    | _ => False
  | _ => False
theorem set_G {k : Nat} (hr : Room k X.A) : PSet X bV := λ pins s σ H o i v ov iv u Q I ro ri rv h => by
  unfold bV at h
  split at h
  . rename_i p
    split at h
    . split at h
      . split at h
        . exact set_list pins s σ H _ _ v ov iv u Q I ro ri rv ⟨_, _, _, _, rfl, rfl, by assumption, by assumption, h⟩
        . exact h.elim
      . exact h.elim
    . split at h
      . rename_i kvs hp _ k' ek
        cases ro
        rw [fJ ek] at ri
        exact jh (hV hr) I (DPut.k hp h.1) ri rv λ s' I' => ⟨_, I', h.2⟩
      . exact h.elim
    . split at h
      . split at h
        . split at h
          . rename_i kvs hp _ b _ xs hb _ k' ek
            cases ro
            rw [eJ ek] at hb
            exact jh (hV hr) I (DPut.t hp hb h.1) ri rv λ s' I' => ⟨_, I', h.2⟩
          . exact h.elim
        . exact h.elim
      . exact h.elim
    . exact h.elim
  . exact h.elim
def ipAdd : TIp := λ x y H Q => match x, y with
  | .int i, .int j => Q (.int (i + j)) H
  | .str a, .str b => a.length + b.length <= sizeLine /\ Q (.str (a ++ b)) H
  | _, _ => False
def ipSub : TIp := λ x y H Q => match x, y with
  | .int i, .int j => Q (.int (i - j)) H
  | _, _ => False
def ipG : Operator -> TIp
  | .Add => ipAdd
  | .Sub => ipSub
  | _ => λ _ _ _ _ => False
theorem ip_addG : PIp X .Add ipAdd := λ pins s σ H x y v u Q I rx ry h => by
  unfold ipAdd at h
  split at h
  . exact ip_add pins s σ H _ _ v u Q I rx ry ⟨_, _, rfl, rfl, h⟩
  . exact kK pins s σ H _ _ v u Q I rx ry ⟨_, _, rfl, rfl, h⟩
  . exact h.elim
theorem ip_subG : PIp X .Sub ipSub := λ pins s σ H x y v u Q I rx ry h => by
  unfold ipSub at h
  split at h
  . exact ip_sub pins s σ H _ _ v u Q I rx ry ⟨_, _, rfl, rfl, h⟩
  . exact h.elim
theorem ip_G : ∀ op, PIp X op (ipG op)
  | .Add => ip_addG
  | .Sub => ip_subG
  | .Mult => λ _ _ _ _ _ _ _ _ _ _ _ _ h => h.elim
  | .FloorDiv => λ _ _ _ _ _ _ _ _ _ _ _ _ h => h.elim
  | .Mod => λ _ _ _ _ _ _ _ _ _ _ _ _ h => h.elim
  | .Pow => λ _ _ _ _ _ _ _ _ _ _ _ _ h => h.elim
  | .MatMult => λ _ _ _ _ _ _ _ _ _ _ _ _ h => h.elim
  | .Div => λ _ _ _ _ _ _ _ _ _ _ _ _ h => h.elim
  | .LShift => λ _ _ _ _ _ _ _ _ _ _ _ _ h => h.elim
  | .RShift => λ _ _ _ _ _ _ _ _ _ _ _ _ h => h.elim
  | .BitOr => λ _ _ _ _ _ _ _ _ _ _ _ _ h => h.elim
  | .BitXor => λ _ _ _ _ _ _ _ _ _ _ _ _ h => h.elim
  | .BitAnd => λ _ _ _ _ _ _ _ _ _ _ _ _ h => h.elim
end
def Itv (a : Addr) (xs : List V) : It := ⟨λ i H => H a = some (.lst xs) /\ i < xs.length, λ i H x H' => H' = H /\ xs.reverse[i]? = some x, λ i _ => xs.length <= i⟩
theorem turn_rev {P : Program} {w : World} {K : PySem.W.Frag} {tg : Expr} (it a : Addr) (xs : List V) : Turn P w K tg (Itv a xs) [it] it (λ i h => i <= xs.length /\ h.IsRevIter it a ((xs.length : Int) - 1 - i)) where
  mem := by simp
  obj := λ i h st b hb => by
    have e : b = it := by simpa using hb
    subst e
    obtain ⟨_, o, e, c, d⟩ := st
    exact ⟨o, e, λ v z => by rw [d] at z; cases z⟩
  keep := λ i h h' st k => ⟨st.1, st.2.at λ o e => k it (by simp) o e⟩
  item := by
    intro X hP hw hK hc i pins s σ H E I hf st hg
    subst hP hw hK
    obtain ⟨ha, hi⟩ := hg
    obtain ⟨its, rv, p, hz⟩ := I.list (.inl (.inl ha))
    have hl := rv.length
    obtain ⟨x, hx⟩ : ∃ x, xs[xs.length - 1 - i]? = some x := ⟨xs[xs.length - 1 - i], by simp⟩
    obtain ⟨u, hu, ru⟩ := rv.get hx
    obtain ⟨f0, f1, f2, f3, f4, f5⟩ := hf it (by simp)
    have ei : ((xs.length : Int) - 1 - (i : Int)) = ((xs.length - 1 - i : Nat) : Int) := by omega
    have st2 := st.2
    rw [ei] at st2
    refine wpAny_pyNext_rev_item st2 p.isList (x := u) (by simpa using hu) λ h' st' sb => ?_
    have I1 : Inv X pins σ H { s with heap := h' } := I.turned (t' := s.toks) (λ b o hb e => (sb.2 b hb).trans e) f0 f1 f3 f4 f5
    obtain ⟨o, e, c, d⟩ := id st'
    refine ⟨u, rfl, gU (s := { s with heap := h' }) e c d (by decide) ⟨x, H, I1, ru, ⟨rfl, ?_⟩, ⟨by omega, ?_⟩, λ b hb => (hf b hb).1⟩⟩
    . rw [List.getElem?_reverse (by omega)]
      exact hx
    . have : ((xs.length - 1 - i : Nat) : Int) - 1 = (xs.length : Int) - 1 - ((i + 1 : Nat) : Int) := by omega
      rw [<- this]
      exact st'
  done := by
    intro X hP hw hK hc i pins s σ H E I hf st hg
    subst hP hw hK
    obtain ⟨f0, f1, f2, f3, f4, f5⟩ := hf it (by simp)
    have hg : xs.length <= i := hg
    have ei : ((xs.length : Int) - 1 - (i : Int)) = -1 := by have := st.1; omega
    have st2 := st.2
    rw [ei] at st2
    exact wpAny_pyNext_rev_end (I.ok.hd hc) st2 λ h' eb => ⟨rfl, I.turned (t' := s.toks) (λ b o hb e => eb b o hb e) f0 f1 f3 f4 f5⟩
  self := λ _ _ _ _ _ st h => wpAny_pyIter_revIter st.2 h
theorem j0 : bootBuiltins "reversed" = some (.type "reversed") := by first | rfl | kernel_rfl
@[irreducible] def revG (vs : List V) (H : Hp) (R : It -> Hp -> Th -> Prop) : Prop := match vs with
  | [.ref a] => match H a with
    | some (.lst xs) => R (Itv a xs) H none
    | _ => False
  | _ => False
def iRevG (ta : TA) : TI2 := λ σ H R => ta σ H λ vs H1 => revG vs H1 R
section
variable {X : Cx} {tg : Expr}
theorem pi_rev {e : Expr} {es : List Expr} {ta : TA} {p pos : Pos} (hg : Gl X "reversed") (hm : X.mg "reversed" = none) (ha : PA X (e :: es) ta) (hs : (e :: es).any bJ = false) : PI2 X tg (.Call (.Name "reversed" p) (e :: es) [] pos) (iRevG ta) := by
  rw [List.any_cons, Bool.or_eq_false_iff] at hs
  intro pins s σ H R I h
  refine Call_ (gT I hg hm j0 (PyProof.Rows.callWith_type1 (thn (ha pos pins s σ H _ I h) λ us s1 ⟨vs, H1, I1, r1, q1⟩ => ?_) (aM hs.1) (aE hs.2).1))
  replace q1 : revG vs H1 R := q1
  unfold revG at q1
  split at q1
  . rename_i a
    split at q1
    . rename_i xs e
      obtain ⟨u, rfl, ru⟩ := bq r1
      cases ru
      obtain ⟨its, rv, p', hz⟩ := I1.list (.inl (.inl e))
      have hl := rv.length
      refine call_reversed_list p'.isList ?_
      have st : (s1.heap.push (revObj a (((its.toArray.size : Nat) : Int) - 1))).IsRevIter s1.heap.objs.size a (((its.toArray.size : Nat) : Int) - 1) := ⟨_, Heap.get?_push_size _ rfl, rfl, rfl⟩
      refine wpAny_pyIter_revIter st ⟨none, (λ _ _ e => by cases e), s1.heap.objs.size, [s1.heap.objs.size], _, Itv a xs, H1, rfl, I1.kept (t' := s1.toks) λ b o e => Heap.get?_push_of_some _ e, turn_rev _ a xs, ⟨Nat.zero_le _, ?_⟩, λ b hb => ?_, q1⟩
      . have : (((its.toArray.size : Nat) : Int) - 1) = (xs.length : Int) - 1 - ((0 : Nat) : Int) := by
          rw [List.size_toArray]
          omega
        rw [<- this]
        exact st
      . have e : b = s1.heap.objs.size := by simpa using hb
        subst e
        exact I1.fpOk (Nat.le_refl _) (I1.hok.fresh (Nat.le_refl _))
    . exact q1.elim
  . exact q1.elim
end
section
variable {X : Cx} {pins : List (Addr × Obj)} {σ : St} {H : Hp} {s : Shared} {h' : Heap}
theorem pX {p : Addr} {o : HO} (I : Inv X pins σ H s) (hf : jI X pins H p) (hp : X.s₀.heap.objs.size <= p) (new : ObjOk X.prog X.w (upd H p o) s.heap p o) : Inv X pins σ (upd H p o) s := by
  obtain ⟨f0, f1, f2, f3, f4, f5⟩ := hf
  refine ⟨I.ok, I.os, I.bare, ⟨I.base.keep, I.base.slot, λ b ob e n x => ?_, I.base.there, λ b xs e => ?_, λ b ob w e => ?_, λ b ps e => ?_⟩, I.loc, I.cell, ?_, λ x c e => ?_, λ q hq => ?_, λ b u e => ?_, I.len⟩
  . rw [a4 λ z => by rw [z] at e; exact absurd (Nat.lt_of_lt_of_le (Heap.lt_size e) hp) (Nat.lt_irrefl _)]
    exact I.base.free b ob e n x
  . have q := I.base.tups b xs e
    rw [a4 (ai q f0)]
    exact q
  . have q := I.base.frzs b ob w e
    rw [a4 (ai q f0)]
    exact q
  . obtain ⟨more, q⟩ := I.base.tbls b ps e
    exact ⟨more, by rw [a4 (ai q f0)]; exact q⟩
  . rw [a4 (Ne.symm f1)]
    exact I.free
  . rw [a4 (f4 x c e)]
    exact I.freeC x c e
  . obtain ⟨p1, p2, r⟩ := I.pin q hq
    refine ⟨p1, ?_, r⟩
    rw [a4 (f5 q hq)]
    exact p2
  . by_cases z : b = p
    . subst z
      rw [a5] at e
      cases e
      exact new
    . rw [a4 z] at e
      exact (I.hok b u e).stay (λ c v _ q => q) (λ c q => by rw [a4 (ai q f0)]; exact q) λ c xs q => by rw [a4 (ai q f0)]; exact q
end
section
variable {X : Cx}
end
section
variable {prog : Program} {w : World} {A : Around} {E : Value -> Shared -> Prop} {s : Shared} {d it S : Addr} {es : Array DictEntry} {ep i : Nat}
def ij (h : Heap) (it d : Addr) (i n ep : Nat) (f0 f1 ok ov : Value) : Prop :=
  h.get? it = some { cls := .type "dict_itemiterator", dict := none, data := .fields #[f0, f1, .ref d, .int i 0, .int n 0, .int ep 0, ok, ov], slots := #[] }
theorem pY {v : Addr} {Q : Value -> Shared -> Prop} (hv : s.heap.IsItemsView v d) (r : RawD s.heap d es ep)
    (q : Q (.ref s.heap.objs.size) { s with heap := s.heap.push { cls := .type "dict_itemiterator", data := .fields #[.none, .bool false, .ref d, .int 0 0, .int es.size 0, .int ep 0, .none, .none] } }) : wpAny (model prog w) A (pyIter (.ref v)) Q E s := by
  have ty := hv.typeIs
  obtain ⟨o, h1, h2, h3⟩ := r
  obtain ⟨u, u1, u2, u3⟩ := hv
  refine wpAny_pyIter_slot ty F.slot_dict_items_iter (wpAny_call_entry F.slot_dict_items_iter ty F.entry_dict_items_iter ?_ (F.args_dict_items_iter_1 _))
  unfold Builtin.«dict_items.__iter__» Builtin.Dict_items.dictOf Builtin.Dict_items.newIterator
  refine wpAny_bind (wpAny_pure (wpAny_bind (wpAny_bind (wpAny_field u1 u3 (x := .ref d) rfl (wpAny_pure (wpAny_bind (wpAny_bind (wpAny_dictEntries h1 h3 (wpAny_bind (wpAny_dictEpoch h1 h3 ?_))))))))))
  rw [show Builtin.Dict_items.ownsTuple "dict_itemiterator" = true by decide]
  simp only [if_true]
  refine wpAny_newObj_type (wpAny_pure ⟨_, rfl, "dict_itemiterator", _, ⟨_, Heap.get?_push_size _ rfl, rfl⟩, F.slot_dict_itemiterator_next.lookup, ?_⟩) (by simp only [sizeOk, Builtin.Dict_items.ownedTupleFields, List.size_toArray, List.length_append, List.length_cons, List.length_nil, sizeLine_eq]; omega)
  simpa [rawInt, Builtin.Dict_items.ownedTupleFields] using q
end
section
variable {prog : Program} {w : World} {A : Around} {s : Shared} {R : Result -> Shared -> Prop} {es : Array DictEntry} {ep : Nat}
end
section
variable {prog : Program} {w : World} {A : Around} {E : Value -> Shared -> Prop} {s : Shared} {d it : Addr} {es : Array DictEntry} {ep i : Nat} {ok ov : Value}
theorem pZ {e : DictEntry} {Q : Option Value -> Shared -> Prop} (hit : ij s.heap it d i es.size ep .none (.bool false) ok ov) (r : RawD s.heap d es ep) (he : es[i]? = some e)
    (q : ∀ h' : Heap, ij h' it d (i + 1) es.size ep (rawInt s.heap.objs.size) (.bool false) e.key e.val -> h'.get? s.heap.objs.size = some { cls := .type "tuple", data := .seq #[e.key, e.val] } →
      (∀ b o, b ≠ it -> s.heap.get? b = some o -> h'.get? b = some o) -> Q (some (.ref s.heap.objs.size)) { s with heap := h' }) : wpAny (model prog w) A (pyNext (.ref it)) Q E s := by
  obtain ⟨hp, g, dr, tk, os⟩ := s
  obtain ⟨b, h1, h2, h3⟩ := r
  have ty : Shared.TypeIs ⟨hp, g, dr, tk, os⟩ (.ref it) "dict_itemiterator" := ⟨_, hit, rfl⟩
  have hi : i < es.size := (Array.getElem?_eq_some_iff.mp he).1
  unfold pyNext
  refine wpAny_bind (wpAny_attempt (wpAny_callSpecial?_slot (name := Str.ofString "__next__") ty F.slot_dict_itemiterator_next (wpAny_call_entry F.slot_dict_itemiterator_next ty F.entry_dict_itemiterator_next ?_ (F.args_dict_itemiterator_next_1 _))))
  refine wpAny_bind (wpAny_pure (wpAny_bind (wpAny_bind (wpAny_bind (wpAny_typeNameOfWhole_itemiter ty (wpAny_pure (wpAny_bind (wpAny_fieldsOf hit rfl ?_))))))))
  rw [show Builtin.Dict_items.ownsTuple "dict_itemiterator" = true by decide]
  simp only [if_true]
  show wpAny _ _ (if (Value.ref d == Value.none) = true then _ else _) _ _ _
  rw [if_neg (show ¬ ((Value.ref d == Value.none) = true) from Bool.false_ne_true)]
  refine wpAny_bind (wpAny_pure (wpAny_bind (wpAny_dictEntries h1 h3 ?_)))
  rw [if_neg (by simp)]
  refine wpAny_bind (wpAny_pure (wpAny_bind (wpAny_dictEpoch h1 h3 ?_)))
  rw [if_neg (by simp)]
  refine wpAny_pure ?_
  simp only [show ¬ ((i : Int) < 0) from by omega, if_false, Int.toNat_natCast, he]
  refine wpAny_bind (wpAny_bind (wpAny_typeNameOfWhole_itemiter ty (wpAny_pure (wpAny_bind (wpAny_isOneOf_itemiter ty ?_)))))
  show wpAny _ _ (setField (.ref it) 3 (rawInt ((i : Int) + 1)) >>= _) _ _ (⟨hp, g, dr, tk, os⟩ : Shared)
  refine wpAny_bind (wpAny_setField_rec hit (by simp) λ k1 e1 s1 => ?_)
  replace s1 : Heap.SameBut it hp k1 := s1
  replace e1 : ij k1 it d (i + 1) es.size ep .none (.bool false) ok ov := by
    have z : ((i + 1 : Nat) : Int) = (i : Int) + 1 := by omega
    unfold ij
    rw [z]
    simpa [rawInt] using e1
  have ty1 : Shared.TypeIs ⟨k1, g, dr, tk, os⟩ (.ref it) "dict_itemiterator" := ⟨_, e1, rfl⟩
  refine wpAny_bind (wpAny_holding (wpAny_bind (wpAny_isOneOf_itemiter ty1 (wpAny_bind (wpAny_isOneOf_itemiter ty1 ?_)))))
  show wpAny _ _ (Builtin.Dict_items.pairFromOwner (.ref it) 6 e.key e.val) _ _ (⟨k1, g, dr, tk, os⟩ : Shared)
  unfold Builtin.Dict_items.pairFromOwner
  refine wpAny_bind (wpAny_newTuple ?_)
  have lt : it < hp.objs.size := Heap.lt_size hit
  obtain ⟨k2, k2e⟩ : ∃ k2, k2 = k1.push { cls := .type "tuple", data := .seq #[e.key, e.val] } := ⟨_, rfl⟩
  have e2 : ij k2 it d (i + 1) es.size ep .none (.bool false) ok ov := by rw [k2e]; exact Heap.get?_push_of_some _ e1
  have z1 : k1.objs.size = hp.objs.size := s1.1
  have t2 : k2.get? hp.objs.size = some { cls := .type "tuple", data := .seq #[e.key, e.val] } := by rw [k2e, <- z1]; exact Heap.get?_push_size _ rfl
  have kp : ∀ b o, b ≠ it -> hp.get? b = some o -> k2.get? b = some o := λ b o n z => by rw [k2e]; exact Heap.get?_push_of_some _ (s1.extBut b o n z)
  show wpAny _ _ (Builtin.Dict_items.ownedTupleIsFree (.ref it) >>= _) _ _ (⟨k1.push { cls := .type "tuple", data := .seq #[e.key, e.val] }, g, dr, tk, os⟩ : Shared)
  rw [<- k2e, z1]
  clear k2e e1 s1 ty1 z1
  refine wpAny_bind ?_
  unfold Builtin.Dict_items.ownedTupleIsFree
  refine wpAny_bind (wpAny_field e2 rfl (x := .none) rfl (wpAny_pure ?_))
  simp only [if_true]
  refine wpAny_bind (wpAny_field e2 rfl (x := ok) rfl (wpAny_bind (wpAny_field e2 rfl (x := ov) rfl (wpAny_bind (wpAny_setField_rec e2 (by simp) λ k3 e3 s3 => ?_)))))
  replace e3 : ij k3 it d (i + 1) es.size ep .none (.bool false) e.key ov := e3
  refine wpAny_bind (wpAny_setField_rec e3 (by simp) λ k4 e4 s4 => ?_)
  replace e4 : ij k4 it d (i + 1) es.size ep .none (.bool false) e.key e.val := e4
  refine wpAny_bind (wpAny_setField_rec e4 (by simp) λ k5 e5 s5 => ?_)
  replace e5 : ij k5 it d (i + 1) es.size ep (rawInt hp.objs.size) (.bool false) e.key e.val := e5
  refine wpAny_bind (wpAny_setField_rec e5 (by simp) λ k6 e6 s6 => ?_)
  replace e6 : ij k6 it d (i + 1) es.size ep (rawInt hp.objs.size) (.bool false) e.key e.val := e6
  have sb : Heap.SameBut it k2 k6 := ((Heap.SameBut.trans s3 s4).trans s5).trans s6
  exact wpAny_bind (wpAny_letGo (wpAny_pure (wpAny_pure ⟨_, rfl, wpAny_pure (q k6 e6 (sb.extBut _ _ (Nat.ne_of_gt lt) t2) λ b o n z => sb.extBut b o n (kp b o n z))⟩)))
theorem raw_end1 {Q : Option Value -> Shared -> Prop} (hh : A.handled = none) (hit : ij s.heap it d i es.size ep .none (.bool false) ok ov) (r : RawD s.heap d es ep) (he : es.size <= i) (q : ∀ h' : Heap, Heap.ExtBut it s.heap h' -> Q none { s with heap := h' }) : wpAny (model prog w) A (pyNext (.ref it)) Q E s := by
  obtain ⟨b, h1, h2, h3⟩ := r
  have ty : s.TypeIs (.ref it) "dict_itemiterator" := ⟨_, hit, rfl⟩
  unfold pyNext
  refine wpAny_bind (wpAny_attempt (wpAny_callSpecial?_slot (name := Str.ofString "__next__") ty F.slot_dict_itemiterator_next (wpAny_call_entry F.slot_dict_itemiterator_next ty F.entry_dict_itemiterator_next ?_ (F.args_dict_itemiterator_next_1 _))))
  refine wpAny_bind (wpAny_pure (wpAny_bind (wpAny_bind (wpAny_bind (wpAny_typeNameOfWhole_itemiter ty (wpAny_pure (wpAny_bind (wpAny_fieldsOf hit rfl ?_))))))))
  rw [show Builtin.Dict_items.ownsTuple "dict_itemiterator" = true by decide]
  simp only [if_true]
  show wpAny _ _ (if (Value.ref d == Value.none) = true then _ else _) _ _ _
  rw [if_neg (show ¬ ((Value.ref d == Value.none) = true) from Bool.false_ne_true)]
  refine wpAny_bind (wpAny_pure (wpAny_bind (wpAny_dictEntries h1 h3 ?_)))
  rw [if_neg (by simp)]
  refine wpAny_bind (wpAny_pure (wpAny_bind (wpAny_dictEpoch h1 h3 ?_)))
  rw [if_neg (by simp)]
  refine wpAny_pure ?_
  simp only [show ¬ ((i : Int) < 0) from by omega, if_false, Int.toNat_natCast, Array.getElem?_eq_none he]
  refine wpAny_bind (wpAny_bind (wpAny_typeNameOfWhole_itemiter ty (wpAny_pure ?_)))
  show wpAny _ _ (setField (.ref it) 2 .none >>= _) _ _ _
  refine wpAny_bind (wpAny_setField hit rfl (by simp) ?_)
  show wpAny _ _ (newExc (.type "StopIteration") [] >>= _) _ _ _
  refine wpAny_bind ?_
  simp only [newExc, newTuple]
  refine wpAny_bind (wpAny_newObj_type (wpAny_bind (m := firstArgMember _ _) (wpAny_of_eq (a := Value.none) (by first | rfl | (simp only [firstArgMember]; rfl)) (wpAny_newObj_type ?_ (by size_fits)))) (by size_fits))
  simp only [raiseNew]
  refine wpAny_bind (wpAny_handled ?_)
  rw [show A.in1.handled = none from hh]
  refine wpAny_bind (wpAny_pure (wpAny_throw ?_))
  refine wpAny_bind (wpAny_isInstance (T := "StopIteration") (b := true) ⟨_, Heap.get?_push_size _ rfl, rfl⟩ isSubtype_stop ?_)
  exact wpAny_pure (q _ (((Heap.SameBut.update ..).extBut.push _).push _))
theorem mH (d : Addr) (hd : (d == sysModules) = false) : MeetsIn prog w (Builtin.«dict.items» ⟨[.ref d], []⟩) (λ _ R s => s.TypeIs (.ref d) "dict" /\ R (.ok (.ret (.ref s.heap.objs.size))) { s with heap := s.heap.push { cls := .type "dict_items", data := .fields #[.ref d] } }) :=
  .of_wp λ A R s ⟨ty, h⟩ => by
    unfold Builtin.«dict.items» Builtin.Dict.noArgs
    refine wpAny_bind (wpAny_bind (wpAny_notOrdered_dict ty ?_))
    show wpAny _ _ (pure d) _ _ s
    refine wpAny_pure ?_
    show wpAny _ _ (Builtin.Dict.showsAll d >>= _) _ _ s
    unfold Builtin.Dict.showsAll
    rw [if_neg (by rw [hd]; decide)]
    exact wpAny_bind (wpAny_pure (wpAny_bind (wpAny_newObj_type (wpAny_pure ⟨_, rfl, h⟩))))
end
def Itq (a : Addr) (o : Obj) (kvs : List (List Key × V)) : It := ⟨λ i H => H a = some (.frz o (.dT kvs)) /\ i < kvs.length, λ i H x H' => ∃ k v t p, kvs[i]? = some (k, v) /\ x = .ref p /\ H t = some (.tup (k.map kV)) /\ H p = none /\ H' = upd H p (.tup [.ref t, v]), λ i H => H a = some (.frz o (.dT kvs)) /\ kvs.length <= i⟩
theorem turn_itq {P : Program} {w : World} {K : PySem.W.Frag} {el : List Expr} {k1 : Nat} {pos : Pos} (it a : Addr) (o : Obj) {kvs : List (List Key × V)} {es : Array DictEntry} {ep : Nat} (hl : es.size = kvs.length) (ho : o.data = .dict es ep) :
    Turn P w K (.Tuple el k1 pos) (Itq a o kvs) [it] it (λ i h => ∃ ok ov, ij h it a i es.size ep .none (.bool false) ok ov) where
  mem := by simp
  obj := λ i h st b hb => by
    have e : b = it := by simpa using hb
    subst e
    obtain ⟨ok, ov, e⟩ := st
    exact ⟨_, e, λ v z => by cases z⟩
  keep := λ i h h' ⟨ok, ov, e⟩ k => ⟨ok, ov, k it (by simp) _ e⟩
  item := by
    intro X hP hw hK hc i pins s σ H E I hf st hg
    subst hP hw hK
    obtain ⟨f0, f1, f2, f3, f4, f5⟩ := hf it (by simp)
    obtain ⟨ha, hi⟩ := hg
    obtain ⟨eo, _, _, xs, pr, o', es', ep', e1, e2, e3, e4, _⟩ := I.hok a _ ha
    rw [eo] at e1
    cases e1
    rw [ho] at e3
    cases e3
    obtain ⟨⟨k, v⟩, hx⟩ : ∃ p, kvs[i]? = some p := ⟨kvs[i], by simp [hi]⟩
    obtain ⟨⟨k', t, u⟩, hy, rk, rt, rv⟩ := ib pr hx
    have he : es[i]? = some (entryOfKey (tupleKind (ao X.prog X.w)) (k', t, u)) := by
      rw [<- Array.getElem?_toList, e4, List.getElem?_map, hy]
      rfl
    obtain ⟨ok, ov, st⟩ := st
    refine pZ st ⟨o, eo, e2, ho⟩ he λ h' hit' ht kp => ⟨_, rfl, ?_⟩
    refine wpAny_letOwnedTupleGo_items hit' λ h2 hit2 sb => ?_
    have hT : s.heap.objs.size ≠ it := Nat.ne_of_gt (Heap.lt_size st)
    have e2 : h2.get? s.heap.objs.size = some { cls := .type "tuple", data := .seq #[.ref t, u] } := sb.extBut _ _ hT ht
    have I1 : Inv X pins σ H { s with heap := h2 } := I.turned (t' := s.toks) (λ b o hb e => sb.extBut b o hb (kp b o hb e)) f0 f1 f3 f4 f5
    have hn : H s.heap.objs.size = none := I.hok.fresh (Nat.le_refl _)
    refine ⟨.ref s.heap.objs.size, upd H s.heap.objs.size (.tup [.ref t, v]), pX I1 (I.fpOk (Nat.le_refl _) hn) I.sz ⟨by show 2 <= sizeLine; decide, [.ref t, u], .cons rfl (.cons rv .nil), _, e2, rfl, _, rfl⟩, rfl, ⟨k, v, t, _, hx, rfl, rt, hn, rfl⟩, ⟨_, _, hit2⟩, λ b hb => ?_⟩
    have e : b = it := by simpa using hb
    subst e
    rw [a4 (Ne.symm hT)]
    exact f0
  done := by
    intro X hP hw hK hc i pins s σ H E I hf st hg
    subst hP hw hK
    obtain ⟨f0, f1, f2, f3, f4, f5⟩ := hf it (by simp)
    obtain ⟨ha, hi⟩ := hg
    obtain ⟨eo, _, _, xs, pr, o', es', ep', e1, e2, e3, e4, _⟩ := I.hok a _ ha
    rw [eo] at e1
    cases e1
    obtain ⟨ok, ov, st⟩ := st
    exact raw_end1 (I.ok.hd hc) st ⟨o, eo, e2, ho⟩ (by rw [hl]; exact hi) λ h' eb => ⟨rfl, I.turned (t' := s.toks) (λ b o hb e => eb b o hb e) f0 f1 f3 f4 f5⟩
  self := λ A i s Q E st h => by
    obtain ⟨ok, ov, st⟩ := st
    exact PySem.W.kcp_self st h
end Tv
namespace Tv
open PySem PySem.Spec PyProof.Rows L2
section
variable {X : Cx} {tg : Expr}
def ItR (X : Cx) (tg : Expr) (r : V -> Hp -> (It -> Hp -> Th -> Prop) -> Prop) : Prop :=
  ∀ (pins : List (Addr × Obj)) (s : Shared) (σ : St) (H : Hp) (x : V) (v : Value) (R : It -> Hp -> Th -> Prop), Inv X pins σ H s -> RelV x v -> r x H R -> wpAny (model X.prog X.w) X.A (pyIter v) (iX X pins σ tg R) X.xe s
@[irreducible] def aq (x : V) (H : Hp) (R : It -> Hp -> Th -> Prop) : Prop := match x with
  | .str z => R (Its z) H none
  | .ref a => match H a with
    | some (.lst _) => R (gE a) H none
    | some (.tup _) => R (Itt0 a) H none
    | some (.dK kvs) => ∀ o, R (Itd a o kvs) (upd H a (.frz o (.dK kvs))) (some (a, .dK kvs))
    | some (.frz o (.dK kvs)) => R (Itd a o kvs) H none
    | some (.dT kvs) => ∀ o, R (my a o kvs) (upd H a (.frz o (.dT kvs))) (some (a, .dT kvs))
    | some (.frz o (.dT kvs)) => R (my a o kvs) H none
    | _ => False
  | _ => False
theorem ik {X : Cx} : ∀ a u, (none : Th) = some (a, u) -> NF X a := λ _ _ e => by cases e
theorem nQ {pins : List (Addr × Obj)} {s : Shared} {σ : St} {H : Hp} {R : It -> Hp -> Th -> Prop} {a : Addr} {o : Obj} {kvs : List (Key × V)} {th : Th} (nf : ∀ a u, th = some (a, u) -> NF X a) (I : Inv X pins σ H s) (e : H a = some (.frz o (.dK kvs))) (h : R (Itd a o kvs) H th) : wpAny (model X.prog X.w) X.A (pyIter (.ref a)) (iX X pins σ tg R) X.xe s := by
  obtain ⟨lo, _, eo, vs, ep, r, d⟩ := frz_at I e
  refine wpAny_pyIter_dict lo d ⟨th, nf, s.heap.objs.size, [s.heap.objs.size], _, Itd a o kvs, H, rfl, I.kept (t' := s.toks) λ b o e => Heap.get?_push_of_some _ e, pH s.heap.objs.size a o r (i9 eo d), ⟨_, Heap.get?_push_size _ rfl, rfl, rfl⟩, λ b hb => ?_, h⟩
  have e : b = s.heap.objs.size := by simpa using hb
  subst e
  exact I.fpOk (Nat.le_refl _) (I.hok.fresh (Nat.le_refl _))
theorem it_dT {pins : List (Addr × Obj)} {s : Shared} {σ : St} {H : Hp} {R : It -> Hp -> Th -> Prop} {a : Addr} {o : Obj} {kvs : List (List Key × V)} {th : Th} (nf : ∀ a u, th = some (a, u) -> NF X a) (I : Inv X pins σ H s) (e : H a = some (.frz o (.dT kvs))) (h : R (my a o kvs) H th) : wpAny (model X.prog X.w) X.A (pyIter (.ref a)) (iX X pins σ tg R) X.xe s := by
  obtain ⟨lo, _, xs, es, ep, pr, e4, r⟩ := ie I (.inr ⟨o, e⟩)
  obtain ⟨o', r1, r2, r3⟩ := id r
  rw [(I.hok a _ e).1] at r1
  cases r1
  have hl : es.size = kvs.length := by
    rw [<- Array.length_toList, e4, List.length_map]
    exact (Paired.length pr).symm
  refine kZ lo r ⟨th, nf, s.heap.objs.size, [s.heap.objs.size], _, my a o kvs, H, rfl, I.kept (t' := s.toks) λ b o e => Heap.get?_push_of_some _ e, turn_dT s.heap.objs.size a o hl r3, ⟨_, Heap.get?_push_size _ rfl, rfl, rfl⟩, λ b hb => ?_, h⟩
  have e : b = s.heap.objs.size := by simpa using hb
  subst e
  exact I.fpOk (Nat.le_refl _) (I.hok.fresh (Nat.le_refl _))
theorem mI : ItR X tg aq := λ pins s σ H x v R I r h => by
  unfold aq at h
  split at h
  . rename_i z
    obtain ⟨t, rfl⟩ := r
    have fin : ∀ (o : Obj) (ty : String), ty = "str_ascii_iterator" \/ ty = "str_iterator" -> (s.heap.push o).IsStrIter s.heap.objs.size ty z t 0 -> iX X pins σ tg R (.ref s.heap.objs.size) { s with heap := s.heap.push o } := λ o ty hty st => by
      refine ⟨none, ik, s.heap.objs.size, [s.heap.objs.size], _, Its z, H, rfl, I.kept (t' := s.toks) λ b o e => Heap.get?_push_of_some _ e, turn_str _ z t ty hty, st, λ b hb => ?_, h⟩
      have e : b = s.heap.objs.size := by simpa using hb
      subst e
      exact I.fpOk (Nat.le_refl _) (I.hok.fresh (Nat.le_refl _))
    cases ha : z.cps.all (· < 128)
    . exact wpAny_pyIter_wide ha (fin _ _ (.inr rfl) ⟨_, Heap.get?_push_size _ rfl, rfl, rfl⟩)
    . exact wpAny_pyIter_ascii ha (fin _ _ (.inl rfl) ⟨_, Heap.get?_push_size _ rfl, rfl, rfl⟩)
  . rename_i a
    cases r
    split at h
    . rename_i xs e
      obtain ⟨its, rv, p, hz⟩ := I.list (.inl (.inl e))
      refine wpAny_pyIter_list p.isList ⟨none, ik, s.heap.objs.size, [s.heap.objs.size], _, gE a, H, rfl, I.kept (t' := s.toks) λ b o e => Heap.get?_push_of_some _ e, (oP (K := X.K) a _).imp (λ i H ⟨xs, x, h1, h2⟩ => ⟨xs, x, .inl h1, h2⟩) (λ i H x H' _ ⟨h1, h2⟩ => ⟨h1, λ xs h => h2 xs (.inl h)⟩) (λ i H ⟨xs, h1, h2⟩ => ⟨xs, .inl h1, h2⟩), ⟨_, Heap.get?_push_size _ rfl, rfl, rfl⟩, λ b hb => ?_, h⟩
      have e : b = s.heap.objs.size := by simpa using hb
      subst e
      exact I.fpOk (Nat.le_refl _) (I.hok.fresh (Nat.le_refl _))
    . rename_i xs e
      obtain ⟨its, rv, p, hz⟩ := I.tuple (.inl (.inl e))
      refine wpAny_pyIter_tuple (show s.heap.IsTuple a its.toArray from p) ⟨none, ik, s.heap.objs.size, [s.heap.objs.size], _, Itt0 a, H, rfl, I.kept (t' := s.toks) λ b o e => Heap.get?_push_of_some _ e, (m4 (K := X.K) a _).imp (λ i H ⟨xs, x, h1, h2⟩ => ⟨xs, x, .inl h1, h2⟩) (λ i H x H' _ ⟨h1, h2⟩ => ⟨h1, λ xs h => h2 xs (.inl h)⟩) (λ i H ⟨xs, h1, h2⟩ => ⟨xs, .inl h1, h2⟩), ⟨_, Heap.get?_push_size _ rfl, rfl, rfl⟩, λ b hb => ?_, h⟩
      have e : b = s.heap.objs.size := by simpa using hb
      subst e
      exact I.fpOk (Nat.le_refl _) (I.hok.fresh (Nat.le_refl _))
    . rename_i kvs e
      obtain ⟨nf, o, eo, I'⟩ := dm I e rfl
      exact nQ (th := some (a, .dK kvs)) (λ b u z => by cases z; exact nf) I' a5 (h o)
    . rename_i o kvs e
      exact nQ ik I e h
    . rename_i kvs e
      obtain ⟨nf, o, eo, I'⟩ := dm I e rfl
      exact it_dT (th := some (a, .dT kvs)) (λ b u z => by cases z; exact nf) I' a5 (h o)
    . rename_i o kvs e
      exact it_dT ik I e h
    . exact h.elim
  . exact h.elim
def iOf (r : V -> Hp -> (It -> Hp -> Th -> Prop) -> Prop) (te : TE) : TI2 := λ σ H R => te σ H λ x H1 => r x H1 R
theorem il {r : V -> Hp -> (It -> Hp -> Th -> Prop) -> Prop} {e : Expr} {te : TE} (hr : ItR X tg r) (he : PE X e te) : PI2 X tg e (iOf r te) := λ pins s σ H R I h =>
  thn (he pins s σ H _ I h) λ v s1 ⟨x, H1, I1, r1, q1⟩ => hr pins s1 σ H1 x v R I1 r1 q1
def xI2 : TI2 := λ _ _ _ => False
theorem pi2_x {e : Expr} : PI2 X tg e xI2 := λ _ _ _ _ _ _ h => h.elim
def rngG (vs : List V) (H : Hp) (R : It -> Hp -> Th -> Prop) : Prop := match vs with
  | [.int j] => (-(2 ^ 62) <= j /\ j < 2 ^ 62) /\ R (Itr 0 j.toNat) H none
  | [.int i, .int j] => (-(2 ^ 62) <= i /\ i < 2 ^ 62 /\ -(2 ^ 62) <= j /\ j < 2 ^ 62) /\ R (Itr i (j - i).toNat) H none
  | _ => False
def dL (ta : TA) : TI2 := λ σ H R => ta σ H λ vs H1 => rngG vs H1 R
theorem l4 {pins : List (Addr × Obj)} {σ : St} {R : It -> Hp -> Th -> Prop} {v : Value} {s : Shared} (h : PIE X pins σ tg (λ J H => R J H none) v s) : iX X pins σ tg R v s := ⟨none, ik, h⟩
theorem pi_rng {e : Expr} {es : List Expr} {ta : TA} {p pos : Pos} (hg : Gl X "range") (hm : X.mg "range" = none) (ha : PA X (e :: es) ta) (hs : (e :: es).any bJ = false) : PI2 X tg (.Call (.Name "range" p) (e :: es) [] pos) (dL ta) := by
  rw [List.any_cons, Bool.or_eq_false_iff] at hs
  intro pins s σ H R I h
  refine Call_ (gT I hg hm boot_range (PyProof.Rows.callWith_type1 (thn (ha pos pins s σ H _ I h) λ us s1 ⟨vs, H1, I1, r1, q1⟩ => ?_) (aM hs.1) (aE hs.2).1))
  have q1 : rngG vs H1 R := q1
  unfold rngG at q1
  split at q1
  . obtain ⟨⟨h1, h2⟩, q⟩ := q1
    obtain ⟨u, rfl, ru⟩ := bq r1
    obtain ⟨t, rfl⟩ := ru
    exact call_range_1 (thn (kJ (tg := tg) (R := λ J H => R J H none) I1 (by omega) (by omega) h1 h2 (by simpa using q)) λ _ _ z => l4 z)
  . obtain ⟨⟨h1, h2, h3, h4⟩, q⟩ := q1
    obtain ⟨u, u2, rfl, ru, ru2⟩ := nA r1
    obtain ⟨t, rfl⟩ := ru
    obtain ⟨t', rfl⟩ := ru2
    exact call_range_2 (thn (kJ (tg := tg) (R := λ J H => R J H none) I1 h1 h2 h3 h4 q) λ _ _ z => l4 z)
  . exact q1.elim
@[irreducible] def cX (x : V) (H : Hp) (R : It -> Hp -> Th -> Prop) : Prop := match x with
  | .ref a => match H a with
    | some (.dK kvs) => ∀ o, R (Itp a o kvs) (upd H a (.frz o (.dK kvs))) (some (a, .dK kvs))
    | some (.frz o (.dK kvs)) => R (Itp a o kvs) H none
    | some (.dT kvs) => ∀ o, R (Itq a o kvs) (upd H a (.frz o (.dT kvs))) (some (a, .dT kvs))
    | _ => False
  | _ => False
theorem l5 {es : List Expr} {k1 : Nat} {tp : Pos} {pins : List (Addr × Obj)} {s : Shared} {σ : St} {H : Hp} {R : It -> Hp -> Th -> Prop} {a v : Addr} {o : Obj} {kvs : List (Key × V)} {th : Th} (nf : ∀ a u, th = some (a, u) -> NF X a) (I : Inv X pins σ H s) (e : H a = some (.frz o (.dK kvs))) (hv : s.heap.IsItemsView v a) (h : R (Itp a o kvs) H th) : wpAny (model X.prog X.w) X.A (pyIter (.ref v)) (iX X pins σ (.Tuple es k1 tp) R) X.xe s := by
  obtain ⟨lo, _, eo, vs, ep, r, d⟩ := frz_at I e
  refine wpAny_pyIter_items hv d ⟨th, nf, s.heap.objs.size, [s.heap.objs.size], _, Itp a o kvs, H, rfl, I.kept (t' := s.toks) λ b o e => Heap.get?_push_of_some _ e, mw s.heap.objs.size a o r (i9 eo d), ⟨.none, .none, Heap.get?_push_size _ rfl⟩, λ b hb => ?_, h⟩
  have e : b = s.heap.objs.size := by simpa using hb
  subst e
  exact I.fpOk (Nat.le_refl _) (I.hok.fresh (Nat.le_refl _))
theorem it_itq {el : List Expr} {k1 : Nat} {tp : Pos} {pins : List (Addr × Obj)} {s : Shared} {σ : St} {H : Hp} {R : It -> Hp -> Th -> Prop} {a v : Addr} {o : Obj} {kvs : List (List Key × V)} {th : Th} (nf : ∀ a u, th = some (a, u) -> NF X a) (I : Inv X pins σ H s) (e : H a = some (.frz o (.dT kvs))) (hv : s.heap.IsItemsView v a) (h : R (Itq a o kvs) H th) : wpAny (model X.prog X.w) X.A (pyIter (.ref v)) (iX X pins σ (.Tuple el k1 tp) R) X.xe s := by
  obtain ⟨lo, _, xs, es, ep, pr, e4, r⟩ := ie I (.inr ⟨o, e⟩)
  obtain ⟨o', r1, r2, r3⟩ := id r
  rw [(I.hok a _ e).1] at r1
  cases r1
  have hl : es.size = kvs.length := by
    rw [<- Array.length_toList, e4, List.length_map]
    exact (Paired.length pr).symm
  refine pY hv r ⟨th, nf, s.heap.objs.size, [s.heap.objs.size], _, Itq a o kvs, H, rfl, I.kept (t' := s.toks) λ b o e => Heap.get?_push_of_some _ e, turn_itq s.heap.objs.size a o hl r3, ⟨.none, .none, Heap.get?_push_size _ rfl⟩, λ b hb => ?_, h⟩
  have e : b = s.heap.objs.size := by simpa using hb
  subst e
  exact I.fpOk (Nat.le_refl _) (I.hok.fresh (Nat.le_refl _))
theorem pi_items {d : Expr} {td : TE} {es : List Expr} {k1 : Nat} {tp apos cpos : Pos} (hd : PE X d td) (hb : bi d = true) (hline : (apos.endLine == cpos.line) = true) : PI2 X (.Tuple es k1 tp) (.Call (.Attribute d "items" apos) [] [] cpos) (iOf cX td) := by
  intro pins s σ H R I h
  refine wpAny_Call_method0_late (cM hb) hline (thn (hd pins s σ H _ I h) λ v s1 ⟨x, H1, I1, r1, q1⟩ => ?_)
  replace q1 : cX x H1 R := q1
  have go : ∀ a : Addr, x = .ref a -> (s1.TypeIs (.ref a) "dict" /\ (∀ b, Value.ref a = .ref b -> ∃ ob, s1.heap.get? b = some ob /\ ob.dict = none) /\ (a == sysModules) = false) -> (∀ s2, Inv X pins σ H1 s2 -> s2.heap.IsItemsView s1.heap.objs.size a -> wpAny (model X.prog X.w) X.A (pyIter (.ref s1.heap.objs.size)) (iX X pins σ (.Tuple es k1 tp) R) X.xe s2) →
      ∃ T id, PlainAttrs T /\ Slot T "items" id /\ typeOf (.builtin id) = pure (.type "method_descriptor") /\ s1.TypeIs v T /\ (∀ a, v = .ref a -> ∃ ob, s1.heap.get? a = some ob /\ ob.dict = none) ∧
        wpAny (model X.prog X.w) X.A (callWith cpos (.builtin id) [v] (backTo cpos (starEach [] X.env)) (backToKw cpos (keywordEach [] X.env))) (λ v s1 => wpAny (model X.prog X.w) X.A (pyIter v) (iX X pins σ (.Tuple es k1 tp) R) X.xe s1) X.xe s1 := λ a ea hk next => by
    subst ea
    cases r1
    obtain ⟨ty, nd, lo⟩ := hk
    refine ⟨"dict", "dict.items", PySem.F.plainAttrs_dict, PySem.F.slot_dict_items, PySem.F.type_dict_items, ty, nd, Calls.callWith_builtin rfl (PySem.evalArgs_none ?_)⟩
    refine call_meetsIn PySem.F.slot_dict_items ty PySem.F.entry_dict_items (PySem.F.args_dict_items_1 _) (mH a lo) ⟨ty, ?_⟩
    exact next _ (I1.kept (t' := s1.toks) λ b o e => Heap.get?_push_of_some _ e) ⟨_, Heap.get?_push_size _ rfl, rfl, rfl⟩
  unfold cX at q1
  split at q1
  . rename_i a
    split at q1
    . rename_i kvs e
      refine go a rfl (mi I1 (.inl ⟨kvs, .inl e⟩)) λ s2 I2 hv => ?_
      obtain ⟨nf, o, eo, I'⟩ := dm I2 e rfl
      exact l5 (th := some (a, .dK kvs)) (λ b u z => by cases z; exact nf) I' a5 hv (q1 o)
    . rename_i o kvs e
      exact go a rfl (mi I1 (.inl ⟨kvs, .inr ⟨o, e⟩⟩)) λ s2 I2 hv => l5 ik I2 e hv q1
    . rename_i kvs e
      refine go a rfl (mi I1 (.inr ⟨kvs, .inl e⟩)) λ s2 I2 hv => ?_
      obtain ⟨nf, o, eo, I'⟩ := dm I2 e rfl
      exact it_itq (th := some (a, .dT kvs)) (λ b u z => by cases z; exact nf) I' a5 hv (q1 o)
    . exact q1.elim
  . exact q1.elim
structure Cfg where
  K : PySem.W.Frag
  N : List Str
  names : List (Str × NameKind)
  fns : List (Str × Sp)
  mks : List (Str × Addr × Sp)
  mts : List (Str × Addr × Sp)
  fld : List (Str × Addr)
  glo : List (Str × V)
  nog : List Str
  scr : List Str
  E : XK
  ics : List Addr
structure IsC (K : PySem.W.Frag) (C : Addr) : Prop where
  cl : Cls K C
  ha : PySem.W.findIn K (.ref C) "__class__" = some (some (.builtin "object.__class__"))
  hn : PySem.W.specialIn K (.builtin "object.__class__") "__get__" = some (some (.builtin "getset_descriptor.__get__"))
  tk : PySem.W.takesIn K (.builtin "object.__class__") = some true
  hm : PySem.W.mroIn K C (.type "object") = some true
@[irreducible] def isiC (ics : List Addr) : List V -> Hp -> VK -> Prop := λ xs H Q => match xs with
  | [.ref a, .ref c] => match H a with
    | some (.ins C _ _) => C = c /\ c ∈ ics /\ Q (.bl true) H
    | _ => False
  | _ => False
theorem q8 {X : Cx} {ics : List Addr} (hi : ∀ c ∈ ics, IsC X.K c) : CallR X (.builtin "isinstance") (isiC ics) := λ pins s σ H xs us Q I r h => by
  unfold isiC at h
  split at h
  . split at h
    . rename_i a c _ C dx fs ea
      obtain ⟨rfl, hc, q⟩ := h
      obtain ⟨u, w', rfl, ru, rw'⟩ := nA r
      cases rw'
      have ic := hi _ hc
      exact ja I ru (.ins ea ic.cl ic.ha ic.hn ic.tk ic.hm) (by unfold PySem.W.kitOne; simp) λ tk => ⟨.bl true, H, I.tok tk, rfl, q⟩
    . exact h.elim
  . exact h.elim
structure Fits (CX : CXT) (k : Nat) (X : Cx) (C : Cfg) : Prop where
  K : X.K = C.K
  N : X.N = C.N
  nd : C.N.Nodup
  names : X.env.scope.names = C.names
  kind : X.env.scope.kind = .function
  calm : X.calm = true
  room : Room (k + 1) X.A
  pass : bU CX X C.E
  no : ∀ (o : List Env) (H : Hp) (s : Shared) (e : Value) (s' : Shared), CX o H s E0 e s' -> False
  fns : ∀ x sp, C.fns.lookup x = some sp -> ∃ f fd ps, FnOk X.prog X.w X.K X.mg X.base CX k f fd ps sp /\ X.mg x = some (.ref f) /\ PySem.W.keepIn X.K (.ref f) = true /\ Binds X.K fd ps []
  mks : ∀ x cl sp, C.mks.lookup x = some (cl, sp) -> ∃ f fd ps, Mk X.K cl f /\ FnOk X.prog X.w X.K X.mg X.base CX k f fd ps sp /\ X.mg x = some (.ref cl) /\ Binds X.K fd ps []
  mts : ∀ m cl sp, C.mts.lookup m = some (cl, sp) -> ∃ f fd ps, Cls X.K cl /\ Meth X.K cl m f /\ FnOk X.prog X.w X.K X.mg X.base CX k f fd ps sp /\ Binds X.K fd ps []
  fld : ∀ f cl, C.fld.lookup f = some cl -> Cls X.K cl /\ NoAttr X.K cl f
  glo : ∀ x v, C.glo.lookup x = some v -> ∃ u, X.mg x = some u /\ RelV v u
  nog : ∀ x ∈ C.nog, X.mg x = none
  ics : ∀ c ∈ C.ics, IsC X.K c
def jV (x : Str) : Bool := !(x == ("__debug__" : Str)) && !(x == ("__classdict__" : Str))
def nameG (C : Cfg) (x : Str) : TE := match jV x with
  | true => match C.names.lookup x with
    | some .globalImplicit => match C.glo.lookup x with
      | some v => tC v
      | none => match C.nog.contains x, mE x with
        | true, some T => tC (.ty T)
        | _, _ => xE
    | some .local => match bz C.N x with
      | some i => gv i
      | none => xE
    | some .cell => match bz C.N x with
      | some i => gv i
      | none => xE
    | _ => xE
  | false => xE
section
variable {CX : CXT} {k : Nat} {C : Cfg}
theorem pe_nameG (F : Fits CX k X C) (x : Str) (pos : Pos) : PE X (.Name x pos) (nameG C x) := by
  unfold nameG
  split
  . rename_i ok
    simp only [jV, Bool.and_eq_true, Bool.not_eq_true'] at ok
    split
    . rename_i e
      have hg : Gl X x := by
        show X.env.scope.names.lookup x = _
        rw [F.names]
        exact e
      split
      . rename_i v ev
        obtain ⟨u, hm, r⟩ := F.glo x v ev
        exact pe_glob hg hm r ok.1
      . split
        . rename_i h1 h2
          obtain ⟨b1, b2, b3⟩ := pU h2
          exact pe_bltn hg (F.nog x (by simpa using h1)) b1 rfl b2 b3
        . exact bx
    . rename_i e
      split
      . rename_i i ei
        exact pe_gv (by rw [F.N]; exact bG ei) (.inl (by rw [F.names]; exact e)) ok.1 ok.2
      . exact bx
    . rename_i e
      split
      . rename_i i ei
        exact pe_gv (by rw [F.N]; exact bG ei) (.inr (.inl (by rw [F.names]; exact e))) ok.1 ok.2
      . exact bx
    . exact bx
  . exact bx
end
end
section
variable {prog : Program} {w : World} {A : Around} {E : Value -> Shared -> Prop} {s : Shared} {es : Array DictEntry} {ep : Nat} {r d : Addr}
end
section
variable {X : Cx} {pins : List (Addr × Obj)} {σ : St} {s0 s : Shared}
end
section
variable {prog : Program} {w : World} {A : Around} {E : Value -> Shared -> Prop} {s : Shared}
end
section
variable {X : Cx}
end
section
variable {X : Cx}
end
structure W where
  E : Cfg -> Expr -> TE
  T : Cfg -> Expr -> TT
  S : Cfg -> Stmt -> TS
def wA (w : W) (C : Cfg) : List Expr -> TA
  | [] => a8
  | e :: es => match bJ e with
    | true => xA
    | false => a3 (w.E C e) (wA w C es)
def constG : Const -> TE
  | .int i => tC (.int i)
  | .bool b => tC (.bl b)
  | .none => tC .non
  | .str x => tC (.str x)
  | _ => xE
def andG (w : W) (C : Cfg) : List Expr -> TE
  | [] => xE
  | [a] => w.E C a
  | a :: r => tAndG (w.E C a) (andG w C r)
def orG (w : W) (C : Cfg) : List Expr -> TE
  | [] => xE
  | [a] => w.E C a
  | a :: r => tOrG (w.E C a) (orG w C r)
def andB (w : W) (C : Cfg) : List Expr -> TT
  | [] => xT
  | [a] => w.T C a
  | a :: r => e9 (w.T C a) (andB w C r)
def orB (w : W) (C : Cfg) : List Expr -> TT
  | [] => xT
  | [a] => w.T C a
  | a :: r => mt (w.T C a) (orB w C r)
def jv : Expr -> Bool
  | .Set _ _ _ => true
  | _ => false
def jW : Expr -> Bool
  | .Slice _ _ _ _ => true
  | _ => false
def fo : Expr -> Bool
  | .ListComp _ _ _ _ => true
  | .SetComp _ _ _ _ => true
  | .DictComp _ _ _ _ _ => true
  | _ => false
def isScr (C : Cfg) : Expr -> Bool
  | .Name x _ => C.scr.contains x
  | _ => false
def qb (w : W) (C : Cfg) (a : Expr) : List CmpOp -> List Expr -> TE
  | [op], [b] => match jv b with
    | false => tOp (cmpG op) (w.E C a) (w.E C b)
    | true => xE
  | [op, op'], [b, c] => match jv c with
    | false => fi (cmpG op) (cmpG op') (w.E C a) (w.E C b) (w.E C c)
    | true => xE
  | _, _ => xE
def l6 (t : TE) : TO := λ σ H Q => t σ H λ x H1 => match x with
  | .int i => Q (some i) H1
  | _ => False
def poG (w : W) (C : Cfg) : Option Expr -> TO
  | none => fE
  | some e => l6 (w.E C e)
@[irreducible] def slH (a : Addr) (lo hi : Option Int) (H : Hp) (Q : VK) : Prop := match H a with
  | some (.lst xs) => newO H (.lst (iU xs lo hi)) Q
  | _ => False
def slG : V -> Option Int -> Option Int -> Hp -> VK -> Prop := λ x lo hi H Q => match x with
  | .str z => z.length <= sizeLine /\ Q (.str (Txt.slice z lo hi)) H
  | .ref a => slH a lo hi H Q
  | _ => False
def lenS (K : PySem.W.Frag) : List V -> Hp -> VK -> Prop := λ xs H Q => ∃ p ys, xs = [.ref p] /\ SqL K H p ys /\ Q (.int ys.length) H
def isOwn (C : Cfg) : List Expr -> Bool
  | [.Name y _] => match C.glo.lookup y with
    | some (.ref _) => true
    | _ => false
  | _ => false
def nR (w : W) (C : Cfg) (x : Str) (es : List Expr) : TE := match jV x, C.names.lookup x, es.any bJ with
  | true, some .globalImplicit, false => match C.fns.lookup x with
    | some sp => am sp [] C.E (wA w C es)
    | none => match C.mks.lookup x with
      | some (cl, sp) => nB cl sp [] C.E (wA w C es)
      | none => match C.nog.contains x, es with
        | true, e :: r => match bltF x with
          | some (i, rd) => match i == "len" && isScr C e && r.isEmpty with
            | true => tCB (lenS C.K) (wA w C (e :: r))
            | false => match i == "isinstance" && isOwn C r with
              | true => tCB (isiC C.ics) (wA w C (e :: r))
              | false => tCB rd (wA w C (e :: r))
          | none => match bltC x with
            | some (i, rd) => tCB rd (wA w C (e :: r))
            | none => xE
        | _, _ => xE
  | _, _, _ => xE
def methG (w : W) (C : Cfg) (o : Expr) (m : Str) (apos cpos : Pos) (es : List Expr) : TE := match bi o, es.any bJ, decide (es.length < 29), (apos.endLine == cpos.line) with
  | true, false, true, true => match C.mts.lookup m with
    | some (cl, sp) => ee cl m sp C.E (w.E C o) (wA w C es)
    | none => cW m (w.E C o) (wA w C es)
  | _, _, _, _ => xE
def dM (C : Cfg) (x : Str) : Option Nat := match C.names.lookup x with
  | some .local => bz C.N x
  | some .cell => bz C.N x
  | _ => none
def gNm (C : Cfg) (x : Str) : TG := match dM C x with
  | some i => a6 i
  | none => xG
def l7 (C : Cfg) : List Expr -> TGs
  | [] => fB
  | .Name x _ :: r => b5 (gNm C x) (l7 C r)
  | _ :: _ => λ _ _ _ _ => False
def wG (C : Cfg) : Expr -> TG
  | .Name x _ => gNm C x
  | .Tuple ts _ _ => cJ ts.length (l7 C ts)
  | _ => xG
def isTup : Expr -> Bool
  | .Tuple _ _ _ => true
  | _ => false
def wIN (w : W) (C : Cfg) (tg : Expr) (x : Str) (e : Expr) (es : List Expr) : TI2 := match decide (x = "range"), C.names.lookup x, C.nog.contains x, (e :: es).any bJ with
    | true, some .globalImplicit, true, false => dL (wA w C (e :: es))
    | true, _, _, _ => xI2
    | false, _, _, _ => match decide (x = "reversed"), C.names.lookup x, C.nog.contains x, (e :: es).any bJ with
      | true, some .globalImplicit, true, false => iRevG (wA w C (e :: es))
      | true, _, _, _ => xI2
      | false, _, _, _ => iOf aq (nR w C x (e :: es))
def wIM (w : W) (C : Cfg) (tg d : Expr) (m : Str) (apos cpos : Pos) : TI2 := match isTup tg && decide (m = "items") && bi d && (apos.endLine == cpos.line) with
    | true => iOf cX (w.E C d)
    | false => iOf aq (w.E C (.Call (.Attribute d m apos) [] [] cpos))
def wI (w : W) (C : Cfg) (tg : Expr) : Expr -> TI2
  | .Call (.Name x _) (e :: es) [] _ => wIN w C tg x e es
  | .Call (.Attribute d m apos) [] [] cpos => wIM w C tg d m apos cpos
  | .Set _ _ _ => xI2
  | e => iOf aq (w.E C e)
def g8 (C : Cfg) : List (Str × NameKind) -> Option (List (Str × Nat))
  | [] => some []
  | (x, .free) :: r => match bz C.N x, C.names.lookup x, g8 C r with
    | some j, some .cell, some l => some ((x, j) :: l)
    | _, _, _ => none
  | (_, .cell) :: _ => none
  | _ :: r => g8 C r
def l8 (C : Cfg) (names : List (Str × NameKind)) : List (Str × NameKind) := names.map λ (n, k) => if (k == NameKind.free && C.names.lookup n == some .cell) = true then (n, .cell) else (n, k)
def jX : Expr -> Option (List Str)
  | .Name x _ => some [x]
  | .Tuple ts _ _ => ts.mapM λ e => match e with
    | .Name x _ => some x
    | _ => none
  | _ => none
def ifsG (w : W) (C : Cfg) : List Expr -> TT
  | [] => gF
  | [c] => w.T C c
  | _ => xT
def cN (tn : List Str) (fr : List (Str × Nat)) (names : List (Str × NameKind)) : Bool :=
  decide (tn ++ fr.map (·.1)).Nodup && (names.all λ y => names.lookup y.1 == some y.2) && tn.all λ x => names.lookup x == some .local
def dN (C : Cfg) (tn : List Str) (fr : List (Str × Nat)) (names : List (Str × NameKind)) : Cfg := { C with N := tn ++ fr.map (·.1), names := l8 C names, E := E0, scr := [] }
def l9 (w : W) (C : Cfg) (elt : Expr) (gens : List Comprehension) (scope : Scope) : TE := match gens with
  | [⟨tg, it, ifs, 0⟩] => match jX tg, g8 C scope.names, scope.kind, jv it with
    | some tn, some fr, .function, false => match cN tn fr scope.names with
      | true => aZ (wI w C tg it) tn fr (wG (dN C tn fr scope.names) tg) (ifsG w (dN C tn fr scope.names) ifs) (w.E (dN C tn fr scope.names) elt)
      | false => xE
    | _, _, _, _ => xE
  | _ => xE
def aH (t : TA) : TE := λ σ H Q => t σ H λ xs H1 => xs.length <= sizeLine /\ newO H1 (.lst xs) Q
def bf (t : TA) : TE := λ σ H Q => t σ H λ xs H1 => xs.length <= sizeLine /\ newO H1 (.tup xs) Q
def rSlS (K : PySem.W.Frag) : V -> Option Int -> Option Int -> Hp -> VK -> Prop := λ x lo hi H Q => ∃ a xs, x = .ref a /\ SqL K H a xs /\ newO H (.lst (iU xs lo hi)) Q
def fK : TE := λ _ H Q => newO H (.dK []) Q \/ newO H (.dT []) Q
def jY (w : W) (C : Cfg) : List (Option Expr) -> List Expr -> Option (List (TE × TE))
  | [], [] => some []
  | some k :: ks, v :: vs => match jY w C ks vs with
    | some l => some ((w.E C k, w.E C v) :: l)
    | none => none
  | _, _ => none
def dispG (w : W) (C : Cfg) (ks : List (Option Expr)) (vs : List Expr) : TE := match jY w C ks vs, decide (ks.length <= 15) with
  | some [], _ => fK
  | some l, true => ji l
  | _, _ => xE
def slX (w : W) (C : Cfg) (a : Expr) (lo hi : Option Expr) : TE := match isScr C a with
  | true => tSl (rSlS C.K) (w.E C a) (poG w C lo) (poG w C hi)
  | false => tSl slG (w.E C a) (poG w C lo) (poG w C hi)
def subX (w : W) (C : Cfg) (a b : Expr) : TE := match jW b, isScr C a with
  | false, true => tOp (rIxL C.K) (w.E C a) (w.E C b)
  | false, false => tOp aw (w.E C a) (w.E C b)
  | true, _ => xE
def attX (w : W) (C : Cfg) (o : Expr) (f : Str) : TE := match C.fld.lookup f, bi o with
  | some cl, true => i8 cl f (w.E C o)
  | _, _ => xE
def la (w : W) (C : Cfg) (e : Expr) : TE := match e with
  | .Constant c _ _ => constG c
  | .Name x _ => nameG C x
  | .BinOp a op b _ => tOp (binG op) (w.E C a) (w.E C b)
  | .UnaryOp .Not a _ => tNotG (w.E C a)
  | .UnaryOp .USub a _ => tUn i7 (w.E C a)
  | .BoolOp .And es _ => andG w C es
  | .BoolOp .Or es _ => orG w C es
  | .Compare a ops bs _ => qb w C a ops bs
  | .IfExp c a b _ => tIfG (w.T C c) (w.E C a) (w.E C b)
  | .List es _ => aH (wA w C es)
  | .Tuple es _ _ => bf (wA w C es)
  | .Dict ks vs _ => dispG w C ks vs
  | .Subscript a (.Slice lo hi none _) _ => slX w C a lo hi
  | .Subscript a b _ => subX w C a b
  | .Attribute o f _ => attX w C o f
  | .Call (.Name x _) es [] _ => nR w C x es
  | .Call (.Attribute o m apos) es [] cpos => methG w C o m apos cpos es
  | .ListComp elt gens scope _ => l9 w C elt gens scope
  | _ => xE
def stepT (w : W) (C : Cfg) (e : Expr) : TT := match e with
  | .UnaryOp .Not a _ => fA (w.T C a)
  | .UnaryOp _ _ _ => xT
  | .BoolOp .And es _ => andB w C es
  | .BoolOp .Or es _ => orB w C es
  | .IfExp _ _ _ _ => xT
  | .Compare a ops bs _ => bT (qb w C a ops bs)
  | e => ptG (la w C e)
def wSs (w : W) (C : Cfg) : List Stmt -> TS
  | [] => ay
  | [s] => w.S C s
  | s :: r => ad (w.S C s) (wSs w C r)
def sIf (c : TT) (t u : TS) : TS := λ D σ H => c σ H λ b H1 => br b (t D σ H1) (u D σ H1)
def isDoc : Expr -> Bool
  | .Constant (.str _) _ _ => true
  | _ => false
@[irreducible] def sfH (cl : Addr) (f : Str) (p : Addr) (y : V) (σ : St) (H2 : Hp) (N : St -> Hp -> Prop) : Prop := match H2 p with
  | some (.ins C dx fs) => C = cl /\ fs.length < 1000 /\ N σ (upd H2 p (.ins C dx (putF f y fs)))
  | _ => False
def lc (cl : Addr) (f : Str) (to te : TE) : TS := λ D σ H => te σ H λ y H1 => to σ H1 λ x H2 => match x with
  | .ref p => sfH cl f p y σ H2 D.nx
  | _ => False
def asgN (w : W) (C : Cfg) (x : Str) (e : Expr) : TS := match dM C x with
  | some i => ah (w.E C e) (a6 i)
  | none => xS
def asgS (w : W) (C : Cfg) (o i e : Expr) : TS := match jW i, fo e with
  | false, false => ah (w.E C e) (dS (w.E C o) (w.E C i) bV)
  | _, _ => xS
def asgF (w : W) (C : Cfg) (o : Expr) (f : Str) (e : Expr) : TS := match C.fld.lookup f, fo e with
  | some cl, false => lc cl f (w.E C o) (w.E C e)
  | _, _ => xS
def asgT (w : W) (C : Cfg) (ts : List Expr) (e : Expr) : TS := match isTup e, fo e with
  | false, false => ah (w.E C e) (nJ ts.length (l7 C ts))
  | _, _ => xS
def asgG (w : W) (C : Cfg) (tg e : Expr) : TS := match tg with
  | .Name x _ => asgN w C x e
  | .Subscript o i _ => asgS w C o i e
  | .Attribute o f _ => asgF w C o f e
  | .Tuple ts _ _ => asgT w C ts e
  | _ => xS
def augG (w : W) (C : Cfg) (tg : Expr) (op : Operator) (e : Expr) : TS := match tg with
  | .Name x _ => match dM C x with
    | some i => tAug i (w.E C e) (ipG op)
    | none => xS
  | _ => xS
def exX (w : W) (C : Cfg) (e : Expr) : TS := match isDoc e, fo e with
  | true, _ => ay
  | false, false => cj (w.E C e)
  | _, _ => xS
def forX (w : W) (C : Cfg) (tg it : Expr) (body : List Stmt) : TS := match jv it with
  | false => aN (wI w C tg it) (wG C tg) (wSs w C body)
  | true => xS
def stepS (w : W) (C : Cfg) (s : Stmt) : TS := match s with
  | .Expr e _ => exX w C e
  | .Return (some e) _ => aD (w.E C e)
  | .Return none _ => tRetN
  | .Pass _ => ay
  | .If c a b _ => sIf (w.T C c) (wSs w C a) (wSs w C b)
  | .For tg it body [] _ => forX w C tg it body
  | .Assign [tg] e _ => asgG w C tg e
  | .AugAssign tg op e _ => augG w C tg op e
  | _ => xS
def step (w : W) : W := ⟨la w, stepT w, stepS w⟩
def wp : Nat -> W
  | 0 => ⟨λ _ _ => xE, λ _ _ => xT, λ _ _ => xS⟩
  | n + 1 => step (wp n)
end Tv
namespace Tv
open PySem PySem.Spec PyProof.Rows L2
structure Snd (w : W) : Prop where
  E : ∀ {CX : CXT} {k : Nat} {X : Cx} {C : Cfg}, Fits CX k X C -> ∀ e, PE X e (w.E C e)
  T : ∀ {CX : CXT} {k : Nat} {X : Cx} {C : Cfg}, Fits CX k X C -> ∀ e, PT X e (w.T C e)
  A : ∀ {CX : CXT} {k : Nat} {X : Cx} {C : Cfg}, Fits CX k X C -> (∀ x, X.fn x = true) -> ∀ (x : Str) (i : Nat) (pos' pos : Pos) (e : Expr), dM C x = some i -> PS X (.Assign [.Name x pos'] e pos) (ah (w.E C e) (a6 i))
  S : ∀ {CX : CXT} {k : Nat} {X : Cx} {C : Cfg}, Fits CX k X C -> PassesOwn (model X.prog X.w) X.A X.env X.xe -> (∀ x, X.fn x = true) -> ∀ s, PS X s (w.S C s)
section
variable {CX : CXT} {k : Nat} {X : Cx} {C : Cfg} {w : W}
theorem dc (hw : Snd w) (F : Fits CX k X C) : ∀ es, PA X es (wA w C es)
  | [] => pa_nil
  | e :: es => by
    unfold wA
    split
    . exact pa_x
    . rename_i h
      exact pa_cons (hw.E F e) (dc hw F es) (aM h)
theorem qc {j : Nat} {pos : Pos} : ∀ c, PE X (.Constant c j pos) (constG c)
  | .int _ => pe_int
  | .bool _ => pe_bl
  | .none => pe_non
  | .str _ => pe_str
  | .float _ => bx
  | .complex _ _ => bx
  | .bytes _ => bx
  | .ellipsis => bx
theorem nS (hw : Snd w) (F : Fits CX k X C) {pos : Pos} : ∀ es, PE X (.BoolOp .And es pos) (andG w C es)
  | [] => bx
  | [a] => pe_one (hw.E F a)
  | a :: b :: r => pe_andG (hw.E F a) (nS hw F (b :: r))
theorem orG_ok (hw : Snd w) (F : Fits CX k X C) {pos : Pos} : ∀ es, PE X (.BoolOp .Or es pos) (orG w C es)
  | [] => bx
  | [a] => pe_one (hw.E F a)
  | a :: b :: r => pe_orG (hw.E F a) (orG_ok hw F (b :: r))
theorem pw_x {e : Expr} : PW X e xT := λ _ _ _ _ _ _ _ h => h.elim
theorem nT (hw : Snd w) (F : Fits CX k X C) {pos : Pos} : ∀ es, PW X (.BoolOp .And es pos) (andB w C es)
  | [] => pw_x
  | [a] => pw_and1 (hw.T F a)
  | a :: b :: r => pw_andB (hw.T F a) (nT hw F (b :: r))
theorem orB_ok (hw : Snd w) (F : Fits CX k X C) {pos : Pos} : ∀ es, PW X (.BoolOp .Or es pos) (orB w C es)
  | [] => pw_x
  | [a] => pw_or1 (hw.T F a)
  | a :: b :: r => pw_orB (hw.T F a) (orB_ok hw F (b :: r))
theorem gO {op : CmpOp} {b : Expr} (h : jv b = false) : behindInMarks op b = false := by
  cases b <;> first | rfl | cases h
theorem cmpE_ok (hw : Snd w) (F : Fits CX k X C) {a : Expr} {ops : List CmpOp} {bs : List Expr} {pos : Pos} : PE X (.Compare a ops bs pos) (qb w C a ops bs) := by
  unfold qb
  split
  . split
    . exact pe_cmpR (eK F.room _) (hw.E F _) (hw.E F _) (gO (by assumption))
    . exact bx
  . split
    . exact pF (eK F.room _) (eK F.room _) (hw.E F _) (hw.E F _) (hw.E F _) (gO (by assumption))
    . exact bx
  . exact bx
theorem pt_bx {e : Expr} : PT X e (bT xE) := λ _ _ _ _ _ _ h => h.elim
theorem cmpT_ok (hw : Snd w) (F : Fits CX k X C) {a : Expr} {ops : List CmpOp} {bs : List Expr} {pos : Pos} : PT X (.Compare a ops bs pos) (bT (qb w C a ops bs)) := by
  unfold qb
  split
  . split
    . exact pt_cmpG (eK F.room _) (hw.E F _) (hw.E F _) (gO (by assumption))
    . exact pt_bx
  . split
    . exact pG (eK F.room _) (eK F.room _) (hw.E F _) (hw.E F _) (hw.E F _) (gO (by assumption))
    . exact pt_bx
  . exact pt_bx
theorem po_G {e : Expr} {t : TE} (h : PE X e t) : PO X (some e) (l6 t) := λ pins s σ H Q I q => po_some (PE.mo h) pins s σ H Q I ⟨_, q, λ x H1 q1 => by
  cases x <;> first | exact ⟨_, rfl, q1⟩ | exact q1.elim⟩
theorem jZ (hw : Snd w) (F : Fits CX k X C) : ∀ o, PO X o (poG w C o)
  | none => po_none
  | some e => po_G (hw.E F e)
theorem sl_G : SlR X slG := λ pins s σ H x v vl vu lo hi sl Q I rx hs pl pu h => by
  unfold slG at h
  split at h
  . exact sl_str pins s σ H _ v vl vu lo hi sl Q I rx hs pl pu ⟨_, rfl, h.1, h.2⟩
  . unfold slH at h
    split at h
    . exact nF pins s σ H _ v vl vu lo hi sl Q I rx hs pl pu ⟨_, _, rfl, .inl (.inl (by assumption)), h.at⟩
    . exact h.elim
  . exact h.elim
theorem gl_of (F : Fits CX k X C) {x : Str} (h : C.names.lookup x = some .globalImplicit) : Gl X x := by
  show X.env.scope.names.lookup x = _
  rw [F.names]
  exact h
theorem qd (F : Fits CX k X C) : CallR X (.builtin "len") (lenS C.K) := CallR.imp fF λ xs H Q ⟨p, ys, e, h, q⟩ => ⟨p, ys, e, .inl (by rw [F.K]; exact h), q⟩
theorem ld (hw : Snd w) (F : Fits CX k X C) {x : Str} {es : List Expr} {p pos : Pos} : PE X (.Call (.Name x p) es [] pos) (nR w C x es) := by
  unfold nR
  split
  . rename_i ok e hs
    simp only [jV, Bool.and_eq_true, Bool.not_eq_true'] at ok
    have hg := gl_of F e
    split
    . rename_i sp ef
      obtain ⟨f, fd, ps, G, hm, hk, hb⟩ := F.fns x sp ef
      cases es with
      | nil => exact pe_call0 G (F.room.mono (Nat.le_succ _)) hg hm hk hb .nil F.pass ok.1
      | cons a r =>
        have hs' := hs
        rw [List.any_cons, Bool.or_eq_false_iff] at hs'
        exact pe_call G (F.room.mono (Nat.le_succ _)) hg hm hk hb .nil F.pass (dc hw F _) ok.1 (aM hs'.1) (aE hs'.2).1
    . split
      . rename_i cl sp ef
        obtain ⟨f, fd, ps, M, G, hm, hb⟩ := F.mks x cl sp ef
        cases es with
        | nil => exact pe_make0 M G F.room hg hm hb .nil F.pass ok.1
        | cons a r =>
          have hs' := hs
          rw [List.any_cons, Bool.or_eq_false_iff] at hs'
          exact pe_make M G F.room hg hm hb .nil F.pass (dc hw F _) ok.1 (aM hs'.1) (aE hs'.2).1
      . split
        . rename_i a r hn
          have hm := F.nog x (by simpa using hn)
          have hs' := hs
          rw [List.any_cons, Bool.or_eq_false_iff] at hs'
          split
          . rename_i i rd eb
            obtain ⟨c1, c2, c3, c4⟩ := bltF_ok F.calm eb
            split
            . rename_i hc
              simp only [Bool.and_eq_true] at hc
              have ei : i = "len" := by simpa using hc.1.1
              subst ei
              exact gZ (qd F) hg hm c2 (dc hw F _) c3 c4 (aM hs'.1) (aE hs'.2).1
            . split
              . rename_i hc
                simp only [Bool.and_eq_true] at hc
                have ei : i = "isinstance" := by simpa using hc.1
                subst ei
                exact gZ (q8 F.ics) hg hm c2 (dc hw F _) c3 c4 (aM hs'.1) (aE hs'.2).1
              . exact gZ c1 hg hm c2 (dc hw F _) c3 c4 (aM hs'.1) (aE hs'.2).1
          . split
            . rename_i i rd eb
              obtain ⟨c1, c2, c3, c4⟩ := bltC_ok F.calm eb
              exact oX c1 hg hm c2 (dc hw F _) c3 c4 (aM hs'.1) (aE hs'.2).1
            . exact bx
        . exact bx
  . exact bx
theorem methG_ok (hw : Snd w) (F : Fits CX k X C) {o : Expr} {m : Str} {es : List Expr} {apos cpos : Pos} : PE X (.Call (.Attribute o m apos) es [] cpos) (methG w C o m apos cpos es) := by
  unfold methG
  split
  . rename_i h1 h2 h3 h4
    have h3' : es.length < 29 := of_decide_eq_true h3
    split
    . rename_i cl sp em
      obtain ⟨f, fd, ps, cc, mm, G, hb⟩ := F.mts m cl sp em
      cases es with
      | nil => exact pW (hw.E F o) cc mm G (F.room.mono (Nat.le_succ _)) hb F.pass h1 h4
      | cons a r => exact pe_methG (hw.E F o) cc mm G (F.room.mono (Nat.le_succ _)) hb F.pass (dc hw F _) h1 h2 h3' h4
    . cases es with
      | nil => exact pe_bmG0 F.room (hw.E F o) h1 h4
      | cons a r => exact pe_bmG F.room (hw.E F o) (dc hw F _) h1 h2 h3' h4
  . exact bx
theorem im (F : Fits CX k X C) {x : Str} {i : Nat} (h : dM C x = some i) : X.N[i]? = some x /\ Loc X.env.scope x /\ (X.env.scope.names.lookup x = some .local \/ C.names.lookup x = some .cell) := by
  unfold dM at h
  split at h
  . rename_i e
    have e' : X.env.scope.names.lookup x = some .local := by rw [F.names]; exact e
    exact ⟨by rw [F.N]; exact bG h, .inl e', .inl e'⟩
  . rename_i e
    have e' : X.env.scope.names.lookup x = some .cell := by rw [F.names]; exact e
    exact ⟨by rw [F.N]; exact bG h, .inr e', .inr e⟩
  . cases h
theorem k0 (F : Fits CX k X C) : X.N.Nodup := by rw [F.N]; exact F.nd
theorem mJ (F : Fits CX k X C) {x : Str} {pos : Pos} (hx : C.names.lookup x = some .cell -> X.fn x = true) : PG X (.Name x pos) (gNm C x) := by
  unfold gNm
  split
  . rename_i i ei
    obtain ⟨h1, h2, h3⟩ := im F ei
    exact pg_name (k0 F) h1 h2 (h3.elim .inr λ z => .inl (hx z))
  . exact pg_x
theorem k7 (F : Fits CX k X C) : ∀ ts : List Expr, (∀ x pos, Expr.Name x pos ∈ ts -> C.names.lookup x = some .cell -> X.fn x = true) -> PGs X ts (l7 C ts)
  | [], _ => pgs_nil
  | e :: r, h => by
    cases e with
    | Name x pos => exact pgs_cons (mJ F (h x pos (by simp))) (k7 F r λ y q hy => h y q (List.mem_cons_of_mem _ hy))
    | _ => exact λ _ _ _ _ _ _ _ _ _ z => z.elim
theorem fq {C : Cfg} {env : Env} : ∀ {ts : List Expr}, (∀ v σ H Q, l7 C ts v σ H Q -> False) \/ ((assignEach ts env).length = ts.length /\ (assignEach ts env).findIdx? (·.1) = none)
  | [] => .inr ⟨rfl, rfl⟩
  | e :: r => by
    cases e with
    | Name x pos =>
      rcases fq (C := C) (env := env) (ts := r) with h | ⟨h1, h2⟩
      . exact .inl λ v σ H Q ⟨a, b, e, q⟩ => by
          unfold gNm at q
          cases hsl : dM C x with
          | none => rw [hsl] at q; exact q
          | some i => rw [hsl] at q; exact h _ _ _ _ q
      . refine .inr ⟨?_, ?_⟩
        . show ((false, _) :: assignEach r env).length = _
          simp [h1]
        . show List.findIdx? _ ((false, _) :: assignEach r env) = none
          simp [List.findIdx?_cons, h2]
    | _ => exact .inl λ v σ H Q z => z
theorem gTupQ_ok (F : Fits CX k X C) {ts : List Expr} {j : Nat} {pos : Pos} (h : ∀ x pos, Expr.Name x pos ∈ ts -> C.names.lookup x = some .cell -> X.fn x = true) : PG X (.Tuple ts j pos) (nJ ts.length (l7 C ts)) := by
  rcases fq (C := C) (env := X.env) (ts := ts) with z | ⟨h1, h2⟩
  . exact λ pins s σ H v u Q I r ⟨a, xs, e, hr, hl, q⟩ => (z _ _ _ _ q).elim
  . exact pg_tupQ F.calm (k7 F ts h) h1 h2
theorem nU (F : Fits CX k X C) {ts : List Expr} {j : Nat} {pos : Pos} (h : ∀ x pos, Expr.Name x pos ∈ ts -> C.names.lookup x = some .cell -> X.fn x = true) : PG X (.Tuple ts j pos) (cJ ts.length (l7 C ts)) := by
  rcases fq (C := C) (env := X.env) (ts := ts) with z | ⟨h1, h2⟩
  . exact λ pins s σ H v u Q I r ⟨a, xs, e, hr, hl, q⟩ => (z _ _ _ _ q).elim
  . exact nH F.calm (k7 F ts h) h1 h2
end
def dU (env : Env) : List (Str × NameKind) -> List (Str × Addr) -> List (Str × Addr)
  | [], acc => acc
  | (x, .free) :: r, acc => dU env r ((x, (env.cells.lookup x).getD 0) :: acc)
  | (_, _) :: r, acc => dU env r acc
theorem nV {env : Env} : ∀ {names : List (Str × NameKind)} {acc : List (Str × Addr)}, (∀ x, (x, NameKind.free) ∈ names -> ∃ c, env.cells.lookup x = some c) →
    (forIn names acc (λ (p : Str × NameKind) (r : List (Str × Addr)) => if (p.2 == .free) = true then do let c ← cellOf env p.1; pure (ForInStep.yield ((p.1, c) :: r)) else pure (ForInStep.yield r)) : Sem (List (Str × Addr))) = pure (dU env names acc)
  | [], acc, _ => by rw [List.forIn_nil]; rfl
  | (x, kd) :: r, acc, h => by
    rw [List.forIn_cons]
    have ih := λ acc => nV (env := env) (names := r) (acc := acc) λ y hy => h y (List.mem_cons_of_mem _ hy)
    cases kd with
    | free =>
      obtain ⟨c, hc⟩ := h x (by simp)
      have e1 : cellOf env x = pure c := by unfold cellOf; rw [hc]
      simp only [beq_self_eq_true, if_true, e1, pure_bind]
      rw [ih]
      show _ = pure (dU env r ((x, (env.cells.lookup x).getD 0) :: acc))
      rw [hc]
      rfl
    | «local» => simpa [dU] using ih acc
    | cell => simpa [dU] using ih acc
    | globalExplicit => simpa [dU] using ih acc
    | globalImplicit => simpa [dU] using ih acc
theorem gG {scope : Scope} {env : Env} (h : ∀ x, (x, NameKind.free) ∈ scope.names -> ∃ c, env.cells.lookup x = some c) : closureFor scope env = pure (dU env scope.names []) := by
  have := nV (env := env) (names := scope.names) (acc := []) h
  unfold closureFor
  simpa using this
theorem io {env : Env} : ∀ {names : List (Str × NameKind)} {acc : List (Str × Addr)} {p : Str × Addr}, p ∈ dU env names acc -> p ∈ acc \/ ((p.1, NameKind.free) ∈ names /\ p.2 = (env.cells.lookup p.1).getD 0)
  | [], acc, p, h => .inl h
  | (x, kd) :: r, acc, p, h => by
    cases kd with
    | free =>
      rcases io (names := r) h with h | ⟨h1, h2⟩
      . rcases List.mem_cons.mp h with rfl | h
        . exact .inr ⟨by simp, rfl⟩
        . exact .inl h
      . exact .inr ⟨List.mem_cons_of_mem _ h1, h2⟩
    | _ =>
      rcases io (names := r) h with h | ⟨h1, h2⟩
      . exact .inl h
      . exact .inr ⟨List.mem_cons_of_mem _ h1, h2⟩
theorem ip {env : Env} : ∀ {names : List (Str × NameKind)} {acc : List (Str × Addr)} {p : Str × Addr}, p ∈ acc -> p ∈ dU env names acc
  | [], acc, p, h => h
  | (x, kd) :: r, acc, p, h => by
    cases kd with
    | free => exact ip (names := r) (List.mem_cons_of_mem _ h)
    | _ => exact ip (names := r) h
theorem lf {env : Env} : ∀ {names : List (Str × NameKind)} {acc : List (Str × Addr)} {x : Str}, (x, NameKind.free) ∈ names -> ∃ c, (x, c) ∈ dU env names acc
  | (y, kd) :: r, acc, x, h => by
    rcases List.mem_cons.mp h with e | h2
    . cases e
      exact ⟨_, ip (names := r) (List.mem_cons_self)⟩
    . cases kd <;> exact lf (names := r) h2
theorem bW {α β : Type} [BEq α] [LawfulBEq α] : ∀ {l : List (α × β)} {a : α} {b : β}, l.lookup a = some b -> (a, b) ∈ l
  | (x, y) :: r, a, b, h => by
    rw [List.lookup_cons] at h
    split at h
    . rename_i e
      cases h
      have := eq_of_beq e
      subst this
      simp
    . exact List.mem_cons_of_mem _ (bW h)
theorem eY {α β : Type} [BEq α] [LawfulBEq α] : ∀ {l : List (α × β)} {a : α} {b : β}, (a, b) ∈ l -> ∃ c, l.lookup a = some c
  | (x, y) :: r, a, b, h => by
    rw [List.lookup_cons]
    split
    . exact ⟨_, rfl⟩
    . rename_i ne
      rcases List.mem_cons.mp h with e | h
      . cases e
        simp at ne
      . exact eY h
section
variable {CX : CXT} {k : Nat} {X : Cx} {C : Cfg} {w : W} {scope : Scope} {tn : List Str} {fr : List (Str × Nat)}
theorem k8 (F : Fits CX k X C) : (relabel scope X.env).names = l8 C scope.names := by
  unfold relabel l8
  simp only
  apply List.map_congr_left
  rintro ⟨n, kd⟩ _
  have e1 : (X.env.scope.kind == ScopeKind.function) = true := by rw [F.kind]; rfl
  have e2 : X.env.kindOf n = C.names.lookup n := by show X.env.scope.names.lookup n = _; rw [F.names]
  simp only [e1, e2, Bool.and_true]
theorem gs {names : List (Str × NameKind)} {x : Str} : ∀ {kd : NameKind}, names.lookup x = some kd -> (l8 C names).lookup x = some (if (kd == NameKind.free && C.names.lookup x == some .cell) = true then .cell else kd) := by
  induction names with
  | nil => intro kd h; cases h
  | cons p r ih =>
    intro kd h
    obtain ⟨n, q⟩ := p
    rw [List.lookup_cons] at h
    unfold l8
    rw [List.map_cons, List.lookup_cons]
    split at h
    . rename_i e
      cases h
      have e' := eq_of_beq e
      subst e'
      by_cases hc : (kd == NameKind.free && C.names.lookup x == some .cell) = true
      . simp only [hc, if_true, beq_self_eq_true]
      . simp only [hc, if_false, beq_self_eq_true, Bool.false_eq_true]
    . rename_i ne
      have e1 : (x == (if (q == NameKind.free && C.names.lookup n == some .cell) = true then (n, NameKind.cell) else (n, q)).1) = false := by
        split <;> simpa using ne
      simp only [e1]
      exact ih h
theorem g9 : ∀ {names : List (Str × NameKind)} {fr : List (Str × Nat)}, g8 C names = some fr -> (∀ y ∈ names, y.2 ≠ .cell) /\ (∀ x, (x, NameKind.free) ∈ names -> C.names.lookup x = some .cell) ∧
    ∀ q ∈ fr, bz C.N q.1 = some q.2 /\ C.names.lookup q.1 = some .cell /\ (q.1, NameKind.free) ∈ names
  | [], fr, h => by
    cases h
    exact ⟨λ y hy => by simp at hy, λ x hx => by simp at hx, λ q hq => by simp at hq⟩
  | (x, kd) :: r, fr, h => by
    cases kd with
    | free =>
      unfold g8 at h
      split at h
      . rename_i j l e1 e2 e3
        cases h
        obtain ⟨i1, i2, i3⟩ := g9 e3
        refine ⟨λ y hy => ?_, λ z hz => ?_, λ q hq => ?_⟩
        . rcases List.mem_cons.mp hy with rfl | hy
          . simp
          . exact i1 y hy
        . rcases List.mem_cons.mp hz with e | hz
          . cases e; exact e2
          . exact i2 z hz
        . rcases List.mem_cons.mp hq with rfl | hq
          . exact ⟨e1, e2, by simp⟩
          . obtain ⟨a, b, c⟩ := i3 q hq
            exact ⟨a, b, List.mem_cons_of_mem _ c⟩
      . cases h
    | cell => cases h
    | _ =>
      obtain ⟨i1, i2, i3⟩ := g9 (names := r) (fr := fr) h
      refine ⟨λ y hy => ?_, λ z hz => ?_, λ q hq => ?_⟩
      . rcases List.mem_cons.mp hy with rfl | hy
        . simp
        . exact i1 y hy
      . rcases List.mem_cons.mp hz with e | hz
        . cases e
        . exact i2 z hz
      . obtain ⟨a, b, c⟩ := i3 q hq
        exact ⟨a, b, List.mem_cons_of_mem _ c⟩
theorem jw (F : Fits CX k X C) (ok : X.Ok) (hf : g8 C scope.names = some fr) (hk : scope.kind = .function) (hb : cN tn fr scope.names = true) : CompOk X scope tn fr (dU X.env scope.names []) := by
  obtain ⟨f1, f2, f3⟩ := g9 hf
  simp only [cN, Bool.and_eq_true] at hb
  obtain ⟨⟨b1, b2⟩, b3⟩ := hb
  have b2' : ∀ y ∈ scope.names, scope.names.lookup y.1 = some y.2 := λ y hy => by simpa using List.all_eq_true.mp b2 y hy
  have kx : ∀ x, X.env.kindOf x = C.names.lookup x := λ x => by show X.env.scope.names.lookup x = _; rw [F.names]
  have hc : ∀ x, (x, NameKind.free) ∈ scope.names -> ∃ c, X.env.cells.lookup x = some c := λ x hx => ok.has x (.inl (by rw [kx]; exact f2 x hx))
  have sub : ∀ x c, (dU X.env scope.names []).lookup x = some c -> X.env.cells.lookup x = some c := λ x c h => by
    rcases io (bW h) with z | ⟨h1, h2⟩
    . simp at z
    . obtain ⟨c', hc'⟩ := hc x h1
      simp only at h2
      rw [hc'] at h2
      simp only [Option.getD_some] at h2
      rw [h2]
      exact hc'
  have has : ∀ x, (x, NameKind.free) ∈ scope.names -> ∃ c, (dU X.env scope.names []).lookup x = some c := λ x hx => by
    obtain ⟨c, h⟩ := lf (env := X.env) (acc := []) hx
    exact eY h
  refine ⟨gG hc, hk, f1, λ y hy hl => by rw [b2' y hy, hl], ?_, λ x hx => ?_, sub⟩
  . -- the free names
    have : ∀ l : List (Str × Nat), (∀ q ∈ l, q ∈ fr) -> FreeOk X scope (dU X.env scope.names []) l := by
      intro l
      induction l with
      | nil => exact λ _ => .nil
      | cons q r ih =>
        intro h
        obtain ⟨x, j⟩ := q
        obtain ⟨a, b, c⟩ := f3 (x, j) (h _ (by simp))
        refine .cons (by rw [F.N]; exact bG a) (by rw [kx]; exact b) ?_ ?_ (ih λ q hq => h q (List.mem_cons_of_mem _ hq))
        . rw [k8 F, gs (b2' _ c)]
          simp [b]
        . obtain ⟨cc, e⟩ := has x c
          rw [e, sub x cc e]
    exact this fr λ q hq => hq
  . rw [k8 F] at hx
    have hin : (x, NameKind.free) ∈ scope.names := by
      have : ∃ kd, (l8 C scope.names).lookup x = some kd /\ (kd = .cell \/ kd = .free) := by
        rcases hx with h | h
        . exact ⟨_, h, .inl rfl⟩
        . exact ⟨_, h, .inr rfl⟩
      obtain ⟨kd, h1, h2⟩ := this
      have hm := bW h1
      unfold l8 at hm
      obtain ⟨⟨n, q⟩, hm1, hm2⟩ := List.mem_map.mp hm
      simp only at hm2
      split at hm2
      . rename_i hcond
        cases hm2
        have : q = .free := by
          simp only [Bool.and_eq_true] at hcond
          exact eq_of_beq hcond.1
        subst this
        exact hm1
      . cases hm2
        rcases h2 with rfl | rfl
        . exact absurd rfl (f1 _ hm1)
        . exact hm1
    exact has x hin
theorem eM (F : Fits CX k X C) (hk : scope.kind = .function) (hb : cN tn fr scope.names = true) (cl : List (Str × Addr)) (d : CDyn) : Fits CX k (aL X tn fr scope cl d) (dN C tn fr scope.names) where
  K := F.K
  N := rfl
  nd := by
    simp only [cN, Bool.and_eq_true] at hb
    exact of_decide_eq_true hb.1.1
  names := k8 F
  kind := hk
  calm := F.calm
  room := F.room
  pass := λ pins σ H s e s' I h => (F.no _ _ _ _ _ h).elim
  no := F.no
  fns := F.fns
  mks := F.mks
  mts := F.mts
  fld := F.fld
  glo := F.glo
  nog := F.nog
  ics := F.ics
theorem ga : ∀ {tn l : List Str} {x : Str} {i : Nat}, x ∈ tn -> bz (tn ++ l) x = some i -> i < tn.length
  | y :: r, l, x, i, hx, h => by
    rw [List.cons_append] at h
    unfold bz at h
    split at h
    . cases h
      simp
    . rename_i ne
      rcases List.mem_cons.mp hx with e | hx
      . exact absurd e.symm ne
      . cases e : bz (r ++ l) x with
        | none => rw [e] at h; cases h
        | some j =>
          rw [e] at h
          cases h
          have := ga hx e
          simp
          omega
theorem lh {x : Str} {i : Nat} (hx : x ∈ tn) (h : dM (dN C tn fr scope.names) x = some i) : i < tn.length := by
  unfold dM at h
  split at h
  . exact ga hx h
  . exact ga hx h
  . cases h
theorem kg_Nm {x : Str} (hx : x ∈ tn) : fh tn.length (gNm (dN C tn fr scope.names) x) := by
  unfold gNm
  split
  . rename_i e
    exact kg_name (lh hx e)
  . exact λ v σ H Q h => h.elim
theorem kg_Nms : ∀ {ts : List Expr}, (∀ x pos, Expr.Name x pos ∈ ts -> x ∈ tn) -> jQ tn.length (l7 (dN C tn fr scope.names) ts)
  | [], _ => kg_nil
  | e :: r, h => by
    cases e with
    | Name x pos =>
      intro vs σ H Q ⟨v, q, e, g⟩
      refine ⟨v, q, e, ?_⟩
      have hx := h x pos (by simp)
      have ih := kg_Nms (ts := r) λ y p hy => h y p (List.mem_cons_of_mem _ hy)
      unfold gNm at g ⊢
      cases e2 : dM (dN C tn fr scope.names) x with
      | none => rw [e2] at g; exact g.elim
      | some i =>
        rw [e2] at g
        have := ih _ _ _ _ g
        have e3 : (σ.set i (some v)).drop tn.length = σ.drop tn.length := List.drop_set_of_lt (lh hx e2)
        rw [e3] at this
        exact this
    | _ => exact λ vs σ H Q z => z.elim
theorem lp {α β : Type} {f : α -> Option β} : ∀ {xs : List α} {ys : List β} {x : α} {y : β}, xs.mapM f = some ys -> x ∈ xs -> f x = some y -> y ∈ ys
  | a :: r, ys, x, y, h, hx, hf => by
    rw [mapM_cons] at h
    cases e : f a with
    | none => rw [e] at h; cases h
    | some z =>
      cases e2 : r.mapM f with
      | none => rw [e, e2] at h; cases h
      | some q =>
        rw [e, e2] at h
        cases h
        rcases List.mem_cons.mp hx with rfl | hx
        . rw [e] at hf; cases hf; simp
        . exact List.mem_cons_of_mem _ (lp e2 hx hf)
end
section
variable {CX : CXT} {k : Nat} {X : Cx} {C : Cfg} {w : W}
theorem gb {it : Expr} {env : Env} (h : jv it = false) : ∀ x, foldedSetIterable it env x = pure x := λ x => by
  cases it <;> first | rfl | cases h
theorem wIN_ok (hw : Snd w) (F : Fits CX k X C) {tg : Expr} {x : Str} {p pos : Pos} {e : Expr} {es : List Expr} : PI2 X tg (.Call (.Name x p) (e :: es) [] pos) (wIN w C tg x e es) := by
  unfold wIN
  split
  . rename_i h1 h2 h3 h4
    have ex : x = "range" := of_decide_eq_true h1
    subst ex
    exact pi_rng (gl_of F h2) (F.nog _ (by simpa using h3)) (dc hw F _) h4
  . exact pi2_x
  . split
    . rename_i h1 h2 h3 h4
      have ex : x = "reversed" := of_decide_eq_true h1
      subst ex
      exact pi_rev (gl_of F h2) (F.nog _ (by simpa using h3)) (dc hw F _) h4
    . exact pi2_x
    . exact il mI (ld hw F)
theorem wIM_ok (hw : Snd w) (F : Fits CX k X C) {tg d : Expr} {m : Str} {apos cpos : Pos} : PI2 X tg (.Call (.Attribute d m apos) [] [] cpos) (wIM w C tg d m apos cpos) := by
  unfold wIM
  split
  . rename_i h
    simp only [Bool.and_eq_true] at h
    obtain ⟨⟨⟨h1, h2⟩, h3⟩, h4⟩ := h
    have ex := of_decide_eq_true h2
    subst ex
    cases tg <;> first | (cases h1; done) | skip
    exact pi_items (hw.E F _) h3 h4
  . exact il mI (hw.E F _)
theorem wI_ok (hw : Snd w) (F : Fits CX k X C) {tg : Expr} : ∀ it, PI2 X tg it (wI w C tg it) := λ it => by
  cases it with
  | Call f es kw pos =>
    cases kw with
    | cons a b => cases f <;> first | exact il mI (hw.E F _) | (cases es <;> exact il mI (hw.E F _))
    | nil =>
      cases es with
      | nil => cases f <;> first | exact wIM_ok hw F | exact il mI (hw.E F _)
      | cons e es => cases f <;> first | exact wIN_ok hw F | exact il mI (hw.E F _)
  | Set _ _ _ => exact pi2_x
  | _ => exact il mI (hw.E F _)
theorem ep_thaw {pins : List (Addr × Obj)} {σ : St} {Q : VK} {v : Value} {s : Shared} (h : EP X pins σ (anyQ X Q) v s) : EP X pins σ Q v s := by
  obtain ⟨x, H, I, r, q | ⟨a, o, u, nf, e, q⟩⟩ := h
  . exact ⟨x, H, I, r, q⟩
  . exact ⟨x, _, eg I e nf, r, q⟩
theorem nW (hw : Snd w) (F : Fits CX k X C) : ∀ ifs, pv X ifs (ifsG w C ifs)
  | [] => pif_nil
  | [c] => pif_one (hw.T F c)
  | _ :: _ :: _ => λ _ _ _ _ _ _ h => h.elim
theorem block_tg {scope : Scope} {tn : List Str} {fr : List (Str × Nat)} (hb : cN tn fr scope.names = true) {x : Str} (hx : x ∈ tn) : (l8 C scope.names).lookup x = some .local := by
  simp only [cN, Bool.and_eq_true] at hb
  have := List.all_eq_true.mp hb.2 x hx
  rw [gs (kd := .local) (by simpa using this)]
  rfl
theorem tg_in {tg : Expr} {tn : List Str} (h : jX tg = some tn) : (∀ x pos, tg = .Name x pos -> x ∈ tn) /\ ∀ ts j pos, tg = .Tuple ts j pos -> ∀ x p, Expr.Name x p ∈ ts -> x ∈ tn := by
  refine ⟨λ x pos e => ?_, λ ts j pos e x p hx => ?_⟩
  . subst e
    cases h
    simp
  . subst e
    exact lp h hx rfl
theorem tg_ok {scope : Scope} {tn : List Str} {fr : List (Str × Nat)} {tg : Expr} (F : Fits CX k X C) (hk : scope.kind = .function) (hb : cN tn fr scope.names = true) (ht : jX tg = some tn) (cl : List (Str × Addr)) :
    (∀ d, PG (aL X tn fr scope cl d) tg (wG (dN C tn fr scope.names) tg)) /\ fh tn.length (wG (dN C tn fr scope.names) tg) := by
  obtain ⟨t1, t2⟩ := tg_in ht
  have nc : ∀ x, x ∈ tn -> (dN C tn fr scope.names).names.lookup x = some .cell -> False := λ x hx h => by
    rw [show (dN C tn fr scope.names).names.lookup x = some .local from block_tg hb hx] at h
    cases h
  cases tg with
  | Name x pos => exact ⟨λ d => mJ (eM F hk hb cl d) λ h => (nc x (t1 x pos rfl) h).elim, kg_Nm (t1 x pos rfl)⟩
  | Tuple ts j pos => exact ⟨λ d => nU (eM F hk hb cl d) λ x p hx h => (nc x (t2 ts j pos rfl x p hx) h).elim, kg_tup (kg_Nms (t2 ts j pos rfl))⟩
  | _ => cases ht
theorem compG_ok (hw : Snd w) (F : Fits CX k X C) {elt : Expr} {gens : List Comprehension} {scope : Scope} {pos : Pos} : PE X (.ListComp elt gens scope pos) (l9 w C elt gens scope) := by
  unfold l9
  split
  . rename_i tg it ifs
    split
    . rename_i tn fr e1 e2 e3 e4
      split
      . rename_i hb
        intro pins s σ H Q I h
        obtain ⟨g1, g2⟩ := tg_ok F e3 hb e1 (dU X.env scope.names [])
        exact thn (pe_comp F.calm (jw F I.ok e2 e3 hb) g2 (mv (wI_ok hw F it)) g1 (λ d => nW hw (eM F e3 hb _ d) ifs) (λ d => hw.E (eM F e3 hb _ d) elt) (gb e4) pins s σ H (anyQ X Q) I (jo h)) λ _ _ z => ep_thaw z
      . exact bx
    . exact bx
  . exact bx
theorem ps_setC {x : Str} {pos' pos cpos : Pos} {elt tg it : Expr} {ifs : List Expr} {scope : Scope} {tn : List Str} {fr : List (Str × Nat)} {wi : TI} {g : TG} {tt : TT} {te : TE} {cl : List (Str × Addr)} {i : Nat}
    (hc : X.calm = true) (ok : CompOk X scope tn fr cl) (kg : fh tn.length g) (hi : PI X tg it wi)
    (hg : ∀ d, PG (aL X tn fr scope cl d) tg g) (ht : ∀ d, pv (aL X tn fr scope cl d) ifs tt) (he : ∀ d, PE (aL X tn fr scope cl d) elt te) (hs : ∀ x, foldedSetIterable it X.env x = pure x)
    (hN : X.N.Nodup) (hx : X.N[i]? = some x) (hl : Loc X.env.scope x) (hf : X.fn x = true) (sw : swapsWith (.ListComp elt [⟨tg, it, ifs, 0⟩] scope cpos) (some (.Name x pos')) pos.line X.env = pure true)
    {pins : List (Addr × Obj)} {s : Shared} {σ : St} {H : Hp} {D : Ends} (I : Inv X pins σ H s) (h : nI wi tn fr g tt te σ H λ v H1 => D.nx (σ.set i (some v)) H1) :
    wpAny (model X.prog X.w) X.A (exec (.Assign [.Name x pos'] (.ListComp elt [⟨tg, it, ifs, 0⟩] scope cpos) pos) X.env) (SP X pins D) X.xe s := by
  rw [exec_Assign_Name_used x pos' _ pos sw]
  refine wpAny_bind (wpAny_standAt ?_)
  show wpAny _ _ (evalThenUse (.ListComp elt [⟨tg, it, ifs, 0⟩] scope cpos) X.env (assign (.Name x pos') X.env) >>= λ _ => pure Flow.next) _ _ _
  refine wpAny_bind ?_
  show wpAny _ _ (comprehension (.ListComp elt [⟨tg, it, ifs, 0⟩] scope cpos) scope X.env _ (newList []) false (eval it X.env) (some (assign (.Name x pos') X.env)) >>= λ _ => pure ()) _ _ _
  refine wpAny_bind ?_
  refine wpAny_comprehension_free (use := some (assign (.Name x pos') X.env)) rfl hs ok.clos ok.kind ok.names (jn (RR := λ acc Cc => compPost (model X.prog X.w) X.A X.xe (some (assign (.Name x pos') X.env)) _ acc Cc) hc ok kg hi hg ht he I h ?_)
  intro p Cc G s' I' f m q
  obtain ⟨m, hm⟩ := m
  show wpAny _ _ (assign (.Name x pos') X.env (.ref p)) _ _ _
  show wpAny _ _ (do standAt pos'; bindName X.env x (.ref p)) _ _ _
  refine wpAny_bind (wpAny_standAt ?_)
  refine bindName_ ?_
  refine j8 I' hN hx hl (v := .ref p) rfl (λ s'' I'' ⟨a, sb, ha⟩ => ?_) (.inl hf)
  have hne : Cc ≠ a := by
    rcases ha with rfl | ha
    . exact f.2.1
    . exact λ e => f.2.2.2.2.1 _ _ ha e.symm
  refine ⟨m, hm.sameBut sb hne, λ h' hs' => ?_⟩
  refine wpAny_pure (wpAny_pure ?_)
  refine ⟨_, G, ?_, q⟩
  exact I''.turned (it := Cc) (h' := h') (t' := s''.toks) (λ b o hb e => hs'.extBut b o hb e) f.1 f.2.1 f.2.2.2.1 f.2.2.2.2.1 f.2.2.2.2.2
end
section
variable {CX : CXT} {k : Nat} {X : Cx} {C : Cfg} {w : W}
theorem eN {e : Expr} {t : Option Expr} {n : Nat} {env : Env} (h : fo e = false) : swapsWith e t n env = pure false := by
  cases e <;> first | rfl | cases h
theorem lq {e t : Expr} {n : Nat} {env : Env} (h : fo e = false) : swapsWithSole [t] e n env = pure false := by
  show swapsWith e (some t) n env = pure false
  exact eN h
theorem lu {b : Expr} (h : jW b = false) : nD b := λ o i => by
  cases b <;> first | rfl | cases h
theorem sl_scr : SlR X (rSlS X.K) := λ pins s σ H x v vl vu lo hi sl Q I rx hs pl pu ⟨a, xs, e, h, q⟩ => nF pins s σ H x v vl vu lo hi sl Q I rx hs pl pu ⟨a, xs, e, h, q.at⟩
theorem gc (hw : Snd w) (F : Fits CX k X C) {pos : Pos} : ∀ {ks : List (Option Expr)} {vs : List Expr} {l : List (TE × TE)}, jY w C ks vs = some l -> PPs X pos ks vs l /\ ks.all (·.isSome) = true /\ ks.length = vs.length /\ ks.length = l.length
  | [], [], l, h => by cases h; exact ⟨pps_nil, rfl, rfl, rfl⟩
  | [], _ :: _, l, h => by cases h
  | none :: _, [], l, h => by cases h
  | none :: _, _ :: _, l, h => by cases h
  | some _ :: _, [], l, h => by cases h
  | some e :: ks, v :: vs, l, h => by
    unfold jY at h
    split at h
    . rename_i r er
      cases h
      obtain ⟨i1, i2, i3, i4⟩ := gc hw F (pos := pos) er
      exact ⟨pps_cons (hw.E F e) (hw.E F v) i1, by simpa using i2, by simp [i3], by simp [i4]⟩
    . cases h
theorem pe_dnew {pos : Pos} : PE X (.Dict [] [] pos) fK := λ pins s σ H Q I h => h.elim (λ h => pe_dnewK pins s σ H Q I h.at) (λ h => pe_dnewT pins s σ H Q I h.at)
theorem dispG_ok (hw : Snd w) (F : Fits CX k X C) {ks : List (Option Expr)} {vs : List Expr} {pos : Pos} : PE X (.Dict ks vs pos) (dispG w C ks vs) := by
  unfold dispG
  split
  . rename_i h
    obtain ⟨i1, i2, i3, i4⟩ := gc hw F (pos := pos) h
    have : ks = [] := List.length_eq_zero_iff.mp (by rw [i4]; rfl)
    subst this
    have : vs = [] := List.length_eq_zero_iff.mp (by rw [<- i3]; rfl)
    subst this
    exact pe_dnew
  . rename_i l hl h1 h2
    obtain ⟨i1, i2, i3, i4⟩ := gc hw F (pos := pos) h1
    refine pe_disp i1 i2 i3 (λ e => ?_) (of_decide_eq_true h2)
    subst e
    have : l = [] := List.length_eq_zero_iff.mp (by rw [<- i4]; rfl)
    subst this
    exact hl rfl
  . exact bx
theorem slX_ok (hw : Snd w) (F : Fits CX k X C) {a : Expr} {lo hi : Option Expr} {p2 pos : Pos} : PE X (.Subscript a (.Slice lo hi none p2) pos) (slX w C a lo hi) := by
  unfold slX
  split
  . rw [<- F.K]
    exact kQ sl_scr (hw.E F _) (jZ hw F _) (jZ hw F _)
  . exact kQ sl_G (hw.E F _) (jZ hw F _) (jZ hw F _)
theorem nX (hw : Snd w) (F : Fits CX k X C) {a b : Expr} {pos : Pos} : PE X (.Subscript a b pos) (subX w C a b) := by
  unfold subX
  split
  . rename_i h1 h2
    rw [<- F.K]
    exact pe_ix nE (hw.E F _) (hw.E F _) (lu h1)
  . rename_i h1 h2
    exact pe_ix (ix_getG (hV F.room)) (hw.E F _) (hw.E F _) (lu h1)
  . exact bx
theorem attX_ok (hw : Snd w) (F : Fits CX k X C) {o : Expr} {f : Str} {pos : Pos} : PE X (.Attribute o f pos) (attX w C o f) := by
  unfold attX
  split
  . rename_i cl e1 e2
    obtain ⟨c, n⟩ := F.fld _ cl e1
    exact pe_fldG c n (hw.E F _) (cM e2)
  . exact bx
theorem iq (hw : Snd w) (F : Fits CX k X C) : ∀ e, PE X e (la w C e) := λ e => by
  cases e with
  | Constant c j p => exact qc _
  | Name x p => exact pe_nameG F _ _
  | BinOp a op b p => exact pe_op (op_binG _) (hw.E F _) (hw.E F _)
  | UnaryOp op a p => cases op <;> first | exact pe_notG (hw.E F _) | (show PE X _ (tUn i7 (w.E C a)); exact pe_un un_negG (hw.E F _)) | exact bx
  | BoolOp op es p => cases op <;> first | exact nS hw F _ | exact orG_ok hw F _
  | Compare a ops bs p => exact cmpE_ok hw F
  | IfExp c a b p => exact pe_ifG (hw.T F _) (hw.E F _) (hw.E F _)
  | List es p => exact PE.imp (pe_lst (PA.mo (dc hw F _))) λ σ H Q h => ⟨_, h, λ xs H1 q => ⟨q.1, q.2.at⟩⟩
  | Tuple es j p => exact PE.imp (pe_tup (PA.mo (dc hw F _))) λ σ H Q h => ⟨_, h, λ xs H1 q => ⟨q.1, q.2.at⟩⟩
  | Dict ks vs p => exact dispG_ok hw F
  | Subscript a b p =>
    cases b with
    | Slice lo hi st p2 =>
      cases st with
      | none => exact slX_ok hw F
      | some st => exact nX hw F
    | _ => exact nX hw F
  | Attribute o f p => exact attX_ok hw F
  | Call f es kw p =>
    cases kw with
    | nil => cases f <;> first | exact ld hw F | exact methG_ok hw F | exact bx
    | cons a b => cases f <;> exact bx
  | ListComp elt gens scope p => exact compG_ok hw F
  | _ => exact bx
theorem stepT_ok (hw : Snd w) (F : Fits CX k X C) : ∀ e, PT X e (stepT w C e) := λ e => by
  cases e with
  | UnaryOp op a pos => cases op <;> first | exact pt_not (hw.T F a) | exact pt_x
  | BoolOp op es pos => cases op <;> first | exact (nT hw F es).pt | exact (orB_ok hw F es).pt
  | IfExp a b c pos => exact pt_x
  | Compare a ops bs pos => exact cmpT_ok hw F
  | _ => exact pt_G (iq hw F _) λ _ => rfl
theorem stepA_ok (hw : Snd w) (F : Fits CX k X C) (hf : ∀ x, X.fn x = true) (x : Str) (i : Nat) (pos' pos : Pos) (e : Expr) (ei : dM C x = some i) : PS X (.Assign [.Name x pos'] e pos) (ah (la w C e) (a6 i)) := by
  obtain ⟨h1, h2, h3⟩ := im F ei
  have plain : ∀ {e : Expr}, swapsWith e (some (.Name x pos')) pos.line X.env = pure false -> PS X (.Assign [.Name x pos'] e pos) (ah (la w C e) (a6 i)) := λ {e} h => ps_set (k0 F) h1 h2 (iq hw F e) h (.inl (hf x))
  cases e with
  | ListComp elt gens scope cpos =>
    cases hb : (X.env.blockKind == .function && X.env.kindOf x == some .local && pos'.line == (Expr.ListComp elt gens scope cpos).pos.line && !(scope.names.any λ (n, k) => n == x && (k == .local || k == .cell))) with
    | false => exact plain (by show pure _ = _; rw [hb])
    | true =>
      show PS X _ (ah (l9 w C elt gens scope) (a6 i))
      unfold l9
      split
      . rename_i tg it ifs
        split
        . rename_i tn fr e1 e2 e3 e4
          split
          . rename_i hb2
            intro pins s σ H D I h
            obtain ⟨g1, g2⟩ := tg_ok F e3 hb2 e1 (dU X.env scope.names [])
            exact thn (ps_setC (D := anyD X D) F.calm (jw F I.ok e2 e3 hb2) g2 (mv (wI_ok hw F it)) g1 (λ d => nW hw (eM F e3 hb2 _ d) ifs) (λ d => hw.E (eM F e3 hb2 _ d) elt) (gb e4) (k0 F) h1 h2 (hf x) (by show pure _ = _; rw [hb]) I (jo h)) λ _ _ z => SP.thaw z
          . exact λ _ _ _ _ _ _ h => h.elim
        . exact λ _ _ _ _ _ _ h => h.elim
      . exact λ _ _ _ _ _ _ h => h.elim
  | SetComp a g sc p => exact λ _ _ _ _ _ _ h => h.elim
  | DictComp a b g sc p => exact λ _ _ _ _ _ _ h => h.elim
  | _ => exact plain (eN rfl)
theorem ps_ifG {c : Expr} {a b : List Stmt} {tc : TT} {t u : TS} {pos : Pos} (hc : PT X c tc) (ha : PSs X a t) (hb : PSs X b u) : PS X (.If c a b pos) (sIf tc t u) := λ pins s σ H D I h =>
  ps_if (PT.mo hc) ha hb pins s σ H D I ⟨_, h, λ d H1 q => dZ q⟩
theorem ir (hw : ∀ s, PS X s (w.S C s)) : ∀ ss, PSs X ss (wSs w C ss)
  | [] => pss_nil
  | [s] => pss_one (hw s)
  | s :: t :: r => pss_cons (hw s) (ir hw (t :: r))
theorem ps_fldG {cl : Addr} {f : Str} {o e : Expr} {to te : TE} {pos pos' : Pos} (c : Cls X.K cl) (n : NoAttr X.K cl f) (ho : PE X o to) (he : PE X e te) (hs : fo e = false) : PS X (.Assign [.Attribute o f pos'] e pos) (lc cl f to te) := λ pins s σ H D I h =>
  ps_fld (PE.mo ho) (PE.mo he) (eN hs) pins s σ H D I ⟨_, h, λ y H1 q => ⟨_, q, λ x H2 q2 => by
    split at q2
    . unfold sfH at q2
      split at q2
      . obtain ⟨rfl, q3, q4⟩ := q2
        exact ⟨_, _, _, _, rfl, by assumption, c, n, q3, q4⟩
      . exact q2.elim
    . exact q2.elim⟩⟩
theorem k9 {tg e : Expr} {env : Env} (h : isTup e = false) : swappedStores [tg] e env = pure none := by
  cases e with
  | Tuple a b c => cases h
  | _ => cases tg <;> rfl
theorem asgG_ok (hw : Snd w) (F : Fits CX k X C) (hf : ∀ x, X.fn x = true) {tg e : Expr} {pos : Pos} : PS X (.Assign [tg] e pos) (asgG w C tg e) := by
  cases tg with
  | Name x p =>
    show PS X _ (asgN w C x e)
    unfold asgN
    split
    . exact hw.A F hf _ _ _ _ _ (by assumption)
    . exact fI
  | Subscript o i p =>
    show PS X _ (asgS w C o i e)
    unfold asgS
    split
    . rename_i h1 h2
      exact ps_asg (hw.E F _) (pg_sub (hw.E F _) (hw.E F _) (set_G F.room) (by intro v; cases i <;> first | rfl | cases h1)) (lq h2) (by cases e <;> rfl) rfl
    . exact fI
  | Attribute o f p =>
    show PS X _ (asgF w C o f e)
    unfold asgF
    split
    . rename_i cl e1 e2
      obtain ⟨c, n⟩ := F.fld f cl e1
      exact ps_fldG c n (hw.E F _) (hw.E F _) e2
    . exact fI
  | Tuple ts j p =>
    show PS X _ (asgT w C ts e)
    unfold asgT
    split
    . rename_i h1 h2
      exact ps_asg (hw.E F _) (gTupQ_ok F λ x _ _ _ => hf x) (lq h2) (k9 h1) rfl
    . exact fI
  | _ => exact fI
theorem augG_ok (hw : Snd w) (F : Fits CX k X C) (hf : ∀ x, X.fn x = true) {tg e : Expr} {op : Operator} {pos : Pos} : PS X (.AugAssign tg op e pos) (augG w C tg op e) := by
  cases tg with
  | Name x p =>
    show PS X _ (match dM C x with
      | some i => tAug i (w.E C e) (ipG op)
      | none => xS)
    split
    . rename_i i ei
      obtain ⟨h1, h2, h3⟩ := im F ei
      exact ps_aug (k0 F) h1 h2 (hw.E F _) (ip_G op) (.inl (hf _))
    . exact fI
  | _ => exact fI
theorem wG_ok (F : Fits CX k X C) (hf : ∀ x, X.fn x = true) : ∀ tg, PG X tg (wG C tg) := λ tg => by
  cases tg with
  | Name x pos => exact mJ F λ _ => hf x
  | Tuple ts j pos => exact nU F λ x _ _ _ => hf x
  | _ => exact pg_x
theorem exX_ok (hw : Snd w) (F : Fits CX k X C) {e : Expr} {p : Pos} : PS X (.Expr e p) (exX w C e) := by
  unfold exX
  split
  . rename_i h
    cases e with
    | Constant c j q => cases c <;> first | exact ps_doc | cases h
    | _ => cases h
  . rename_i h1 h2
    exact ps_expr (hw.E F _) (eN h2)
  . exact fI
theorem stepS_ok (hw : Snd w) (F : Fits CX k X C) (hp : PassesOwn (model X.prog X.w) X.A X.env X.xe) (hf : ∀ x, X.fn x = true) : ∀ s, PS X s (stepS w C s) := λ s => by
  cases s with
  | Expr e p => exact exX_ok hw F
  | Return o p =>
    cases o with
    | some e => exact ps_ret (hw.E F _)
    | none => exact ps_retN
  | Pass p => exact ps_pass
  | If c a b p => exact ps_ifG (hw.T F _) (ir (hw.S F hp hf) _) (ir (hw.S F hp hf) _)
  | For tg it body els p =>
    cases els with
    | nil =>
      show PS X _ (forX w C tg it body)
      unfold forX
      split
      . rename_i h
        exact ps_for2 hp F.calm (wI_ok hw F _) (wG_ok F hf _) (ir (hw.S F hp hf) _) (gb h)
      . exact fI
    | cons a b => exact fI
  | Assign ts e p =>
    cases ts with
    | nil => exact fI
    | cons tg r =>
      cases r with
      | nil => exact asgG_ok hw F hf
      | cons a b => exact fI
  | AugAssign tg op e p => exact augG_ok hw F hf
  | _ => exact fI
theorem lv : ∀ n, Snd (wp n)
  | 0 => ⟨λ _ _ => bx, λ _ _ => pt_x, λ _ _ _ _ _ _ _ _ _ _ _ _ _ _ h => h.elim, λ _ _ _ _ => fI⟩
  | n + 1 => ⟨iq (lv n), stepT_ok (lv n), stepA_ok (lv n), stepS_ok (lv n)⟩
end
structure Tabs where
  fns : List (Str × Sp) := []
  mks : List (Str × Addr × Sp) := []
  mts : List (Str × Addr × Sp) := []
  fld : List (Str × Addr) := []
  glo : List (Str × V) := []
  nog : List Str := []
  scr : List Str := []
  ics : List Addr := []
def cfg (T : Tabs) (K : PySem.W.Frag) (N : List Str) (names : List (Str × NameKind)) (E : XK) : Cfg := ⟨K, N, names, T.fns, T.mks, T.mts, T.fld, T.glo, T.nog, T.scr, E, T.ics⟩
structure Lib (P : Program) (w : World) (K : PySem.W.Frag) (mg : Str -> Option Value) (base : Heap) (CX : CXT) (k : Nat) (T : Tabs) : Prop where
  fns : ∀ x sp, T.fns.lookup x = some sp -> ∃ f fd ps, FnOk P w K mg base CX k f fd ps sp /\ mg x = some (.ref f) /\ PySem.W.keepIn K (.ref f) = true /\ Binds K fd ps []
  mks : ∀ x cl sp, T.mks.lookup x = some (cl, sp) -> ∃ f fd ps, Mk K cl f /\ FnOk P w K mg base CX k f fd ps sp /\ mg x = some (.ref cl) /\ Binds K fd ps []
  mts : ∀ m cl sp, T.mts.lookup m = some (cl, sp) -> ∃ f fd ps, Cls K cl /\ Meth K cl m f /\ FnOk P w K mg base CX k f fd ps sp /\ Binds K fd ps []
  fld : ∀ f cl, T.fld.lookup f = some cl -> Cls K cl /\ NoAttr K cl f
  glo : ∀ x v, T.glo.lookup x = some v -> ∃ u, mg x = some u /\ RelV v u
  nog : ∀ x ∈ T.nog, mg x = none
  ics : ∀ c ∈ T.ics, IsC K c
section
variable {P : Program} {w : World} {K : PySem.W.Frag} {mg : Str -> Option Value} {base : Heap} {CX : CXT} {k : Nat} {T : Tabs}
theorem nY (n : Nat) {x qual : Str} {st : Stmt} {f : Addr} {fd : FuncData} {N ps : List Str} {sp : Sp} (F : Fun K x qual st f fd) (S : FnScope N ps (a0 st)) (L : Lib P w K mg base CX0 k T)
    (len : ∀ vs H Q E, sp vs H Q E -> vs.length = ps.length) {t : TS} (ht : wSs (wp n) (cfg T K N (a0 st).names E0) (a7 st) = t)
    (hb : ∀ vs H Q E, sp vs H Q E -> t { nx := λ _ H' => Q .non H', rt := Q } (dJ N vs) H) : FnOk P w K mg base CX0 (k + 2) f fd ps sp := by
  refine F.ok (k := k + 1) S len λ cdv A outer s H vs Q E hr h => ⟨t, ?_, hb vs H Q E h⟩
  rw [<- ht]
  have Ft : Fits CX0 k (me CX0 P w K mg base N qual (a0 st) f cdv A outer s H E).nox (cfg T K N (a0 st).names E0) := {
    K := rfl, N := rfl, nd := S.nd, names := rfl, kind := S.kind, calm := rfl, room := hr, pass := pass0, no := λ _ _ _ _ _ h => h,
    fns := L.fns, mks := L.mks, mts := L.mts, fld := L.fld, glo := L.glo, nog := L.nog, ics := L.ics }
  exact ir (λ s => (lv n).S Ft PassesOwn.never (λ _ => rfl) s) _
end
theorem ar {a : Addr} {xs : List V} {g : TG} {tb : TS} {D : Ends} {σ : St} {H : Hp} (Pv : Nat -> St -> Hp -> Prop) (h0 : Pv 0 σ H) (hl : ∀ i σ H, i <= xs.length -> Pv i σ H -> H a = some (.lst xs))
    (hs : ∀ i x σ H, xs[i]? = some x -> Pv i σ H -> g x σ H λ σ2 H2 => tb { D with nx := Pv (i + 1), ct := Pv (i + 1), bk := D.nx } σ2 H2) (hd : ∀ σ H, Pv xs.length σ H -> D.nx σ H) : bQ (gE a) g tb D σ H := by
  unfold bQ
  exact pi Pv h0 (λ i σ H hi p => .inl (hl i σ H hi p)) hs hd
theorem bA {lo : Int} {n : Nat} {g : TG} {tb : TS} {D : Ends} {σ : St} {H : Hp} (Pv : Nat -> St -> Hp -> Prop) (h0 : Pv 0 σ H)
    (hs : ∀ i σ H, i < n -> Pv i σ H -> g (.int (lo + i)) σ H λ σ2 H2 => tb { D with nx := Pv (i + 1), ct := Pv (i + 1), bk := D.nx } σ2 H2) (hd : ∀ σ H, Pv n σ H -> D.nx σ H) : bQ (Itr lo n) g tb D σ H := by
  unfold bQ
  exact oR Pv h0 hs hd
theorem comp_txt {z : Str} {tn : List Str} {fr : List (Str × Nat)} {g : TG} {tt : TT} {te : TE} {σ : St} {H : Hp} {Q : VK} (f : Nat -> Option V) (hz : z.length < sizeLine)
    (turn : ∀ (i c : Nat), z.cps[i]? = some c -> ∀ (G : Hp) (k : Option V -> Hp -> Prop), k (f c) G -> g (.str ⟨#[c]⟩) (inn tn fr σ) G λ σ2 G2 => tt σ2 G2 λ b G3 => br b (te σ2 G3 λ y G4 => k (some y) G4) (k none G3))
    (fin : ∀ p, H p = none -> Q (.ref p) (upd H p (.lst (z.cps.toList.filterMap f)))) : bF (Its z) tn fr g tt te σ H Q := by
  unfold bF
  intro p hp
  exact comp_str f hz turn (fin p hp)
theorem one_lt (a b : Nat) : (([b] : List Nat) < [a]) ↔ b < a := by
  rw [List.cons_lt_cons_iff]
  constructor
  . rintro (h | ⟨_, h⟩)
    . exact h
    . exact absurd h (List.not_lt_nil _)
  . exact .inl
theorem le_one (a b : Nat) : (!decide (([b] : List Nat) < [a])) = decide (a <= b) := by
  by_cases h : a <= b
  . rw [decide_eq_true h, decide_eq_false (by rw [one_lt]; omega)]
    rfl
  . rw [decide_eq_false h, decide_eq_true (by rw [one_lt]; omega)]
    rfl
theorem all_i {p : Addr} {ys : List V} {bs : List Bool} {H : Hp} {Q : VK} (h : H p = some (.lst ys)) (hb : gr ys = some bs) (q : Q (.bl (bs.all id)) H) : pR [.ref p] H Q := by
  unfold pR
  simp only [h, hb]
  exact q
theorem nZ {α : Type} (f : α -> Bool) : ∀ l : List α, gr (l.map λ c => V.bl (f c)) = some (l.map f)
  | [] => rfl
  | a :: r => by
    rw [List.map_cons, List.map_cons]
    show (gr (r.map λ c => V.bl (f c))).map (f a :: ·) = _
    rw [nZ f r]
    rfl
def gH (c : Nat) : Bool := decide (97 <= c) && decide (c <= 122)
def gt (z : Str) : Bool := decide (1 <= z.length) && decide (z.length <= 8) && !(z == ("all" : Str)) && z.cps.toList.all gH
def ly : V -> Bool
  | .str z => gt z
  | _ => false
theorem kind_str {H : Hp} {x : V} (h : bZ H x = some "str") : ∃ z, x = .str z := by
  cases x with
  | str z => exact ⟨z, rfl⟩
  | ref a =>
    unfold bZ at h
    simp only at h
    split at h <;> first | (cases h; done) | (simp at h)
  | _ => first | (cases h; done) | (simp [bZ] at h)
theorem lA {T S : String} {x : V} {H : Hp} {Q : VK} (hT : okTy T = true) (hk : bZ H x = some S) (q : Q (.bl (dj S T)) H) : iZ [x, .ty T] H Q := by
  unfold iZ
  refine ⟨hT, ?_⟩
  rw [hk]
  exact q
theorem iterS_i {z : Str} {H : Hp} {R : It -> Hp -> Th -> Prop} (q : R (Its z) H none) : aq (.str z) H R := by
  unfold aq
  exact q
theorem lB {H : Hp} {p : Addr} {xs : List V} (h : H p = some (.lst xs)) : bZ H (.ref p) = some "list" := by
  unfold bZ
  simp only [h]
theorem kind_tup {H : Hp} {p : Addr} {xs : List V} (h : H p = some (.tup xs)) : bZ H (.ref p) = some "tuple" := by
  unfold bZ
  simp only [h]
def jx : TS :=
  (ad (sIf (mt (fA (ptG (tCB iZ (a3 (gv 0) (a3 (tC (.ty "str")) a8))))) (fA (bT (fi leG leG (tC (.int 1)) (tCB fk (a3 (gv 0) a8)) (tC (.int 8))))))
    (aD (tC (.bl false)))
    ay)
  (aD (tAndG (tOp neG (gv 0) (tC (.str "all"))) (tCB pR (a3 (aZ (iOf aq (gv 0)) ["sign"] [] (a6 0) gF (fi leG leG (tC (.str "a")) (gv 0) (tC (.str "z")))) a8)))))
theorem qe {x : V} {S : String} {H : Hp} {D : Ends} (hk : bZ H x = some S) (hz : ∀ z, x = .str z -> z.length < sizeLine) (q : ∀ H', Same H H' -> D.rt (.bl (ly x)) H') : jx D [some x] H := by
  refine lA rfl hk ?_
  have q0 := q H (Same.refl H)
  by_cases hS : S = "str"
  . subst hS
    obtain ⟨z, rfl⟩ := kind_str hk
    have hz := hz z rfl
    have hn : ly (.str z) = (decide (1 <= z.length) && decide (z.length <= 8) && !(z == ("all" : Str)) && z.cps.toList.all gH) := rfl
    refine bb rfl ⟨Nat.le_of_lt hz, ?_⟩
    refine ff (λ h1 => ?_) (λ h1 => ?_)
    . refine br_not (ff (λ h2 => ?_) (λ h2 => ?_))
      . refine br_not (aR (λ h3 => ?_) (λ h3 => ?_))
        . rw [hn, show (z == ("all" : Str)) = true from h3] at q0
          have q0 : D.rt (.bl false) H := by simpa using q0
          exact q0
        . refine bI (iterS_i (comp_txt (λ c => some (.bl (gH c))) hz ?_ ?_))
          . intro i c hc G k' hk'
            refine bO rfl ?_
            have e1 : (!decide (([c] : List Nat) < ("a" : Str).cps.toList)) = decide (97 <= c) := le_one 97 c
            have e2 : (!decide (("z" : Str).cps.toList < ([c] : List Nat))) = decide (c <= 122) := le_one c 122
            refine aR (λ h4 => ?_) (λ h4 => ?_)
            . have h4 : decide (97 <= c) = true := e1 ▸ h4
              have e3 : gH c = decide (c <= 122) := by
                unfold gH
                rw [h4, Bool.true_and]
              rw [e3, <- e2] at hk'
              exact hk'
            . have h4 : decide (97 <= c) = false := e1 ▸ h4
              have e3 : gH c = false := by
                unfold gH
                rw [h4, Bool.false_and]
              rw [e3] at hk'
              exact hk'
          . intro p hp
            have q1 := q (upd H p (.lst (z.cps.toList.filterMap λ c => some (V.bl (gH c))))) (bw hp)
            refine all_i a5 (bs := z.cps.toList.map gH) ?_ ?_
            . rw [List.filterMap_eq_map']
              exact nZ gH _
            . rw [hn, decide_eq_true (show 1 <= z.length by omega), decide_eq_true (show z.length <= 8 by omega), show (z == ("all" : Str)) = false from h3] at q1
              rw [List.all_map]
              simpa using q1
      . rw [hn, decide_eq_false (show ¬ z.length <= 8 by omega)] at q0
        have q0 : D.rt (.bl false) H := by simpa using q0
        exact q0
    . rw [hn, decide_eq_false (show ¬ 1 <= z.length by omega)] at q0
      have q0 : D.rt (.bl false) H := by simpa using q0
      exact bO rfl q0
  . have e : ly x = false := by
      cases x with
      | str z => exact absurd (by cases hk; rfl) hS
      | _ => rfl
    rw [e] at q0
    have hi : dj S "str" = false := by
      unfold dj
      simp [hS]
    exact bO (by rw [hi]; rfl) (bO rfl q0)
theorem getS_i {z : Str} {i : Int} {c : Nat} {H : Hp} {Q : VK} (hc : atI z.cps.toList i = some c) (hz : z.length <= sizeLine) (q : Q (.str ⟨#[c]⟩) H) : aw (.str z) (.int i) H Q := by
  unfold aw
  simp only [hc]
  exact ⟨hz, q⟩
theorem bg {p : Addr} {xs : List V} {i : Int} {v : V} {H : Hp} {Q : VK} (h : H p = some (.lst xs)) (hv : atI xs i = some v) (q : Q v H) : aw (.ref p) (.int i) H Q := by
  unfold aw
  simp only [h, hv]
  exact q
theorem aA {p : Addr} {xs : List V} {i : Int} {v : V} {H : Hp} {Q : VK} (h : H p = some (.tup xs)) (hv : atI xs i = some v) (q : Q v H) : aw (.ref p) (.int i) H Q := by
  unfold aw
  simp only [h, hv]
  exact q
theorem cY {p : Addr} {xs : List V} {H : Hp} {Q : VK} (h : H p = some (.lst xs)) (q : Q (.int xs.length) H) : pO p H Q := by
  unfold pO
  simp only [h]
  exact q
theorem cZ {l b : Addr} {xs ys : List V} {H : Hp} {Q : VK} (hl : H l = some (.lst xs)) (hb : H b = some (.lst ys)) (hz : xs.length + ys.length <= sizeLine) (q : newO H (.lst (xs ++ ys)) Q) : addH l b H Q := by
  unfold addH
  simp only [hl, hb]
  exact ⟨hz, q⟩
theorem aj {a : Addr} {xs : List V} {H : Hp} {R : It -> Hp -> Th -> Prop} (h : H a = some (.lst xs)) (q : R (gE a) H none) : aq (.ref a) H R := by
  unfold aq
  simp only [h]
  exact q
theorem eq_i {x y : V} {d e : PyData} {H : Hp} {Q : VK} (hx : rdD 8 H x = some d) (hy : rdD 8 H y = some e) (q : Q (.bl (PyData.eqv d e)) H) : eqH x y H Q := by
  unfold eqH eqD
  refine .inl ?_
  simp only [hx, hy]
  exact q
theorem few {n : Nat} (h : Nat.ble n 1000 = true) : n <= sizeLine := Nat.le_of_lt (p7 (Nat.le_of_ble_eq_true h))
end Tv
namespace Tv
open PySem PySem.Spec PyProof.Rows L2
section
variable {K : PySem.W.Frag}
def aO (ns : List Int) (k : Int) : Int := if k < ns.length then ns.getD k.toNat 0 else 0
def a9 (K : PySem.W.Frag) : Sp := λ vs H Q _ => ∃ (a : Addr) (ns : List Int) (k : Int), vs = [.ref a, .int k] /\ SqL K H a (ns.map V.int) /\ 0 <= k /\ Q (.int (aO ns k)) H
def eZ (K : PySem.W.Frag) : TS :=
  (ad (sIf (bT (tOp ltG (gv 1) (tCB (lenS K) (a3 (gv 0) a8))))
    (aD (tOp (rIxL K) (gv 0) (gv 1)))
    ay)
  (aD (tC (.int 0))))
theorem j4 {a : Addr} {ns : List Int} {k : Int} {H : Hp} {D : Ends} (hS : SqL K H a (ns.map V.int)) (hk : 0 <= k) (q : D.rt (.int (aO ns k)) H) : eZ K D [some (.ref a), some (.int k)] H := by
  refine ⟨a, _, rfl, hS, ?_⟩
  unfold aO at q
  refine ff (λ h => ?_) (λ h => ?_)
  . rw [List.length_map] at h
    rw [if_pos h] at q
    obtain ⟨j, rfl⟩ : ∃ j : Nat, k = j := ⟨k.toNat, by omega⟩
    have hj : j < ns.length := by omega
    refine ⟨a, _, j, .int ns[j], rfl, rfl, hS, bm (by simp [hj]), ?_⟩
    simpa [List.getD, hj] using q
  . rw [List.length_map] at h
    rw [if_neg h] at q
    exact q
end
theorem sz : sizeLine = 16777216 := sizeLine_eq
def dq : Sp := λ vs H Q _ => ∃ x S, vs = [x] /\ bZ H x = some S /\ (∀ z, x = .str z -> z.length < sizeLine) /\ ∀ H', Same H H' -> Q (.bl (ly x)) H'
theorem aB {a b : Int} (h0 : 0 <= b) (h1 : b < 2 ^ 64) : nK a b := .inl (.inr ⟨by omega, h1⟩)
def o3 (K : PySem.W.Frag) : Sp := λ vs H Q _ => ∃ (a : Addr) (ns : List Int), vs = [.ref a] /\ SqL K H a (ns.map V.int) /\ ns.length <= 63 /\ ∀ H', Q (.bl true) H'
theorem cO {l : Addr} {xs : List V} {t : TA} {σ : St} {Q : VK} {H : Hp} (h : H l = some (.lst xs)) (q : t σ H λ vs H2 => eL (.ref l) vs H2 Q) : bmK "append" t σ Q (.ref l) H := by
  unfold bmK
  have : tyB H (.ref l) = some "list" := by unfold tyB; simp only [h]
  rw [this]
  exact q
theorem bB {l : Addr} {xs : List V} {y : V} {Q : VK} {H : Hp} (h : H l = some (.lst xs)) (hz : xs.length < sizeLine) (q : Q .non (upd H l (.lst (xs ++ [y])))) : eL (.ref l) [y] H Q := by
  unfold eL
  simp only [h]
  exact ⟨hz, q⟩
theorem join_i {z : Str} {t : TA} {σ : St} {Q : VK} {H : Hp} (q : t σ H λ vs H2 => jq (.str z) vs H2 Q) : bmK "join" t σ Q (.str z) H := by
  unfold bmK
  exact q
theorem join_at {z : Str} {l : Addr} {xs : List V} {ys : List Str} {Q : VK} {H : Hp} (h : H l = some (.lst xs)) (hy : fj xs = some ys) (hz : (ys.map (·.length)).sum + ys.length * z.length <= 16777216) (q : Q (.str (Txt.join z ys)) H) : jq (.str z) [.ref l] H Q := by
  unfold jq
  simp only [h, hy]
  exact ⟨hz, q⟩
theorem lD {cl : Addr} {f : Str} {p dx : Addr} {fs : List (Str × V)} {v : V} {H : Hp} {Q : VK} (h : H p = some (.ins cl dx fs)) (hf : fs.lookup f = some v) (q : Q v H) : fldK cl f (.ref p) H Q := by
  unfold fldK
  simp only [h, hf]
  exact ⟨trivial, q⟩
theorem ka {cl : Addr} {m : Str} {p dx : Addr} {fs : List (Str × V)} {H : Hp} {R : Prop} (h : H p = some (.ins cl dx fs)) (hf : fs.lookup m = none) (q : R) : nN cl m (.ref p) H R := by
  unfold nN
  simp only [h]
  exact ⟨trivial, hf, q⟩
theorem sfl_i {cl : Addr} {f : Str} {p dx : Addr} {y : V} {fs : List (Str × V)} {σ : St} {H : Hp} {N : St -> Hp -> Prop} (h : H p = some (.ins cl dx fs)) (hz : Nat.blt fs.length 1000 = true) (q : N σ (upd H p (.ins cl dx (putF f y fs)))) : sfH cl f p y σ H N := by
  unfold sfH
  simp only [h]
  exact ⟨trivial, by simpa using hz, q⟩
theorem dispL_i {tk : TE} {σ : St} {H : Hp} {Q : VK} {x : V} {k : Key} (h1 : ∀ G R, R x G -> tk σ G R) (hk : x = kV k) (h : ∀ p b G, H p = none -> H b = none -> b ≠ p -> Same H G -> G p = some (.dK [(k, .ref b)]) -> G b = some (.lst []) -> Q (.ref p) G) : ji [(tk, aH a8)] σ H Q := by
  intro p hp
  refine h1 _ _ ⟨few rfl, new_u λ b hb => ⟨?_, [(k, .ref b)], by rw [hk]; rfl, by show 1 <= 15; decide, ?_⟩⟩
  . rw [a4 λ z => by rw [<- z, a5] at hb; cases hb]
    exact a5
  have nb : b ≠ p := λ z => by
    rw [z, a5] at hb
    cases hb
  have hb' : H b = none := by
    rw [a4 nb] at hb
    exact hb
  have e : g5 [] [(k, V.ref b)] = [(k, V.ref b)] := by
    show b8 [] k _ = _
    rw [cm _ rfl]
    rfl
  rw [e]
  refine h p b _ hp hb' nb (λ c o q => ?_) a5 ?_
  . rw [a4 (ai q hp), a4 (ai q hb'), a4 (ai q hp)]
    exact q
  . rw [a4 nb]
    exact a5
theorem getK_i {p : Addr} {y v : V} {k : Key} {kvs : List (Key × V)} {H : Hp} {Q : VK} (h : Rd H p (.dK kvs)) (hk : e8 y = some k) (hv : ak kvs k = some v) (q : Q v H) : aw (.ref p) y H Q := by
  unfold aw
  rcases h with h | ⟨o, h⟩
  . have : cL H p y = some (some v) := by
      unfold cL
      simp only [h, hk, Option.map_some, hv]
    simp only [h, this]
    exact q
  . have : cL H p y = some (some v) := by
      unfold cL
      simp only [h, hk, Option.map_some, hv]
    simp only [h, this]
    exact q
theorem setK_i {p : Addr} {i v : V} {k : Key} {kvs : List (Key × V)} {H : Hp} {Q : Hp -> Prop} (h : H p = some (.dK kvs)) (hk : e8 i = some k) (hz : kvs.length < sizeLine) (q : Q (upd H p (.dK (b8 kvs k v)))) : bV (.ref p) i v H Q := by
  unfold bV
  simp only [h, hk]
  exact ⟨hz, q⟩
theorem mK {p : Addr} {i : Int} {v : V} {j : Nat} {xs : List V} {H : Hp} {Q : Hp -> Prop} (h : H p = some (.lst xs)) (hj : ixN xs.length i = some j) (q : Q (upd H p (.lst (xs.set j v)))) : bV (.ref p) (.int i) v H Q := by
  unfold bV
  simp only [h, hj]
  exact q
theorem iterD_i {a : Addr} {kvs : List (Key × V)} {H : Hp} {R : It -> Hp -> Th -> Prop} (h : H a = some (.dK kvs)) (q : ∀ o, R (Itd a o kvs) (upd H a (.frz o (.dK kvs))) (some (a, .dK kvs))) : aq (.ref a) H R := by
  unfold aq
  simp only [h]
  exact q
theorem items_i {a : Addr} {kvs : List (Key × V)} {H : Hp} {R : It -> Hp -> Th -> Prop} (h : H a = some (.dK kvs)) (q : ∀ o, R (Itp a o kvs) (upd H a (.frz o (.dK kvs))) (some (a, .dK kvs))) : cX (.ref a) H R := by
  unfold cX
  simp only [h]
  exact q
theorem o4 {p : Addr} {ys : List V} {H : Hp} {Q : VK} (h : H p = some (.lst ys)) (q : newO H (.lst ys) Q) : cp [.ref p] H Q := by
  unfold cp
  simp only [h]
  exact q
theorem ke {p : Addr} {kvs : List (Key × V)} {H : Hp} {Q : VK} (h : Rd H p (.dK kvs)) (q : newO H (.lst (kvs.map λ kv => kV kv.1)) Q) : cp [.ref p] H Q := by
  unfold cp
  rcases h with h | ⟨o, h⟩
  . simp only [h]
    exact q
  . simp only [h]
    exact q
theorem listS_i {z : Str} {H : Hp} {Q : VK} (hz : z.length <= sizeLine) (q : newO H (.lst (z.cps.toList.map λ c => V.str ⟨#[c]⟩)) Q) : cp [.str z] H Q := by
  unfold cp
  exact ⟨hz, q⟩
theorem lenT_i {p : Addr} {xs : List V} {H : Hp} {Q : VK} (h : H p = some (.tup xs)) (q : Q (.int xs.length) H) : pO p H Q := by
  unfold pO
  simp only [h]
  exact q
theorem fL {neg : Bool} {p : Addr} {x : V} {ys : List V} {es : List PyData} {d : PyData} {H : Hp} {Q : VK} (h : H p = some (.lst ys)) (he : nM H ys = some es) (hd : rdD 7 H x = some d) (q : Q (.bl (neg ^^ es.any λ e => PyData.eqv e d)) H) : inG neg x (.ref p) H Q := by
  unfold inG
  simp only [h, he, hd]
  exact q
theorem truL_i {p : Addr} {xs : List V} {H : Hp} {Q : Bool -> Hp -> Prop} (h : H p = some (.lst xs)) (q : Q (!xs.isEmpty) H) : truH p H Q := by
  unfold truH
  simp only [h]
  exact q
theorem slL_i {a : Addr} {xs : List V} {lo hi : Option Int} {H : Hp} {Q : VK} (h : H a = some (.lst xs)) (q : newO H (.lst (iU xs lo hi)) Q) : slH a lo hi H Q := by
  unfold slH
  simp only [h]
  exact q
theorem loop_dic {a : Addr} {o : Obj} {kvs : List (Key × V)} {g : TG} {tb : TS} {D : Ends} {σ : St} {H : Hp} (Pv : Nat -> St -> Hp -> Prop) (h0 : Pv 0 σ H) (hl : ∀ i σ H, i <= kvs.length -> Pv i σ H -> H a = some (.frz o (.dK kvs)))
    (hs : ∀ i k v σ H, kvs[i]? = some (k, v) -> Pv i σ H -> g (kV k) σ H λ σ2 H2 => tb { D with nx := Pv (i + 1), ct := Pv (i + 1), bk := D.nx } σ2 H2) (hd : ∀ σ H, Pv kvs.length σ H -> D.nx σ H) : bQ (Itd a o kvs) g tb D σ H := by
  unfold bQ
  refine ⟨λ i m σ H => m = kvs.length - i /\ i <= kvs.length /\ Pv i σ H, ⟨_, rfl, Nat.zero_le _, h0⟩, ?_⟩
  rintro i m σ H ⟨rfl, hi, p⟩
  have q := hl i σ H hi p
  by_cases hlt : i < kvs.length
  . refine .inr ⟨⟨q, hlt⟩, Pv (i + 1), λ σ' H' h => ⟨_, by omega, rfl, hlt, h⟩, ?_⟩
    rintro x H' ⟨rfl, k, v, hx, rfl⟩
    exact hs i k v σ _ hx p
  . have e : i = kvs.length := by omega
    subst e
    exact .inl ⟨⟨q, Nat.le_refl _⟩, hd σ H p⟩
theorem loop_itm {a : Addr} {o : Obj} {kvs : List (Key × V)} {g : TG} {tb : TS} {D : Ends} {σ : St} {H : Hp} (Pv : Nat -> St -> Hp -> Prop) (h0 : Pv 0 σ H) (hl : ∀ i σ H, i <= kvs.length -> Pv i σ H -> H a = some (.frz o (.dK kvs)))
    (hs : ∀ i k v t σ H G, kvs[i]? = some (k, v) -> Pv i σ H -> H t = none -> Same H G -> G t = some (.tup [kV k, v]) -> G = upd H t (.tup [kV k, v]) -> g (.ref t) σ G λ σ2 H2 => tb { D with nx := Pv (i + 1), ct := Pv (i + 1), bk := D.nx } σ2 H2) (hd : ∀ σ H, Pv kvs.length σ H -> D.nx σ H) : bQ (Itp a o kvs) g tb D σ H := by
  unfold bQ
  refine ⟨λ i m σ H => m = kvs.length - i /\ i <= kvs.length /\ Pv i σ H, ⟨_, rfl, Nat.zero_le _, h0⟩, ?_⟩
  rintro i m σ H ⟨rfl, hi, p⟩
  have q := hl i σ H hi p
  by_cases hlt : i < kvs.length
  . refine .inr ⟨⟨q, hlt⟩, Pv (i + 1), λ σ' H' h => ⟨_, by omega, rfl, hlt, h⟩, ?_⟩
    rintro x H' ⟨k, v, t, hx, rfl, ht, rfl⟩
    exact hs i k v t σ H _ hx p ht (bw ht) a5 rfl
  . have e : i = kvs.length := by omega
    subst e
    exact .inl ⟨⟨q, Nat.le_refl _⟩, hd σ H p⟩
theorem o5 {J : It} {xs : List V} {tn : List Str} {fr : List (Str × Nat)} {g : TG} {tt : TT} {te : TE} {σ : St} {H : Hp} {Q : VK} (f : V -> Option V) (hz : xs.length < sizeLine)
    (hJ : ∀ G, Same H G -> (∀ i, i < xs.length -> J.go i G) /\ J.stop xs.length G /\ ∀ i x G', i < xs.length -> J.yld i G x G' -> G' = G /\ xs[i]? = some x)
    (turn : ∀ (i : Nat) (x : V), xs[i]? = some x -> ∀ (G : Hp) (k : Option V -> Hp -> Prop), Same H G -> k (f x) G -> g x (inn tn fr σ) G λ σ2 G2 => tt σ2 G2 λ b G3 => br b (te σ2 G3 λ y G4 => k (some y) G4) (k none G3))
    (fin : ∀ p G, H p = none -> Same H G -> G p = some (.lst (xs.filterMap f)) -> Q (.ref p) G) : bF J tn fr g tt te σ H Q := by
  unfold bF
  intro p hp
  refine ⟨λ i m G => m = xs.length - i /\ i <= xs.length /\ Same H G /\ G p = some (.lst ((xs.take i).filterMap f)), ⟨_, rfl, Nat.zero_le _, bw hp, by simp [a5]⟩, ?_⟩
  rintro i m G ⟨rfl, hi, sm, hg⟩
  obtain ⟨j1, j2, j3⟩ := hJ G sm
  by_cases hlt : i < xs.length
  . refine .inr ⟨j1 i hlt, λ G' => Same H G' /\ G' p = some (.lst ((xs.take (i + 1)).filterMap f)), λ G' h => ⟨_, by omega, rfl, hlt, h⟩, λ x G' y => ?_⟩
    obtain ⟨rfl, hx⟩ := j3 i x G' hlt y
    have et : xs.take (i + 1) = xs.take i ++ [x] := by
      rw [List.take_succ, hx]
      rfl
    have hlen : ((xs.take i).filterMap f).length < sizeLine := by
      have := List.length_filterMap_le f (xs.take i)
      have h2 := List.length_take_le i xs
      omega
    refine turn i x hx _ (λ r G4 => match r with
      | some y => ∃ ys, G4 p = some (.lst ys) /\ ys.length < sizeLine /\ Same H (upd G4 p (.lst (ys ++ [y]))) /\ (upd G4 p (.lst (ys ++ [y]))) p = some (.lst ((xs.take (i + 1)).filterMap f))
      | none => Same H G4 /\ G4 p = some (.lst ((xs.take (i + 1)).filterMap f))) sm ?_
    cases e : f x with
    | none =>
      refine ⟨sm, ?_⟩
      rw [et, List.filterMap_append]
      simpa [e] using hg
    | some y =>
      refine ⟨_, hg, hlen, sm.put hp, ?_⟩
      rw [a5, et, List.filterMap_append]
      simp [e]
  . have e : i = xs.length := by omega
    subst e
    rw [List.take_length] at hg
    exact .inl ⟨j2, fin p G hp sm hg⟩
theorem iu {a : Addr} {xs : List V} {tn : List Str} {fr : List (Str × Nat)} {g : TG} {tt : TT} {te : TE} {σ : St} {H : Hp} {Q : VK} (f : V -> Option V) (ha : H a = some (.lst xs)) (hz : xs.length < sizeLine)
    (turn : ∀ (i : Nat) (x : V), xs[i]? = some x -> ∀ (G : Hp) (k : Option V -> Hp -> Prop), Same H G -> k (f x) G -> g x (inn tn fr σ) G λ σ2 G2 => tt σ2 G2 λ b G3 => br b (te σ2 G3 λ y G4 => k (some y) G4) (k none G3))
    (fin : ∀ p G, H p = none -> Same H G -> G p = some (.lst (xs.filterMap f)) -> Q (.ref p) G) : bF (gE a) tn fr g tt te σ H Q := by
  refine o5 f hz (λ G sm => ?_) turn fin
  refine ⟨λ i hi => ⟨xs, xs[i], .inl (sm _ _ ha), by simp [hi]⟩, ⟨xs, .inl (sm _ _ ha), Nat.le_refl _⟩, ?_⟩
  rintro i x G' hi ⟨rfl, h⟩
  exact ⟨rfl, h xs (.inl (sm _ _ ha))⟩
theorem ge {H G : Hp} {a : Addr} {u f : HO} (h : H a = some u) (s : Same (upd H a f) G) : Same H (upd G a u) := λ b o e => by
  by_cases z : b = a
  . subst z
    rw [h] at e
    cases e
    exact a5
  . rw [a4 z]
    exact s b o (by rw [a4 z]; exact e)
theorem frz_free {H : Hp} {a p : Addr} {f : HO} (h : upd H a f p = none) : H p = none /\ p ≠ a := by
  by_cases z : p = a
  . subst z
    rw [a5] at h
    cases h
  . rw [a4 z] at h
    exact ⟨h, z⟩
def SameX (x : Addr) (H G : Hp) : Prop := ∀ b o, b ≠ x -> H b = some o -> G b = some o
theorem SameX.trans {x : Addr} {H G J : Hp} (a : SameX x H G) (b : SameX x G J) : SameX x H J := λ c o n e => b c o n (a c o n e)
theorem bX {x : Addr} {H G : Hp} (s : Same H G) : SameX x H G := λ b o _ e => s b o e
theorem aY {x : Addr} {H : Hp} {o : HO} : SameX x H (upd H x o) := λ b u n e => by
  rw [a4 n]
  exact e
end Tv
namespace Tv
open PySem PySem.Spec PyProof.Rows L2
theorem us1 {us : List Value} (h : us.length = 1) : ∃ a, us = [a] := List.length_eq_one_iff.mp h
theorem us2 {us : List Value} (h : us.length = 2) : ∃ a b, us = [a, b] := by
  cases us with
  | nil => cases h
  | cons a r =>
    obtain ⟨b, rfl⟩ := us1 (us := r) (by simpa using h)
    exact ⟨a, b, rfl⟩
theorem us3 {us : List Value} (h : us.length = 3) : ∃ a b c, us = [a, b, c] := by
  cases us with
  | nil => cases h
  | cons a r =>
    obtain ⟨b, c, rfl⟩ := us2 (us := r) (by simpa using h)
    exact ⟨a, b, c, rfl⟩
theorem us4 {us : List Value} (h : us.length = 4) : ∃ a b c d, us = [a, b, c, d] := by
  cases us with
  | nil => cases h
  | cons a r =>
    obtain ⟨b, c, d, rfl⟩ := us3 (us := r) (by simpa using h)
    exact ⟨a, b, c, d, rfl⟩
theorem us5 {us : List Value} (h : us.length = 5) : ∃ a b c d e, us = [a, b, c, d, e] := by
  cases us with
  | nil => cases h
  | cons a r =>
    obtain ⟨b, c, d, e, rfl⟩ := us4 (us := r) (by simpa using h)
    exact ⟨a, b, c, d, e, rfl⟩
def FnE (P : Program) (w : World) (K : PySem.W.Frag) (mg : Str -> Option Value) (base : Heap) (CX : CXT) (k : Nat) (x : Str) (sp : Sp) : Prop :=
  ∃ f fd ps, FnOk P w K mg base CX k f fd ps sp /\ mg x = some (.ref f) /\ PySem.W.keepIn K (.ref f) = true /\ Binds K fd ps []
section
variable {P : Program} {w : World} {K : PySem.W.Frag} {mg : Str -> Option Value} {base : Heap} {CX : CXT} {j k : Nat} {T : Tabs} {x : Str} {sp : Sp}
theorem FnE.mono (h : FnE P w K mg base CX j x sp) (hj : j <= k) : FnE P w K mg base CX k x sp := by
  obtain ⟨f, fd, ps, F, r⟩ := h
  exact ⟨f, fd, ps, F.mono hj, r⟩
inductive Ents {α : Type} (R : Str -> α -> Prop) : List (Str × α) -> Prop where
  | nil : Ents R []
  | cons {x : Str} {a : α} {r : List (Str × α)} (h : R x a) (t : Ents R r) : Ents R ((x, a) :: r)
theorem Ents.get {α : Type} {R : Str -> α -> Prop} : ∀ {l : List (Str × α)}, Ents R l -> ∀ x a, l.lookup x = some a -> R x a
  | _, .nil, x, a, h => by cases h
  | _, .cons h t, x, a, e => by
    rw [List.lookup_cons] at e
    split at e
    . rename_i q
      cases e
      have := eq_of_beq q
      subst this
      exact h
    . exact t.get x a e
structure DefAt (K : PySem.W.Frag) (mg : Str -> Option Value) (x : Str) (st : Stmt) (ps : List Str) (f : Addr) (fd : FuncData) : Prop where
  fn : Fun K x x st f fd
  b : Binds K fd ps []
  m : mg x = some (.ref f)
theorem aK {h : Heap} {st : Stmt} {ps : List Str} {f : Addr} {oc : Value} {od an : Option Addr} {osl : Array (Option Value)} {kV doc pm cdv ct : Value} (X : K.In h) (G : h.Ns mainGlobals mg)
    (a : PySem.W.nsIn K mainGlobals x = some (some (.ref f))) (l : K.lookup f = some ⟨oc, od, .func (PySem.W.fnOf x x (ae st) (a7 st) (a0 st) .none kV doc pm an cdv ct), osl⟩) (c : PySem.W.codeIn K cdv x = true) (k : PySem.W.keepIn K (.ref f) = true)
    (hb : ∀ (kV doc pm : Value) (an : Option Addr) (cdv ct : Value) (us : List Value), us.length = ps.length -> bindArgs (PySem.W.fnOf x x (ae st) (a7 st) (a0 st) .none kV doc pm an cdv ct) ⟨us, []⟩ = pure (ps.zip us)) :
    ∃ fd, DefAt K mg x st ps f fd := by
  have F := fe (st := st) l c k
  exact ⟨_, F, F.binds hb, PySem.W.mg_of X G a⟩
theorem DefAt.ok {st : Stmt} {N ps : List Str} {f : Addr} {fd : FuncData} (A : DefAt K mg x st ps f fd) (n : Nat) (S : FnScope N ps (a0 st)) (L : Lib P w K mg base CX0 k T)
    (len : ∀ vs H Q E, sp vs H Q E -> vs.length = ps.length) {t : TS} (ht : wSs (wp n) (cfg T K N (a0 st).names E0) (a7 st) = t)
    (hb : ∀ vs H Q E, sp vs H Q E -> t { nx := λ _ H' => Q .non H', rt := Q } (dJ N vs) H) : FnE P w K mg base CX0 (k + 2) x sp :=
  ⟨f, fd, ps, nY n A.fn S L len ht hb, A.m, A.fn.kp, A.b⟩
def MtE (P : Program) (w : World) (K : PySem.W.Frag) (mg : Str -> Option Value) (base : Heap) (CX : CXT) (k : Nat) (m : Str) (p : Addr × Sp) : Prop :=
  ∃ f fd ps, Meth K p.1 m f /\ FnOk P w K mg base CX k f fd ps p.2 /\ Binds K fd ps []
def MkE (P : Program) (w : World) (K : PySem.W.Frag) (mg : Str -> Option Value) (base : Heap) (CX : CXT) (k : Nat) (x : Str) (p : Addr × Sp) : Prop :=
  ∃ f fd ps, Mk K p.1 f /\ FnOk P w K mg base CX k f fd ps p.2 /\ mg x = some (.ref p.1) /\ Binds K fd ps []
theorem MtE.mono {p : Addr × Sp} (h : MtE P w K mg base CX j x p) (hj : j <= k) : MtE P w K mg base CX k x p := by
  obtain ⟨f, fd, ps, M, F, r⟩ := h
  exact ⟨f, fd, ps, M, F.mono hj, r⟩
theorem MkE.mono {p : Addr × Sp} (h : MkE P w K mg base CX j x p) (hj : j <= k) : MkE P w K mg base CX k x p := by
  obtain ⟨f, fd, ps, M, F, r⟩ := h
  exact ⟨f, fd, ps, M, F.mono hj, r⟩
theorem MtE.mk {cl : Addr} {m qual : Str} {st : Stmt} {N ps : List Str} {f : Addr} {fd : FuncData} (M : Meth K cl m f) (F : Fun K m qual st f fd) (b : Binds K fd ps []) (n : Nat) (S : FnScope N ps (a0 st)) (L : Lib P w K mg base CX0 k T)
    (len : ∀ vs H Q E, sp vs H Q E -> vs.length = ps.length) {t : TS} (ht : wSs (wp n) (cfg T K N (a0 st).names E0) (a7 st) = t)
    (hb : ∀ vs H Q E, sp vs H Q E -> t { nx := λ _ H' => Q .non H', rt := Q } (dJ N vs) H) : MtE P w K mg base CX0 (k + 2) m (cl, sp) :=
  ⟨f, fd, ps, M, nY n F S L len ht hb, b⟩
theorem MkE.mk {cl : Addr} {m qual : Str} {st : Stmt} {N ps : List Str} {f : Addr} {fd : FuncData} (M : Mk K cl f) (hx : mg x = some (.ref cl)) (F : Fun K m qual st f fd) (b : Binds K fd ps []) (n : Nat) (S : FnScope N ps (a0 st)) (L : Lib P w K mg base CX0 k T)
    (len : ∀ vs H Q E, sp vs H Q E -> vs.length = ps.length) {t : TS} (ht : wSs (wp n) (cfg T K N (a0 st).names E0) (a7 st) = t)
    (hb : ∀ vs H Q E, sp vs H Q E -> t { nx := λ _ H' => Q .non H', rt := Q } (dJ N vs) H) : MkE P w K mg base CX0 (k + 2) x (cl, sp) :=
  ⟨f, fd, ps, M, nY n F S L len ht hb, hx, b⟩
theorem lib_cls {C : Addr} (c : Cls K C) (h : Ents (FnE P w K mg base CX k) T.fns) (hm : Ents (MkE P w K mg base CX k) T.mks) (ht : Ents (λ m p => p.1 = C /\ MtE P w K mg base CX k m p) T.mts) (hf : Ents (λ f cl => cl = C /\ NoAttr K cl f) T.fld)
    (hg : ∀ x v, T.glo.lookup x = some v -> ∃ u, mg x = some u /\ RelV v u) (hn : ∀ x ∈ T.nog, mg x = none) (hi : ∀ c ∈ T.ics, IsC K c := by intro c hc; cases hc) : Lib P w K mg base CX k T where
  ics := hi
  fns := h.get
  mks := λ x cl sp e => hm.get x (cl, sp) e
  mts := λ x cl sp e => by
    obtain ⟨e, f, fd, ps, M, F, b⟩ := ht.get x (cl, sp) e
    have e : cl = C := e
    subst e
    exact ⟨f, fd, ps, c, M, F, b⟩
  fld := λ x cl e => by
    obtain ⟨e, n⟩ := hf.get x cl e
    subst e
    exact ⟨c, n⟩
  glo := hg
  nog := hn
end
abbrev sts (zs : List Str) : List V := zs.map V.str
theorem iw : ∀ zs : List Str, fj (sts zs) = some zs
  | [] => rfl
  | z :: r => by
    rw [sts, List.map_cons]
    show (match fj (sts r) with | some l => some (z :: l) | none => none) = _
    rw [iw r]
theorem kf (n : Nat) (H : Hp) : ∀ zs : List Str, (sts zs).mapM (rdD n H) = some (zs.map PyData.str)
  | [] => by simp
  | z :: r => by
    rw [sts, List.map_cons, mapM_cons]
    have : rdD n H (.str z) = some (.str z) := by cases n <;> rfl
    rw [this, Option.bind_some, show (r.map V.str).mapM (rdD n H) = some (r.map PyData.str) from kf n H r]
    rfl
theorem any_str (zs : List Str) (z : Str) : ((zs.map PyData.str).any λ e => PyData.eqv e (.str z)) = decide (z ∈ zs) := by
  induction zs with
  | nil => simp
  | cons a r ih =>
    rw [List.map_cons, List.any_cons, ih, show PyData.eqv (.str a) (.str z) = (a == z) from rfl]
    by_cases h : a = z
    . subst h
      simp
    . have : ¬ z = a := λ e => h e.symm
      simp [h, this]
theorem o6 {neg : Bool} {p : Addr} {z : Str} {zs : List Str} {H : Hp} {Q : VK} (h : H p = some (.lst (sts zs))) (q : Q (.bl (neg ^^ decide (z ∈ zs))) H) : inG neg (.str z) (.ref p) H Q :=
  fL h (kf 7 H zs) rfl (by rw [any_str]; exact q)
theorem atS {zs : List Str} {j : Nat} {z : Str} (h : zs[j]? = some z) : atI (sts zs) (j : Int) = some (.str z) := bm (by simp [h])
theorem bC {z : Str} (h : gt z = true) : 1 <= z.length /\ z.length <= 8 /\ z ≠ "all" := by
  unfold gt at h
  simp only [Bool.and_eq_true, decide_eq_true_eq, Bool.not_eq_true', beq_eq_false_iff_ne] at h
  exact ⟨h.1.1.1, h.1.1.2, h.1.2⟩
def Nms (zs : List Str) : Prop := (∀ z ∈ zs, gt z = true) /\ zs.Nodup
def aP : Sp := λ vs H Q _ => ∃ z : Str, vs = [.str z] /\ z.length <= 1000 /\ ∀ H', Same H H' -> Q (.str z) H'
def fM : TS :=
  (aD (cW "join" (tC (.str "")) (a3 (tCB cp (a3 (gv 0) a8)) a8)))
theorem ix : ∀ l : List Nat, (Str.join "" (l.map λ c => (⟨#[c]⟩ : Str))).cps.toList = l
  | [] => rfl
  | [c] => rfl
  | c :: d :: r => by
    have ih := ix (d :: r)
    rw [List.map_cons] at ih ⊢
    show ((⟨#[c]⟩ : Str) ++ "" ++ Str.join "" ((d :: r).map λ c => (⟨#[c]⟩ : Str))).cps.toList = _
    rw [hZ, hZ]
    rw [List.map_cons, ih]
    rfl
theorem str_ext {a b : Str} (h : a.cps.toList = b.cps.toList) : a = b := by
  obtain ⟨⟨l⟩⟩ := a
  obtain ⟨⟨m⟩⟩ := b
  simp at h
  subst h
  rfl
theorem join_all (z : Str) : Txt.join "" (z.cps.toList.map λ c => (⟨#[c]⟩ : Str)) = z := by
  show Builtin.Str.glued _ _ = _
  rw [StrLaws.glued_eq_join]
  exact str_ext (ix _)
theorem lE : ∀ l : List Nat, ((l.map λ c => (⟨#[c]⟩ : Str)).map (·.length)).sum = l.length
  | [] => rfl
  | c :: r => by
    rw [List.map_cons, List.map_cons, List.sum_cons, lE r, List.length_cons]
    show 1 + _ = _
    omega
theorem kh {z : Str} {H : Hp} {D : Ends} (hz : z.length <= 1000) (q : ∀ H', Same H H' -> D.rt (.str z) H') : fM D [some (.str z)] H := by
  have hs := sz
  refine join_i (listS_i (by omega) (af λ p G n s h => ?_))
  have e : (z.cps.toList.map λ c => V.str ⟨#[c]⟩) = sts (z.cps.toList.map λ c => (⟨#[c]⟩ : Str)) := by rw [sts, List.map_map]; rfl
  rw [e] at h
  refine join_at h (iw _) ?_ ?_
  . rw [lE]
    have e0 : ("" : Str).length = 0 := rfl
    have : z.cps.toList.length = z.length := by rw [Array.length_toList]; rfl
    rw [e0, Nat.mul_zero]
    omega
  . rw [join_all]
    exact q G s
def aF : Sp := λ vs H Q _ => ∃ (z : Str) (l : Addr) (ys : List Str), vs = [.str z, .ref l] /\ H l = some (.lst (sts ys)) /\ gt z = true /\ z ∉ ys /\ ∀ H', Same H H' -> Q (.str z) H'
def eh : TS :=
  (ad (sIf (fA (ptG (am dq [] E0 (a3 (gv 0) a8))))
    xS
    ay)
  (ad (ah (am aP [] E0 (a3 (gv 0) a8)) (a6 2))
  (ad (sIf (bT (tOp (inG false) (gv 2) (gv 1)))
    xS
    ay)
  (aD (gv 2)))))
theorem iy {z : Str} {l : Addr} {ys : List Str} {H : Hp} {D : Ends} (hl : H l = some (.lst (sts ys))) (hz : gt z = true) (hn : z ∉ ys) (q : ∀ H', Same H H' -> D.rt (.str z) H') : eh D [some (.str z), some (.ref l), none] H := by
  have hs := sz
  obtain ⟨h1, h8, _⟩ := bC hz
  refine ⟨.str z, _, rfl, rfl, λ y e => (by cases e; omega), λ G1 s1 => ?_⟩
  refine bb (by rw [show ly (.str z) = true from hz]; rfl) ?_
  refine ⟨z, rfl, by omega, λ G2 s2 => ?_⟩
  refine o6 (s2 _ _ (s1 _ _ hl)) ?_
  exact bb (by rw [decide_eq_false hn]; rfl) (q G2 (s1.trans s2))
def bd : Sp := λ vs H Q _ => ∃ (z : Str) (l : Addr) (ys : List Str), vs = [.str z, .ref l] /\ H l = some (.lst (sts ys)) /\ z.length <= 8 /\ (z = "all" \/ z ∈ ys) /\ ∀ H', Same H H' -> Q (.str z) H'
def dO : TS :=
  (ad (sIf (fA (ptG (tCB iZ (a3 (gv 0) (a3 (tC (.ty "str")) a8)))))
    xS
    ay)
  (ad (ah (am aP [] E0 (a3 (gv 0) a8)) (a6 2))
  (ad (sIf (e9 (bT (tOp neG (gv 2) (tC (.str "all")))) (bT (tOp (inG true) (gv 2) (gv 1))))
    xS
    ay)
  (aD (gv 2)))))
theorem gI {z : Str} {l : Addr} {ys : List Str} {H : Hp} {D : Ends} (hl : H l = some (.lst (sts ys))) (hz : z.length <= 8) (hn : z = "all" \/ z ∈ ys) (q : ∀ H', Same H H' -> D.rt (.str z) H') : dO D [some (.str z), some (.ref l), none] H := by
  refine lA rfl rfl (bb rfl ?_)
  refine ⟨z, rfl, by omega, λ G2 s2 => ?_⟩
  refine aR (λ h => ?_) (λ h => bb rfl (q G2 s2))
  refine o6 (s2 _ _ hl) ?_
  have h : (!(z == ("all" : Str))) = true := h
  have hm : z ∈ ys := by
    rcases hn with rfl | hn
    . simp at h
    . exact hn
  exact bb (by rw [decide_eq_true hm]; rfl) (q G2 s2)
def aV : Sp := λ vs H Q _ => ∃ (c : Addr) (cs : List Str), vs = [.ref c] /\ H c = some (.lst (sts cs)) /\ Nms cs /\ 1 <= cs.length /\ cs.length <= 8 /\ ∀ p H', Same H H' -> H p = none -> H' p = some (.lst (sts cs)) -> Q (.ref p) H'
def cP : TS :=
  (ad (sIf (mt (fA (ptG (tCB iZ (a3 (gv 0) (a3 (tC (.ty "list")) a8))))) (fA (bT (fi leG leG (tC (.int 1)) (tCB fk (a3 (gv 0) a8)) (tC (.int 8))))))
    xS
    ay)
  (ad (ah (aH a8) (a6 1))
  (ad (aN (iOf aq (gv 0)) (a6 2)
    (cj (cW "append" (gv 1) (a3 (am aF [] E0 (a3 (gv 2) (a3 (gv 1) a8))) a8))))
  (aD (gv 1)))))
theorem fN {α : Type} {xs : List α} (h : xs.Nodup) {i : Nat} {x : α} (hx : xs[i]? = some x) : x ∉ xs.take i := by
  intro m
  obtain ⟨j, hj, e⟩ := List.mem_iff_getElem.mp m
  have hi := (List.getElem?_eq_some_iff.mp hx).1
  rw [List.length_take] at hj
  rw [List.getElem_take] at e
  have e2 : xs[i] = x := (List.getElem?_eq_some_iff.mp hx).2
  have hp := List.pairwise_iff_getElem.mp h j i (by omega) hi (by omega)
  exact hp (e.trans e2.symm)
theorem ab {α : Type} {xs : List α} {i : Nat} {x : α} (hx : xs[i]? = some x) : xs.take (i + 1) = xs.take i ++ [x] := by
  rw [List.take_succ, hx]
  rfl
theorem gP {a b : Int} (h : a <= b) : decide (a <= b) = true := decide_eq_true h
theorem b4 {zs : List Str} {i : Nat} {x : V} (h : (sts zs)[i]? = some x) : ∃ z, zs[i]? = some z /\ x = .str z := by
  rw [sts, List.getElem?_map] at h
  cases e : zs[i]? with
  | none => rw [e] at h; cases h
  | some z => rw [e] at h; cases h; exact ⟨z, rfl, rfl⟩
theorem de (zs : List Str) (z : Str) : sts zs ++ [.str z] = sts (zs ++ [z]) := by simp [sts]
theorem fO {c : Addr} {cs : List Str} {H : Hp} {D : Ends} (hc : H c = some (.lst (sts cs))) (hn : Nms cs) (h1 : 1 <= cs.length) (h8 : cs.length <= 8) (q : ∀ p H', Same H H' -> H p = none -> H' p = some (.lst (sts cs)) -> D.rt (.ref p) H') : cP D [some (.ref c), none, none] H := by
  have hs := sz
  refine lA rfl (lB hc) (bb rfl ?_)
  refine cY hc ?_
  rw [show (sts cs).length = cs.length from List.length_map ..]
  refine bO (gP (by omega)) ?_
  refine bb (by rw [gP (by omega)]; rfl) ?_
  refine ⟨few rfl, af λ p G1 n1 s1 t1 => ?_⟩
  refine ap (aj (s1 _ _ hc) (ar (xs := sts cs) (λ i σ G => Same H G /\ G p = some (.lst (sts (cs.take i))) /\ ∃ v, σ = [some (.ref c), some (.ref p), v]) ⟨s1, t1, _, rfl⟩ (λ i σ G _ h => h.1 _ _ hc) ?_ ?_))
  . rintro i x σ G hx ⟨sm, hg, v, rfl⟩
    obtain ⟨z, hz, rfl⟩ := b4 hx
    refine cO hg ⟨z, p, _, rfl, hg, hn.1 z (List.mem_of_getElem? hz), fN hn.2 hz, λ G2 s2 => ?_⟩
    refine bB (s2 _ _ hg) (by simp; omega) ⟨(sm.trans s2).put n1, ?_, _, rfl⟩
    rw [a5, de, ab hz]
  . rintro σ G ⟨sm, hg, v, rfl⟩
    rw [show (sts cs).length = cs.length from List.length_map .., List.take_length] at hg
    exact q p G sm n1 hg
def PairsAt (H : Hp) (xs : List V) (ps : List (Str × Str)) : Prop := xs.length = ps.length /\ ∀ (i : Nat) q, ps[i]? = some q -> ∃ t, xs[i]? = some (.ref t) /\ H t = some (.tup [.str q.1, .str q.2])
theorem PairsAt.same {H G : Hp} {xs : List V} {ps : List (Str × Str)} (h : PairsAt H xs ps) (s : Same H G) : PairsAt G xs ps := ⟨h.1, λ i q e => by
  obtain ⟨t, e1, e2⟩ := h.2 i q e
  exact ⟨t, e1, s _ _ e2⟩⟩
theorem PairsAt.put {H : Hp} {xs ys : List V} {ps : List (Str × Str)} {l : Addr} {o : HO} (h : PairsAt H xs ps) (hl : H l = some (.lst ys)) : PairsAt (upd H l o) xs ps := ⟨h.1, λ i q e => by
  obtain ⟨t, e1, e2⟩ := h.2 i q e
  refine ⟨t, e1, ?_⟩
  rw [a4 λ z => by rw [z, hl] at e2; cases e2]
  exact e2⟩
theorem PairsAt.nil {H : Hp} : PairsAt H [] [] := ⟨rfl, λ i q e => by simp at e⟩
theorem PairsAt.snoc {H : Hp} {xs : List V} {ps : List (Str × Str)} {t : Addr} {q : Str × Str} (h : PairsAt H xs ps) (ht : H t = some (.tup [.str q.1, .str q.2])) : PairsAt H (xs ++ [.ref t]) (ps ++ [q]) := by
  refine ⟨by simp [h.1], λ i r e => ?_⟩
  by_cases hi : i < ps.length
  . rw [List.getElem?_append_left hi] at e
    rw [List.getElem?_append_left (by rw [h.1]; exact hi)]
    exact h.2 i r e
  . have hi2 : i = ps.length := by
      have := (List.getElem?_eq_some_iff.mp e).1
      simp at this
      omega
    subst hi2
    simp at e
    subst e
    exact ⟨t, by rw [<- h.1]; simp, ht⟩
theorem PairsAt.at {H : Hp} {xs : List V} {ps : List (Str × Str)} (h : PairsAt H xs ps) {i : Nat} {x : V} (hx : xs[i]? = some x) : ∃ q t, ps[i]? = some q /\ x = .ref t /\ H t = some (.tup [.str q.1, .str q.2]) := by
  have hi := (List.getElem?_eq_some_iff.mp hx).1
  rw [h.1] at hi
  obtain ⟨t, e1, e2⟩ := h.2 i ps[i] (by simp [hi])
  rw [hx] at e1
  cases e1
  exact ⟨ps[i], t, by simp [hi], rfl, e2⟩
structure Good (ps : List (Str × Str)) : Prop where
  one : 1 <= ps.length
  many : ps.length <= 24
  nms : Nms (ps.map (·.1))
  abv : ∀ (i : Nat) q, ps[i]? = some q -> q.2 = "all" \/ q.2 ∈ (ps.take i).map (·.1)
def cq (ps : List (Str × Str)) : List (Key × V) := ps.map λ q => (.inr q.1, .str q.2)
theorem iz (ps : List (Str × Str)) : ((cq ps).map λ kv => kV kv.1) = sts (ps.map (·.1)) := by
  unfold cq
  rw [sts, List.map_map, List.map_map]
  rfl
theorem abv_none {ps : List (Str × Str)} {n : Str} (h : n ∉ ps.map (·.1)) : ak (cq ps) (Sum.inr n) = none := by
  induction ps with
  | nil => rfl
  | cons a r ih =>
    unfold cq
    rw [List.map_cons] at h ⊢
    rw [az (λ e => h (by
      have : a.1 = n := by injection e
      rw [this]
      simp))]
    exact ih λ m => h (List.mem_cons_of_mem _ m)
theorem ej {ps : List (Str × Str)} {i : Nat} {q : Str × Str} (h : ps[i]? = some q) : (ps.map (·.1))[i]? = some q.1 := by simp [h]
theorem Good.len2 {ps : List (Str × Str)} (g : Good ps) {i : Nat} {q : Str × Str} (h : ps[i]? = some q) : q.2.length <= 8 := by
  rcases g.abv i q h with e | m
  . rw [e]
    decide
  . have : q.2 ∈ ps.map (·.1) := by
      obtain ⟨r, hr, e⟩ := List.mem_map.mp m
      exact List.mem_map.mpr ⟨r, List.mem_of_mem_take hr, e⟩
    exact (bC (g.nms.1 _ this)).2.1
def be : Sp := λ vs H Q _ => ∃ (p : Addr) (xs : List V) (ps : List (Str × Str)), vs = [.ref p] /\ H p = some (.lst xs) /\ PairsAt H xs ps /\ Good ps /\ ∀ a H', Same H H' -> H a = none -> H' a = some (.dK (cq ps)) -> Q (.ref a) H'
def dP : TS :=
  (ad (sIf (mt (fA (ptG (tCB iZ (a3 (gv 0) (a3 (tC (.ty "list")) a8))))) (fA (bT (fi leG leG (tC (.int 1)) (tCB fk (a3 (gv 0) a8)) (tC (.int 24))))))
    xS
    ay)
  (ad (ah fK (a6 1))
  (ad (aN (iOf aq (gv 0)) (a6 2)
    (ad (sIf (mt (fA (ptG (tCB iZ (a3 (gv 2) (a3 (tC (.ty "tuple")) a8))))) (bT (tOp neG (tCB fk (a3 (gv 2) a8)) (tC (.int 2)))))
      xS
      ay)
    (ad (ah (am aF [] E0 (a3 (tOp aw (gv 2) (tC (.int 0))) (a3 (tCB cp (a3 (gv 1) a8)) a8))) (a6 3))
    (ad (ah (am bd [] E0 (a3 (tOp aw (gv 2) (tC (.int 1))) (a3 (tCB cp (a3 (gv 1) a8)) a8))) (a6 4))
    (ah (gv 4) (dS (gv 1) (gv 3) bV))))))
  (aD (gv 1)))))
theorem gJ {p : Addr} {xs : List V} {ps : List (Str × Str)} {H : Hp} {D : Ends} (hp : H p = some (.lst xs)) (hx : PairsAt H xs ps) (g : Good ps) (q : ∀ a H', Same H H' -> H a = none -> H' a = some (.dK (cq ps)) -> D.rt (.ref a) H') : dP D [some (.ref p), none, none, none, none] H := by
  have hs := sz
  have g1 := g.one
  have g2 := g.many
  refine lA rfl (lB hp) (bb rfl ?_)
  refine cY hp ?_
  rw [hx.1]
  refine bO (gP (by omega)) ?_
  refine bb (by rw [gP (by omega)]; rfl) ?_
  refine .inl (af λ a G1 n1 s1 t1 => ?_)
  refine ap (aj (s1 _ _ hp) (ar (xs := xs) (λ i σ G => Same H G /\ G a = some (.dK (cq (ps.take i))) /\ ∃ u v w, σ = [some (.ref p), some (.ref a), u, v, w]) ⟨s1, t1, _, _, _, rfl⟩ (λ i σ G _ h => h.1 _ _ hp) ?_ ?_))
  . rintro i x σ G hxi ⟨sm, hg, u, v, w, rfl⟩
    obtain ⟨r, t, hr, rfl, ht⟩ := hx.at hxi
    replace ht := sm _ _ ht
    refine lA rfl (kind_tup ht) (bb rfl ?_)
    refine lenT_i ht ?_
    refine bb rfl ?_
    refine aA ht (v := .str r.1) rfl ?_
    refine ke (.inl hg) (af λ l G2 n2 s2 t2 => ?_)
    rw [iz] at t2
    refine ⟨r.1, l, _, rfl, t2, g.nms.1 _ (List.mem_of_getElem? (ej hr)), ?_, λ G3 s3 => ?_⟩
    . rw [List.map_take]
      exact fN g.nms.2 (ej hr)
    have s23 := s2.trans s3
    refine aA (s23 _ _ ht) (v := .str r.2) rfl ?_
    refine ke (.inl (s23 _ _ hg)) (af λ l' G4 n4 s4 t4 => ?_)
    rw [iz] at t4
    refine ⟨r.2, l', _, rfl, t4, g.len2 hr, g.abv i r hr, λ G5 s5 => ?_⟩
    have s25 := (s23.trans s4).trans s5
    have hno : ak (cq (ps.take i)) (Sum.inr r.1) = none := abv_none (by
      rw [List.map_take]
      exact fN g.nms.2 (ej hr))
    refine setK_i (s25 _ _ hg) (k := Sum.inr r.1) rfl ?_ ⟨(sm.trans s25).put n1, ?_, _, _, _, rfl⟩
    . have : (cq (ps.take i)).length <= ps.length := by
        unfold cq
        rw [List.length_map, List.length_take]
        omega
      omega
    . rw [a5, cm _ hno, ab hr]
      unfold cq
      rw [List.map_append]
      rfl
  . rintro σ G ⟨sm, hg, u, v, w, rfl⟩
    rw [hx.1, List.take_length] at hg
    exact q a G sm n1 hg
def aS (xs ys : List Str) : List (Str × Str) := xs.flatMap λ x => ys.map λ y => (x, y)
theorem iA (xs ys : List Str) (x : Str) : aS (xs ++ [x]) ys = aS xs ys ++ ys.map λ y => (x, y) := by simp [aS]
theorem eO (xs ys : List Str) : (aS xs ys).length = xs.length * ys.length := by
  induction xs with
  | nil => simp [aS]
  | cons a r ih =>
    rw [show aS (a :: r) ys = (ys.map λ y => (a, y)) ++ aS r ys by simp [aS], List.length_append, ih, List.length_map, List.length_cons, Nat.succ_mul]
    omega
def eP : Sp := λ vs H Q _ => ∃ (p c : Addr) (xs ys : List Str), vs = [.ref p, .ref c] /\ H p = some (.lst (sts xs)) /\ H c = some (.lst (sts ys)) /\ xs.length <= 30 /\ ys.length <= 30 ∧
  ∀ l zs H', Same H H' -> H l = none -> H' l = some (.lst zs) -> PairsAt H' zs (aS xs ys) -> Q (.ref l) H'
def lF : TS :=
  (ad (ah (aH a8) (a6 2))
  (ad (aN (iOf aq (gv 0)) (a6 3)
    (aN (iOf aq (gv 1)) (a6 4)
      (cj (cW "append" (gv 2) (a3 (bf (a3 (gv 3) (a3 (gv 4) a8))) a8)))))
  (aD (gv 2))))
theorem r_paired {p c : Addr} {xs ys : List Str} {H : Hp} {D : Ends} (hp : H p = some (.lst (sts xs))) (hc : H c = some (.lst (sts ys))) (h1 : xs.length <= 30) (h2 : ys.length <= 30)
    (q : ∀ l zs H', Same H H' -> H l = none -> H' l = some (.lst zs) -> PairsAt H' zs (aS xs ys) -> D.rt (.ref l) H') : lF D [some (.ref p), some (.ref c), none, none, none] H := by
  have hs := sz
  refine ⟨few rfl, af λ l G1 n1 s1 t1 => ?_⟩
  refine ap (aj (s1 _ _ hp) (ar (xs := sts xs) (λ i σ G => Same H G /\ (∃ zs, G l = some (.lst zs) /\ PairsAt G zs (aS (xs.take i) ys)) /\ ∃ u v, σ = [some (.ref p), some (.ref c), some (.ref l), u, v]) ⟨s1, ⟨_, t1, .nil⟩, _, _, rfl⟩ (λ i σ G _ h => h.1 _ _ hp) ?_ ?_))
  . rintro i x σ G hx ⟨sm, ⟨zs, hg, pa⟩, u, v, rfl⟩
    obtain ⟨z, hz, rfl⟩ := b4 hx
    have hi := (List.getElem?_eq_some_iff.mp hz).1
    refine ap (aj (sm _ _ hc) (ar (xs := sts ys) (λ j σ G => Same H G /\ (∃ zs, G l = some (.lst zs) /\ PairsAt G zs (aS (xs.take i) ys ++ (ys.take j).map λ y => (z, y))) /\ ∃ v, σ = [some (.ref p), some (.ref c), some (.ref l), some (.str z), v]) ⟨sm, ⟨zs, hg, by simpa using pa⟩, _, rfl⟩ (λ i σ G _ h => h.1 _ _ hc) ?_ ?_))
    . rintro j y0 σ G hy0 ⟨sm, ⟨zs, hg, pa⟩, v, rfl⟩
      obtain ⟨y, hy, rfl⟩ := b4 hy0
      have hj := (List.getElem?_eq_some_iff.mp hy).1
      refine cO hg ⟨few rfl, af λ t G2 n2 s2 t2 => ?_⟩
      have hlen : zs.length < sizeLine := by
        rw [pa.1, List.length_append, eO, List.length_map, List.length_take, List.length_take]
        have : min i xs.length * ys.length <= 30 * 30 := Nat.mul_le_mul (by omega) h2
        omega
      refine bB (s2 _ _ hg) hlen ⟨(sm.trans s2).put n1, ⟨_, a5, ?_⟩, _, rfl⟩
      rw [ab hy, List.map_append, <- List.append_assoc]
      exact ((pa.same s2).snoc (q := (z, y)) t2).put (s2 _ _ hg)
    . rintro σ G ⟨sm, ⟨zs, hg, pa⟩, v, rfl⟩
      rw [show (sts ys).length = ys.length from List.length_map .., List.take_length] at pa
      exact ⟨sm, ⟨zs, hg, by rw [ab hz, iA]; exact pa⟩, _, _, rfl⟩
  . rintro σ G ⟨sm, ⟨zs, hg, pa⟩, u, v, rfl⟩
    rw [show (sts xs).length = xs.length from List.length_map .., List.take_length] at pa
    exact q l zs G sm n1 hg pa
end Tv
namespace Tv
open PySem PySem.Spec PyProof.Rows L2
theorem iB {H G : Hp} {a : Addr} {f : HO} (s : Same H G) : Same (upd H a f) (upd G a f) := λ b o e => by
  by_cases z : b = a
  . subst z
    rw [a5] at e ⊢
    exact e
  . rw [a4 z] at e ⊢
    exact s b o e
def av (ps : List (Str × Str)) (k : Str) : List Str := (ps.filter λ q => q.2 == k).map (·.1)
theorem ft (ps : List (Str × Str)) (q : Str × Str) (k : Str) : av (ps ++ [q]) k = av ps k ++ if q.2 = k then [q.1] else [] := by
  unfold av
  rw [List.filter_append, List.map_append]
  congr 1
  by_cases h : q.2 = k <;> simp [h]
def iC (ks : List Str) (bs : List Addr) : List (Key × V) := (ks.zip bs).map λ e => (Sum.inr e.1, V.ref e.2)
structure Ben (G : Hp) (b : Addr) (bs : List Addr) (ks : List Str) (f : Str -> List Str) : Prop where
  len : bs.length = ks.length
  nd : bs.Nodup
  d : G b = some (.dK (iC ks bs))
  l : ∀ (i : Nat) k a, ks[i]? = some k -> bs[i]? = some a -> G a = some (.lst (sts (f k)))
theorem o7 : ∀ {ks : List Str} {bs : List Addr} {j : Nat} {k : Str} {c : Addr}, ks.Nodup -> ks[j]? = some k -> bs[j]? = some c -> ak (iC ks bs) (Sum.inr k) = some (.ref c)
  | [], bs, j, k, c, _, h, _ => by simp at h
  | _ :: _, [], j, k, c, _, _, h => by simp at h
  | a :: ks, b :: bs, 0, k, c, _, h1, h2 => by
    simp at h1 h2
    subst h1 h2
    exact aJ rfl
  | a :: ks, b :: bs, j + 1, k, c, hn, h1, h2 => by
    obtain ⟨n1, n2⟩ := List.nodup_cons.mp hn
    have h1' : ks[j]? = some k := by simpa using h1
    have h2' : bs[j]? = some c := by simpa using h2
    show ak ((Sum.inr a, V.ref b) :: iC ks bs) (Sum.inr k) = _
    rw [az]
    . exact o7 n2 h1' h2'
    . intro e
      have : a = k := by injection e
      subst this
      exact n1 (List.mem_of_getElem? h1')
theorem ben_none {ks : List Str} {bs : List Addr} {k : Str} (h : k ∉ ks) : ak (iC ks bs) (Sum.inr k) = none := by
  induction ks generalizing bs with
  | nil => rfl
  | cons a r ih =>
    cases bs with
    | nil => rfl
    | cons b bs =>
      show ak ((Sum.inr a, V.ref b) :: iC r bs) (Sum.inr k) = none
      rw [az (λ e => h (by
        have : a = k := by injection e
        rw [this]
        simp))]
      exact ih λ m => h (List.mem_cons_of_mem _ m)
theorem benD_len (ks : List Str) (bs : List Addr) : (iC ks bs).length <= ks.length := by
  unfold iC
  rw [List.length_map, List.length_zip]
  omega
theorem qf {ks : List Str} {bs : List Addr} (k : Str) (b : Addr) (h : bs.length = ks.length) : iC (ks ++ [k]) (bs ++ [b]) = iC ks bs ++ [(Sum.inr k, V.ref b)] := by
  unfold iC
  rw [List.zip_append h.symm, List.map_append]
  rfl
theorem Ben.to {G G' : Hp} {b : Addr} {bs : List Addr} {ks : List Str} {f : Str -> List Str} (h : Ben G b bs ks f) (hb : G' b = G b) (hl : ∀ c ∈ bs, G' c = G c) : Ben G' b bs ks f :=
  ⟨h.len, h.nd, by rw [hb]; exact h.d, λ i k a e1 e2 => by rw [hl a (List.mem_of_getElem? e2)]; exact h.l i k a e1 e2⟩
theorem Ben.same {G G' : Hp} {b : Addr} {bs : List Addr} {ks : List Str} {f : Str -> List Str} (h : Ben G b bs ks f) (s : Same G G') : Ben G' b bs ks f :=
  ⟨h.len, h.nd, s _ _ h.d, λ i k a e1 e2 => s _ _ (h.l i k a e1 e2)⟩
theorem Ben.congr {G : Hp} {b : Addr} {bs : List Addr} {ks : List Str} {f f' : Str -> List Str} (h : Ben G b bs ks f) (e : ∀ k ∈ ks, f k = f' k) : Ben G b bs ks f' :=
  ⟨h.len, h.nd, h.d, λ i k a e1 e2 => by rw [<- e k (List.mem_of_getElem? e1)]; exact h.l i k a e1 e2⟩
theorem Ben.get {G : Hp} {b : Addr} {bs : List Addr} {ks : List Str} {f : Str -> List Str} (h : Ben G b bs ks f) (hn : ks.Nodup) {k : Str} (hk : k ∈ ks) : ∃ (j : Nat) (c : Addr), ks[j]? = some k /\ bs[j]? = some c /\ ak (iC ks bs) (Sum.inr k) = some (.ref c) /\ G c = some (.lst (sts (f k))) := by
  obtain ⟨j, hj⟩ := List.mem_iff_getElem?.mp hk
  have hl := (List.getElem?_eq_some_iff.mp hj).1
  obtain ⟨c, hc⟩ : ∃ c, bs[j]? = some c := ⟨bs[j]'(by rw [h.len]; exact hl), by simp [h.len, hl]⟩
  exact ⟨j, c, hj, hc, o7 hn hj hc, h.l j k c hj hc⟩
theorem Ben.app {G : Hp} {b : Addr} {bs : List Addr} {ks : List Str} {f : Str -> List Str} (h : Ben G b bs ks f) (hn : ks.Nodup) {k n : Str} {j : Nat} {c : Addr} (hj : ks[j]? = some k) (hc : bs[j]? = some c) :
    Ben (upd G c (.lst (sts (f k) ++ [.str n]))) b bs ks (λ x => f x ++ if k = x then [n] else []) := by
  refine ⟨h.len, h.nd, ?_, λ i x a e1 e2 => ?_⟩
  . have hg := h.l j k c hj hc
    rw [a4 λ z => by rw [<- z, h.d] at hg; cases hg]
    exact h.d
  . by_cases hi : i = j
    . subst hi
      rw [hj] at e1
      rw [hc] at e2
      cases e1
      cases e2
      rw [a5, if_pos rfl, de]
    . have li := (List.getElem?_eq_some_iff.mp e1).1
      have lj := (List.getElem?_eq_some_iff.mp hj).1
      have nx : k ≠ x := λ z => by
        subst z
        exact hi (nd_inj hn e1 hj)
      have na : a ≠ c := λ z => by
        subst z
        exact hi (nd_inj h.nd e2 hc)
      rw [a4 na, if_neg nx, List.append_nil]
      exact h.l i x a e1 e2
where
  nd_inj {α : Type} {xs : List α} (h : xs.Nodup) {i j : Nat} {x : α} (hi : xs[i]? = some x) (hj : xs[j]? = some x) : i = j := by
    rcases Nat.lt_trichotomy i j with l | l | l
    . have e1 := List.getElem?_eq_some_iff.mp hi
      have e2 := List.getElem?_eq_some_iff.mp hj
      exact absurd (e1.2.trans e2.2.symm) (List.pairwise_iff_getElem.mp h i j e1.1 e2.1 l)
    . exact l
    . have e1 := List.getElem?_eq_some_iff.mp hi
      have e2 := List.getElem?_eq_some_iff.mp hj
      exact absurd (e2.2.trans e1.2.symm) (List.pairwise_iff_getElem.mp h j i e2.1 e1.1 l)
def b6 (ps : List (Str × Str)) : List Str := "all" :: ps.map (·.1)
theorem Good.keys {ps : List (Str × Str)} (g : Good ps) : (b6 ps).Nodup := List.nodup_cons.mpr ⟨λ m => (bC (g.nms.1 _ m)).2.2 rfl, g.nms.2⟩
theorem Good.abvIn {ps : List (Str × Str)} (g : Good ps) {i : Nat} {q : Str × Str} (h : ps[i]? = some q) : q.2 ∈ b6 ps := by
  rcases g.abv i q h with e | m
  . rw [e]
    exact List.mem_cons_self ..
  . obtain ⟨r, hr, e⟩ := List.mem_map.mp m
    exact List.mem_cons_of_mem _ (List.mem_map.mpr ⟨r, List.mem_of_mem_take hr, e⟩)
theorem df (ps : List (Str × Str)) (k : Str) : (av ps k).length <= ps.length := by
  unfold av
  rw [List.length_map]
  exact List.length_filter_le ..
def bo : Sp := λ vs H Q _ => ∃ (a : Addr) (ps : List (Str × Str)), vs = [.ref a] /\ H a = some (.dK (cq ps)) /\ Good ps /\ ∀ b bs H', Same H H' -> H b = none -> (∀ c ∈ bs, H c = none) -> Ben H' b bs (b6 ps) (av ps) -> Q (.ref b) H'
def eu : TS :=
  (ad (ah (ji [((tC (.str "all")), (aH a8))]) (a6 1))
  (ad (aN (iOf aq (gv 0)) (a6 2)
    (ah (aH a8) (dS (gv 1) (gv 2) bV)))
  (ad (aN (iOf cX (gv 0)) (cJ 2 (b5 (a6 2) (b5 (a6 3) fB)))
    (cj (cW "append" (tOp aw (gv 1) (gv 3)) (a3 (gv 2) a8))))
  (aD (gv 1)))))
theorem abv_at {ps : List (Str × Str)} {i : Nat} {k : Key} {v : V} (h : (cq ps)[i]? = some (k, v)) : ∃ q, ps[i]? = some q /\ k = Sum.inr q.1 /\ v = .str q.2 := by
  unfold cq at h
  rw [List.getElem?_map] at h
  cases e : ps[i]? with
  | none => rw [e] at h; cases h
  | some q => rw [e] at h; cases h; exact ⟨q, rfl, rfl, rfl⟩
theorem o8 (ps : List (Str × Str)) : (cq ps).length = ps.length := List.length_map ..
theorem iD {a : Addr} {ps : List (Str × Str)} {H : Hp} {D : Ends} (ha : H a = some (.dK (cq ps))) (g : Good ps) (q : ∀ b bs H', Same H H' -> H b = none -> (∀ c ∈ bs, H c = none) -> Ben H' b bs (b6 ps) (av ps) -> D.rt (.ref b) H') : eu D [some (.ref a), none, none, none] H := by
  have hs := sz
  have g2 := g.many
  show ah (ji [(tC (.str "all"), aH a8)]) (a6 1) _ _ _
  show ji [(tC (.str "all"), aH a8)] _ _ _
  refine dispL_i (tk := tC (.str "all")) (x := .str "all") (λ G R r => r) (k := Sum.inr "all") rfl λ b b0 G1 nb nb0 nbb s1 tb tb0 => ?_
  have ha1 := s1 _ _ ha
  refine ap (iterD_i ha1 λ o => ?_)
  have nab : ∀ c, H c = none -> c ≠ a := λ c n z => by rw [z, ha] at n; cases n
  refine loop_dic (λ i σ G => Same (upd H a (.frz o (.dK (cq ps)))) G /\ (∃ bs, Ben G b bs (b6 (ps.take i)) (λ _ => []) /\ ∀ c ∈ bs, H c = none) /\ ∃ u, σ = [some (.ref a), some (.ref b), u, none]) ⟨iB s1, ⟨[b0], ⟨rfl, by simp, ?_, ?_⟩, by simpa using nb0⟩, _, rfl⟩ (λ i σ G _ h => h.1 _ _ a5) ?_ ?_
  . rw [a4 (nab b nb)]
    exact tb
  . intro i k c e1 e2
    match i, e1, e2 with
    | 0, _, e2 =>
      cases e2
      rw [a4 (nab b0 nb0)]
      exact tb0
    | i + 1, _, e2 => simp at e2
  . rintro i k v σ G hk ⟨sm, ⟨bs, bn, fr⟩, u, rfl⟩
    obtain ⟨r, hr, rfl, rfl⟩ := abv_at hk
    have hi := (List.getElem?_eq_some_iff.mp hr).1
    refine ⟨few rfl, af λ c G2 n2 s2 t2 => ?_⟩
    have hc : H c = none := (frz_free (sm.free n2)).1
    have hno : r.1 ∉ b6 (ps.take i) := by
      unfold b6
      rw [List.mem_cons]
      rintro (e | m)
      . exact (bC (g.nms.1 _ (List.mem_of_getElem? (ej hr)))).2.2 e
      . rw [List.map_take] at m
        exact fN g.nms.2 (ej hr) m
    have hd := s2 _ _ bn.d
    have ncb : c ≠ b := λ z => by
      rw [z, bn.d] at n2
      cases n2
    refine setK_i hd (k := Sum.inr r.1) rfl ?_ ⟨?_, ⟨bs ++ [c], ⟨?_, ?_, ?_, ?_⟩, ?_⟩, _, rfl⟩
    . have := benD_len (b6 (ps.take i)) bs
      have e : (b6 (ps.take i)).length = (ps.take i).length + 1 := by
        unfold b6
        rw [List.length_cons, List.length_map]
      rw [List.length_take] at e
      omega
    . exact (sm.trans s2).put (by rw [a4 (nab b nb)]; exact nb)
    . unfold b6
      rw [ab hr, List.map_append, List.length_append, bn.len]
      simp [b6]
    . refine nG bn.nd λ m => ?_
      obtain ⟨j, hj⟩ := List.mem_iff_getElem?.mp m
      have hl := (List.getElem?_eq_some_iff.mp hj).1
      rw [bn.len] at hl
      have := bn.l j _ c (by simp [hl]; rfl) hj
      rw [n2] at this
      cases this
    . rw [a5, cm _ (ben_none hno), ab hr]
      unfold b6
      rw [List.map_append, <- List.cons_append]
      exact congrArg (λ z => some (HO.dK z)) (qf r.1 c bn.len).symm
    . intro j k' c' e1 e2
      rw [ab hr] at e1
      unfold b6 at e1
      rw [List.map_append, <- List.cons_append] at e1
      by_cases hj : j < bs.length
      . rw [List.getElem?_append_left hj] at e2
        rw [List.getElem?_append_left (by have := bn.len; unfold b6 at this; rw [<- this]; exact hj)] at e1
        have := bn.l j k' c' e1 e2
        have nb' : c' ≠ b := λ z => by
          rw [z, bn.d] at this
          cases this
        rw [a4 nb']
        exact s2 _ _ this
      . have hl := (List.getElem?_eq_some_iff.mp e2).1
        rw [List.length_append] at hl
        have : j = bs.length := by simp at hl; omega
        subst this
        simp at e2
        subst e2
        rw [a4 ncb]
        exact t2
    . intro c' m
      rcases List.mem_append.mp m with m | m
      . exact fr c' m
      . rw [List.mem_singleton.mp m]
        exact hc
  . rintro σ G ⟨sm, ⟨bs, bn, fr⟩, u, rfl⟩
    rw [o8, List.take_length] at bn
    refine ⟨⟨o, sm _ _ a5⟩, ?_⟩
    have bnT : ∀ x : HO, Ben (upd G a x) b bs (b6 ps) (λ _ => []) := λ x => bn.to (a4 (nab b nb)) λ c hc => a4 (nab c (fr c hc))
    refine ap (items_i a5 λ o2 => ?_)
    rw [jG]
    have sm0 : Same (upd H a (.frz o2 (.dK (cq ps)))) (upd G a (.frz o2 (.dK (cq ps)))) := by
      have := iB (a := a) (f := .frz o2 (.dK (cq ps))) (ge ha sm)
      rw [jG] at this
      exact this
    refine loop_itm (λ i σ G => Same (upd H a (.frz o2 (.dK (cq ps)))) G /\ Ben G b bs (b6 ps) (av (ps.take i)) /\ ∃ u v, σ = [some (.ref a), some (.ref b), u, v]) ⟨sm0, (bnT _).congr λ k _ => rfl, _, _, rfl⟩ (λ i σ G _ h => h.1 _ _ a5) ?_ ?_
    . rintro i k v t σ G3 G4 hk ⟨sm3, bn3, u, v, rfl⟩ nt s4 ht _
      obtain ⟨r, hr, rfl, rfl⟩ := abv_at hk
      replace bn3 := bn3.same s4
      replace sm3 := sm3.trans s4
      obtain ⟨j, c, hj, hc, hv, hl⟩ := bn3.get g.keys (g.abvIn hr)
      refine ⟨t, _, rfl, .inl ht, rfl, _, _, rfl, _, _, rfl, rfl, ?_⟩
      refine getK_i (.inl bn3.d) (k := Sum.inr r.2) rfl hv ?_
      refine cO hl (bB hl ?_ ⟨sm3.put ?_, ?_, _, _, rfl⟩)
      . have := df (ps.take i) r.2
        rw [List.length_take] at this
        simp
        omega
      . have nc := fr c (List.mem_of_getElem? hc)
        rw [a4 (nab c nc)]
        exact nc
      . exact (bn3.app g.keys hj hc).congr λ k _ => by rw [ab hr, ft]
    . rintro σ G5 ⟨sm5, bn5, u, v, rfl⟩
      rw [o8, List.take_length] at bn5
      refine ⟨⟨o2, sm5 _ _ a5⟩, ?_⟩
      exact q b bs _ (ge ha sm5) nb fr (bn5.to (a4 (nab b nb)) λ c hc => a4 (nab c (fr c hc)))
def fsH (a c b : Addr) : List (Str × V) := [("above_of", .ref a), ("column_names", .ref c), ("beneath_of", .ref b)]
structure HouseAt (cl : Addr) (H : Hp) (x : Addr) (ps : List (Str × Str)) (cs : List Str) : Prop where
  mk ::
  good : Good ps
  nms : Nms cs
  one : 1 <= cs.length
  many : cs.length <= 8
  at' : ∃ dx a c b bs, H x = some (.ins cl dx (fsH a c b)) /\ H a = some (.dK (cq ps)) /\ H c = some (.lst (sts cs)) /\ Ben H b bs (b6 ps) (av ps)
theorem HouseAt.same {cl : Addr} {H G : Hp} {x : Addr} {ps : List (Str × Str)} {cs : List Str} (h : HouseAt cl H x ps cs) (s : Same H G) : HouseAt cl G x ps cs := by
  obtain ⟨h1, h2, h3, h4, dx, a, c, b, bs, e1, e2, e3, e4⟩ := h
  exact ⟨h1, h2, h3, h4, dx, a, c, b, bs, s _ _ e1, s _ _ e2, s _ _ e3, e4.same s⟩
section
variable {cl : Addr}
def bj (cl : Addr) : Sp := λ vs H Q _ => ∃ (x dx p c : Addr) (xs : List V) (ps : List (Str × Str)) (cs : List Str), vs = [.ref x, .ref p, .ref c] /\ H x = some (.ins cl dx []) /\ H p = some (.lst xs) /\ PairsAt H xs ps /\ Good ps ∧
  H c = some (.lst (sts cs)) /\ Nms cs /\ 1 <= cs.length /\ cs.length <= 8 /\ ∀ H', SameX x H H' -> (∀ G : Hp, (∀ b o, H b = none \/ b = x -> H' b = some o -> G b = some o) -> HouseAt cl G x ps cs) -> Q .non H'
def fP (cl : Addr) : TS :=
  (ad (lc cl "above_of" (gv 0) (am be [] E0 (a3 (gv 1) a8)))
  (ad (lc cl "column_names" (gv 0) (am aV [] E0 (a3 (gv 2) a8)))
  (lc cl "beneath_of" (gv 0) (am bo [] E0 (a3 (i8 cl "above_of" (gv 0)) a8)))))
theorem nx_of {H : Hp} {a x : Addr} {o u : HO} (h : H a = some o) (hx : H x = some u) (n : o ≠ u) : a ≠ x := λ z => by
  rw [z, hx] at h
  cases h
  exact n rfl
theorem ki {x dx p c : Addr} {xs : List V} {ps : List (Str × Str)} {cs : List Str} {H : Hp} {Q : VK} (hx : H x = some (.ins cl dx [])) (hp : H p = some (.lst xs)) (pa : PairsAt H xs ps) (g : Good ps) (hc : H c = some (.lst (sts cs))) (hn : Nms cs) (h1 : 1 <= cs.length) (h8 : cs.length <= 8)
    (q : ∀ H', SameX x H H' -> (∀ G : Hp, (∀ b o, H b = none \/ b = x -> H' b = some o -> G b = some o) -> HouseAt cl G x ps cs) -> Q .non H') : fP cl { nx := λ _ H' => Q .non H', rt := Q } [some (.ref x), some (.ref p), some (.ref c)] H := by
  refine ⟨p, xs, ps, rfl, hp, pa, g, λ a G1 s1 n1 t1 => ?_⟩
  refine sfl_i (s1 _ _ hx) rfl ?_
  have ncx := nx_of hc hx (by simp)
  have nax : a ≠ x := λ z => by rw [z, hx] at n1; cases n1
  refine ⟨c, cs, rfl, by rw [a4 ncx]; exact s1 _ _ hc, hn, h1, h8, λ d G2 s2 n2 t2 => ?_⟩
  have hx2 := s2 _ _ a5
  have ndx : d ≠ x := λ z => by rw [z, a5] at n2; cases n2
  refine sfl_i hx2 rfl ?_
  refine lD a5 (v := .ref a) rfl ?_
  have ha2 : G2 a = some (.dK (cq ps)) := s2 _ _ (by rw [a4 nax]; exact t1)
  refine ⟨a, ps, rfl, by rw [a4 nax]; exact ha2, g, λ b bs G3 s3 n3 nbs bn => ?_⟩
  have hx3 := s3 _ _ a5
  have nbx : b ≠ x := λ z => by rw [z, a5] at n3; cases n3
  refine sfl_i hx3 rfl ?_
  have sx : SameX x H G3 := ((((bX s1).trans aY).trans (bX s2)).trans aY).trans (bX s3)
  have nod : H d = none := s1.free (by rw [a4 ndx] at n2; exact n2)
  have up : ∀ c, c ≠ x -> upd G2 x (.ins cl dx (putF "column_names" (.ref d) (putF "above_of" (.ref a) []))) c = none -> H c = none := λ c nc e => by
    rw [a4 nc] at e
    have e := s2.free e
    rw [a4 nc] at e
    exact s1.free e
  have nob : H b = none := up b nbx n3
  refine q _ (sx.trans aY) λ G hG => ⟨g, hn, h1, h8, dx, a, d, b, bs, hG x _ (.inr rfl) a5, hG a _ (.inl n1) ?_, hG d _ (.inl nod) ?_, ?_⟩
  . rw [a4 nax]
    exact s3 _ _ (by rw [a4 nax]; exact ha2)
  . rw [a4 ndx]
    exact s3 _ _ (by rw [a4 ndx]; exact t2)
  . have nex : ∀ e ∈ bs, e ≠ x := λ e he z => by
      have := nbs e he
      rw [z, a5] at this
      cases this
    exact ⟨bn.len, bn.nd, hG b _ (.inl nob) (by rw [a4 nbx]; exact bn.d), λ i k e e1 e2 => by
      have hm := List.mem_of_getElem? e2
      refine hG e _ (.inl (up e (nex e hm) (nbs e hm))) ?_
      rw [a4 (nex e hm)]
      exact bn.l i k e e1 e2⟩
def aa (ps : List (Str × Str)) : List Str := ps.map (·.1)
def au (ps : List (Str × Str)) : List Str := (aa ps).filter λ n => (av ps n).isEmpty
def lG (cl : Addr) (f : List (Str × Str) -> List Str -> List Str) : Sp := λ vs H Q _ => ∃ x ps cs, vs = [.ref x] /\ HouseAt cl H x ps cs /\ ∀ p H', Same H H' -> H p = none -> H' p = some (.lst (sts (f ps cs))) -> Q (.ref p) H'
def sp_pairs (cl : Addr) (f : List (Str × Str) -> List Str -> List (Str × Str)) : Sp := λ vs H Q _ => ∃ x ps cs, vs = [.ref x] /\ HouseAt cl H x ps cs /\ ∀ p zs H', Same H H' -> H p = none -> H' p = some (.lst zs) -> PairsAt H' zs (f ps cs) -> Q (.ref p) H'
def fQ (cl : Addr) : Sp := lG cl λ ps _ => aa ps
def dt (cl : Addr) : Sp := lG cl λ _ cs => cs
def eQ (cl : Addr) : Sp := sp_pairs cl λ ps cs => aS ("all" :: aa ps) (cs ++ [("all" : Str)])
def f7 (cl : Addr) : TS :=
  (aD (tCB cp (a3 (i8 cl "above_of" (gv 0)) a8)))
theorem j5 {x : Addr} {ps : List (Str × Str)} {cs : List Str} {H : Hp} {D : Ends} (h : HouseAt cl H x ps cs) (q : ∀ p H', Same H H' -> H p = none -> H' p = some (.lst (sts (aa ps))) -> D.rt (.ref p) H') : f7 cl D [some (.ref x)] H := by
  obtain ⟨g, hn, h1, h8, dx, a, c, b, bs, e1, e2, e3, e4⟩ := h
  refine lD e1 (v := .ref a) rfl ?_
  refine ke (.inl e2) (af λ p G n s t => ?_)
  rw [iz] at t
  exact q p G s n t
def dQ (cl : Addr) : TS :=
  (aD (tCB cp (a3 (i8 cl "column_names" (gv 0)) a8)))
theorem gK {x : Addr} {ps : List (Str × Str)} {cs : List Str} {H : Hp} {D : Ends} (h : HouseAt cl H x ps cs) (q : ∀ p H', Same H H' -> H p = none -> H' p = some (.lst (sts cs)) -> D.rt (.ref p) H') : dQ cl D [some (.ref x)] H := by
  obtain ⟨g, hn, h1, h8, dx, a, c, b, bs, e1, e2, e3, e4⟩ := h
  refine lD e1 (v := .ref c) rfl ?_
  exact o4 e3 (af λ p G n s t => q p G s n t)
def eA (cl : Addr) : TS :=
  (aD (am eP [] E0 (a3 (tOp aT (aH (a3 (tC (.str "all")) a8)) (ee cl "parts" (fQ cl) E0 (gv 0) a8)) (a3 (tOp aT (i8 cl "column_names" (gv 0)) (aH (a3 (tC (.str "all")) a8))) a8))))
theorem iE {x : Addr} {ps : List (Str × Str)} {cs : List Str} {H : Hp} {D : Ends} (h : HouseAt cl H x ps cs) (q : ∀ p zs H', Same H H' -> H p = none -> H' p = some (.lst zs) -> PairsAt H' zs (aS ("all" :: aa ps) (cs ++ [("all" : Str)])) -> D.rt (.ref p) H') : eA cl D [some (.ref x)] H := by
  have hs := sz
  have g2 := h.good.many
  have h8 := h.many
  have hl : (aa ps).length = ps.length := List.length_map ..
  refine ⟨few rfl, af λ p1 G1 n1 s1 t1 => ?_⟩
  have h1 := h.same s1
  obtain ⟨_, _, _, _, dx, a, c, b, bs, e1, e2, e3, e4⟩ := id h1
  refine ka e1 rfl ⟨x, ps, cs, rfl, h1, λ p2 G2 s2 n2 t2 => ?_⟩
  refine cZ (s2 _ _ t1) t2 (by simp; omega) (af λ p3 G3 n3 s3 t3 => ?_)
  have s13 := s2.trans s3
  refine lD (s13 _ _ e1) (v := .ref c) rfl ?_
  refine ⟨few rfl, af λ p4 G4 n4 s4 t4 => ?_⟩
  refine cZ (s4 _ _ (s13 _ _ e3)) t4 (by simp; omega) (af λ p5 G5 n5 s5 t5 => ?_)
  have S5 := ((s1.trans s13).trans s4).trans s5
  refine ⟨p3, p5, "all" :: aa ps, cs ++ [("all" : Str)], rfl, s5 _ _ (s4 _ _ t3), by rw [t5, de], by simp; omega, by simp; omega, λ l zs G6 s6 n6 t6 pa => ?_⟩
  exact q l zs G6 (S5.trans s6) (S5.free n6) t6 pa
def du (cl : Addr) : Sp := λ vs H Q _ => ∃ x ps cs k, vs = [.ref x, .str k] /\ HouseAt cl H x ps cs /\ k ∈ b6 ps /\ ∀ p H', Same H H' -> H p = none -> H' p = some (.lst (sts (av ps k))) -> Q (.ref p) H'
def dR (cl : Addr) : TS :=
  (aD (tCB cp (a3 (tOp aw (i8 cl "beneath_of" (gv 0)) (gv 1)) a8)))
theorem gL {x : Addr} {ps : List (Str × Str)} {cs : List Str} {k : Str} {H : Hp} {D : Ends} (h : HouseAt cl H x ps cs) (hk : k ∈ b6 ps) (q : ∀ p H', Same H H' -> H p = none -> H' p = some (.lst (sts (av ps k))) -> D.rt (.ref p) H') : dR cl D [some (.ref x), some (.str k)] H := by
  obtain ⟨g, hn, h1, h8, dx, a, c, b, bs, e1, e2, e3, e4⟩ := h
  obtain ⟨j, c', hj, hc, hv, hl⟩ := e4.get g.keys hk
  refine lD e1 (v := .ref b) rfl ?_
  refine getK_i (.inl e4.d) (k := Sum.inr k) rfl hv ?_
  exact o4 hl (af λ p G n s t => q p G s n t)
end
section
variable {K : PySem.W.Frag}
def aW : Sp := λ vs H Q _ => ∃ c m : Int, vs = [.int c, .int m] /\ 0 <= m /\ m <= 24 /\ ∀ p (zs : List Str) H', Same H H' -> H p = none -> H' p = some (.lst (sts zs)) -> (zs.length : Int) = m -> Nms zs -> Q (.ref p) H'
theorem fR (y : Str) : y.cps.toList.length = y.length := by rw [Array.length_toList]; rfl
def bD (K : PySem.W.Frag) : Sp := λ vs H Q _ => ∃ (a : Addr) (ns : List Int), vs = [.ref a] /\ SqL K H a (ns.map V.int) /\ ∀ p (cs : List Str) H', Same H H' -> H p = none -> H' p = some (.lst (sts cs)) -> 1 <= cs.length -> cs.length <= 8 -> Nms cs -> Q (.ref p) H'
def c9 (K : PySem.W.Frag) : Sp := λ vs H Q _ => ∃ (a : Addr) (ns : List Int), vs = [.ref a] /\ SqL K H a (ns.map V.int) /\ ∀ l (xs : List V) (ps : List (Str × Str)) H', Same H H' -> H l = none -> H' l = some (.lst xs) -> PairsAt H' xs ps -> Good ps -> Q (.ref l) H'
def pairD (q : Str × Str) : PyData := .tuple [.str q.1, .str q.2]
theorem kj {α β : Type} {f : α -> Option β} : ∀ {xs : List α} {ys : List β}, xs.length = ys.length -> (∀ (i : Nat) y, ys[i]? = some y -> ∃ x, xs[i]? = some x /\ f x = some y) -> xs.mapM f = some ys
  | [], [], _, _ => by simp
  | [], _ :: _, h, _ => by simp at h
  | _ :: _, [], h, _ => by simp at h
  | x :: xs, y :: ys, h, k => by
    rw [mapM_cons]
    obtain ⟨x', e1, e2⟩ := k 0 y rfl
    simp at e1
    subst e1
    rw [e2, Option.bind_some, kj (xs := xs) (ys := ys) (by simpa using h) λ i z hz => by
      obtain ⟨w, w1, w2⟩ := k (i + 1) z (by simpa using hz)
      exact ⟨w, by simpa using w1, w2⟩]
    rfl
theorem PairsAt.rd {H : Hp} {xs : List V} {ps : List (Str × Str)} (h : PairsAt H xs ps) (n : Nat) : xs.mapM (rdD (n + 2) H) = some (ps.map pairD) := by
  refine kj (by rw [List.length_map]; exact h.1) λ i y hy => ?_
  rw [List.getElem?_map] at hy
  cases e : ps[i]? with
  | none => rw [e] at hy; cases hy
  | some q =>
    rw [e] at hy
    cases hy
    obtain ⟨t, e1, e2⟩ := h.2 i q e
    refine ⟨_, e1, ?_⟩
    show (match H t with
      | some (.lst xs) => (xs.mapM (rdD (n + 1) H)).map PyData.list
      | some (.tup xs) => (xs.mapM (rdD (n + 1) H)).map PyData.tuple
      | _ => none) = _
    simp only [e2]
    rfl
end
theorem fm_at {α β : Type} {f : α -> Option β} : ∀ {xs : List α} {ys : List β}, xs.length = ys.length -> (∀ (i : Nat) y, ys[i]? = some y -> ∃ x, xs[i]? = some x /\ f x = some y) -> xs.filterMap f = ys
  | [], [], _, _ => by simp
  | [], _ :: _, h, _ => by simp at h
  | _ :: _, [], h, _ => by simp at h
  | x :: xs, y :: ys, h, k => by
    obtain ⟨x', e1, e2⟩ := k 0 y rfl
    simp at e1
    subst e1
    rw [List.filterMap_cons, e2]
    simp only
    rw [fm_at (xs := xs) (ys := ys) (by simpa using h) λ i z hz => by
      obtain ⟨w, w1, w2⟩ := k (i + 1) z (by simpa using hz)
      exact ⟨w, by simpa using w1, w2⟩]
def jy (H : Hp) : V -> Option V
  | .ref t => match H t with
    | some (.tup [x, _]) => some x
    | _ => none
  | _ => none
def o9 (H : Hp) : V -> Option V
  | .ref t => match H t with
    | some (.tup [_, y]) => some y
    | _ => none
  | _ => none
theorem km {H : Hp} {t : Addr} {x y : V} (h : H t = some (.tup [x, y])) : jy H (.ref t) = some x := by
  unfold jy
  simp only [h]
theorem snd_at {H : Hp} {t : Addr} {x y : V} (h : H t = some (.tup [x, y])) : o9 H (.ref t) = some y := by
  unfold o9
  simp only [h]
theorem PairsAt.fsts {H : Hp} {xs : List V} {ps : List (Str × Str)} (h : PairsAt H xs ps) : xs.filterMap (jy H) = sts (ps.map (·.1)) := by
  refine fm_at (by rw [sts, List.length_map, List.length_map]; exact h.1) λ i y hy => ?_
  obtain ⟨z, hz, rfl⟩ := b4 hy
  rw [List.getElem?_map] at hz
  cases e : ps[i]? with
  | none => rw [e] at hz; cases hz
  | some q =>
    rw [e] at hz
    cases hz
    obtain ⟨t, e1, e2⟩ := h.2 i q e
    exact ⟨_, e1, km e2⟩
theorem PairsAt.snds {H : Hp} {xs : List V} {ps : List (Str × Str)} (h : PairsAt H xs ps) : xs.filterMap (o9 H) = sts (ps.map (·.2)) := by
  refine fm_at (by rw [sts, List.length_map, List.length_map]; exact h.1) λ i y hy => ?_
  obtain ⟨z, hz, rfl⟩ := b4 hy
  rw [List.getElem?_map] at hz
  cases e : ps[i]? with
  | none => rw [e] at hz; cases hz
  | some q =>
    rw [e] at hz
    cases hz
    obtain ⟨t, e1, e2⟩ := h.2 i q e
    exact ⟨_, e1, snd_at e2⟩
theorem qg {H G : Hp} {x dx cl : Addr} (hx : H x = none) (hdx : H dx = none) (s : SameX x (upd (upd H dx (.own x)) x (.ins cl dx [])) G) : Same H G := λ b o e => by
  have n1 := ai e hx
  have n2 := ai e hdx
  exact s b o n1 (by rw [a4 n1, a4 n2]; exact e)
end Tv
namespace Tv
open PySem PySem.Spec PyProof.Rows L2
theorem lH : ∀ xs ys : List Str, PyData.eqvAll (xs.map PyData.str) (ys.map PyData.str) = decide (xs = ys)
  | [], [] => rfl
  | [], _ :: _ => rfl
  | _ :: _, [] => rfl
  | x :: xs, y :: ys => by
    rw [List.map_cons, List.map_cons, PyData.eqvAll, lH xs ys]
    show ((x == y) && _) = _
    by_cases h : x = y
    . subst h
      simp
    . simp [h]
section
variable {cl : Addr}
theorem make_i {pl pc x dx : Addr} {xs : List V} {ps : List (Str × Str)} {cs : List Str} {H : Hp} {Q : VK} {E : XK} (g : Good ps) (hn : Nms cs) (h1 : 1 <= cs.length) (h8 : cs.length <= 8) (hl : H pl = some (.lst xs)) (pa : PairsAt H xs ps) (hc : H pc = some (.lst (sts cs))) (nx : H x = none) (ndx : H dx = none)
    (q : ∀ G, Same H G -> (∀ J : Hp, (∀ b o, H b = none -> G b = some o -> J b = some o) -> HouseAt cl J x ps cs) -> Q .non G) : bj cl [.ref x, .ref pl, .ref pc] (upd (upd H dx (.own x)) x (.ins cl dx [])) Q E := by
  have ne : ∀ b o, H b = some o -> upd (upd H dx (.own x)) x (.ins cl dx []) b = some o := λ b o e => by rw [a4 (ai e nx), a4 (ai e ndx)]; exact e
  refine ⟨x, dx, pl, pc, xs, ps, cs, rfl, a5, ne _ _ hl, ⟨pa.1, λ i r hr => ?_⟩, g, ne _ _ hc, hn, h1, h8, λ G sx hf => q G (qg nx ndx sx) λ J hJ => hf J λ b o hb e => hJ b o ?_ e⟩
  . obtain ⟨t, e1, e2⟩ := pa.2 i r hr
    exact ⟨t, e1, ne _ _ e2⟩
  . rcases hb with hb | rfl
    . by_cases z1 : b = x
      . rw [z1]
        exact nx
      . rw [a4 z1] at hb
        by_cases z2 : b = dx
        . rw [z2]
          exact ndx
        . rw [a4 z2] at hb
          exact hb
    . exact nx
end
def TupsAt (H : Hp) (xs : List V) (ls : List (List Str)) : Prop := xs.length = ls.length /\ ∀ (i : Nat) l, ls[i]? = some l -> ∃ t, xs[i]? = some (.ref t) /\ H t = some (.tup (sts l))
theorem TupsAt.same {H G : Hp} {xs : List V} {ls : List (List Str)} (h : TupsAt H xs ls) (s : Same H G) : TupsAt G xs ls := ⟨h.1, λ i q e => by
  obtain ⟨t, e1, e2⟩ := h.2 i q e
  exact ⟨t, e1, s _ _ e2⟩⟩
theorem TupsAt.put {H : Hp} {xs ys : List V} {ls : List (List Str)} {l : Addr} {o : HO} (h : TupsAt H xs ls) (hl : H l = some (.lst ys)) : TupsAt (upd H l o) xs ls := ⟨h.1, λ i q e => by
  obtain ⟨t, e1, e2⟩ := h.2 i q e
  refine ⟨t, e1, ?_⟩
  rw [a4 λ z => by rw [z, hl] at e2; cases e2]
  exact e2⟩
theorem TupsAt.nil {H : Hp} : TupsAt H [] [] := ⟨rfl, λ i q e => by simp at e⟩
theorem TupsAt.append {H : Hp} {xs ys : List V} {ls ms : List (List Str)} (h : TupsAt H xs ls) (k : TupsAt H ys ms) : TupsAt H (xs ++ ys) (ls ++ ms) := by
  refine ⟨by simp [h.1, k.1], λ i r e => ?_⟩
  by_cases hi : i < ls.length
  . rw [List.getElem?_append_left hi] at e
    rw [List.getElem?_append_left (by rw [h.1]; exact hi)]
    exact h.2 i r e
  . rw [List.getElem?_append_right (by omega)] at e
    rw [List.getElem?_append_right (by rw [h.1]; omega), h.1]
    exact k.2 _ r e
theorem TupsAt.one {H : Hp} {t : Addr} {l : List Str} (ht : H t = some (.tup (sts l))) : TupsAt H [.ref t] [l] := ⟨rfl, λ i r e => by
  cases i with
  | zero => simp at e; subst e; exact ⟨t, rfl, ht⟩
  | succ i => simp at e⟩
theorem TupsAt.snoc {H : Hp} {xs : List V} {ls : List (List Str)} {t : Addr} {l : List Str} (h : TupsAt H xs ls) (ht : H t = some (.tup (sts l))) : TupsAt H (xs ++ [.ref t]) (ls ++ [l]) := h.append (.one ht)
theorem TupsAt.at {H : Hp} {xs : List V} {ls : List (List Str)} (h : TupsAt H xs ls) {i : Nat} {x : V} (hx : xs[i]? = some x) : ∃ l t, ls[i]? = some l /\ x = .ref t /\ H t = some (.tup (sts l)) := by
  have hi := (List.getElem?_eq_some_iff.mp hx).1
  rw [h.1] at hi
  obtain ⟨t, e1, e2⟩ := h.2 i ls[i] (by simp [hi])
  rw [hx] at e1
  cases e1
  exact ⟨ls[i], t, by simp [hi], rfl, e2⟩
def ca (l : List Str) : PyData := .tuple (l.map PyData.str)
theorem eB {H : Hp} {t : Addr} {l : List Str} (n : Nat) (h : H t = some (.tup (sts l))) : rdD (n + 1) H (.ref t) = some (ca l) := by
  show (match H t with
    | some (.lst xs) => (xs.mapM (rdD n H)).map PyData.list
    | some (.tup xs) => (xs.mapM (rdD n H)).map PyData.tuple
    | _ => none) = _
  simp only [h, kf n H l]
  rfl
theorem TupsAt.rd {H : Hp} {xs : List V} {ls : List (List Str)} (h : TupsAt H xs ls) (n : Nat) : xs.mapM (rdD (n + 1) H) = some (ls.map ca) := by
  refine kj (by rw [List.length_map]; exact h.1) λ i y hy => ?_
  rw [List.getElem?_map] at hy
  cases e : ls[i]? with
  | none => rw [e] at hy; cases hy
  | some q =>
    rw [e] at hy
    cases hy
    obtain ⟨t, e1, e2⟩ := h.2 i q e
    exact ⟨_, e1, eB n e2⟩
theorem oa {H : Hp} {p : Addr} {xs : List V} {ls : List (List Str)} (n : Nat) (h : H p = some (.lst xs)) (pa : TupsAt H xs ls) : rdD (n + 2) H (.ref p) = some (.list (ls.map ca)) := by
  show (match H p with
    | some (.lst xs) => (xs.mapM (rdD (n + 1) H)).map PyData.list
    | some (.tup xs) => (xs.mapM (rdD (n + 1) H)).map PyData.tuple
    | _ => none) = _
  simp only [h, pa.rd n]
  rfl
theorem jz : ∀ l : List Str, PyData.eqvAll (l.map PyData.str) (l.map PyData.str) = true
  | [] => rfl
  | a :: r => by
    rw [List.map_cons, PyData.eqvAll, jz r]
    show ((a == a) && true) = true
    simp
theorem qh (l : List Str) : PyData.eqv (ca l) (ca l) = true := by
  unfold ca
  rw [PyData.eqv]
  exact jz l
theorem jA : ∀ ls : List (List Str), PyData.eqvAll (ls.map ca) (ls.map ca) = true
  | [] => rfl
  | a :: r => by rw [List.map_cons, PyData.eqvAll, jA r, qh]; rfl
theorem mL (ls : List (List Str)) : PyData.eqv (.list (ls.map ca)) (.list (ls.map ca)) = true := by
  rw [PyData.eqv]
  exact jA ls
theorem qi {J : It} {ys : List V} (f : V -> Option (List Str)) {tn : List Str} {fr : List (Str × Nat)} {g : TG} {tt : TT} {te : TE} {σ : St} {H : Hp} {Q : VK} (hz : ys.length < sizeLine)
    (hJ : ∀ G, Same H G -> (∀ i, i < ys.length -> J.go i G) /\ J.stop ys.length G /\ ∀ i x G', i < ys.length -> J.yld i G x G' -> G' = G /\ ys[i]? = some x)
    (turn : ∀ (i : Nat) (x : V), ys[i]? = some x -> ∀ (G : Hp) (k : VK) (B : Hp -> Prop), Same H G -> (∀ l, f x = some l -> ∀ t G', Same G G' -> G' t = some (.tup (sts l)) -> k (.ref t) G') -> (f x = none -> B G) -> g x (inn tn fr σ) G λ σ2 G2 => tt σ2 G2 λ b G3 => br b (te σ2 G3 k) (B G3))
    (fin : ∀ p zs G, H p = none -> Same H G -> G p = some (.lst zs) -> TupsAt G zs (ys.filterMap f) -> Q (.ref p) G) : bF J tn fr g tt te σ H Q := by
  unfold bF
  intro p hp
  refine ⟨λ i m G => m = ys.length - i /\ i <= ys.length /\ Same H G /\ ∃ zs, G p = some (.lst zs) /\ TupsAt G zs ((ys.take i).filterMap f), ⟨_, rfl, Nat.zero_le _, bw hp, [], a5, .nil⟩, ?_⟩
  rintro i m G ⟨rfl, hi, sm, zs, hg, pz⟩
  obtain ⟨j1, j2, j3⟩ := hJ G sm
  by_cases hlt : i < ys.length
  . refine .inr ⟨j1 i hlt, λ G' => Same H G' /\ ∃ zs, G' p = some (.lst zs) /\ TupsAt G' zs ((ys.take (i + 1)).filterMap f), λ G' h => ⟨_, by omega, rfl, hlt, h⟩, λ x G' y => ?_⟩
    obtain ⟨rfl, hx⟩ := j3 i x G' hlt y
    refine turn i x hx _ _ _ sm (λ l hl t G2 s2 t2 => ⟨zs, s2 _ _ hg, ?_, (sm.trans s2).put hp, _, a5, ?_⟩) (λ hn => ⟨sm, zs, hg, ?_⟩)
    . rw [pz.1]
      have := List.length_filterMap_le f (ys.take i)
      have h2 := List.length_take_le i ys
      omega
    . rw [ab hx, List.filterMap_append, List.filterMap_cons, hl]
      exact ((pz.same s2).snoc t2).put (s2 _ _ hg)
    . rw [ab hx, List.filterMap_append, List.filterMap_cons, hn]
      simpa using pz
  . have e : i = ys.length := by omega
    subst e
    rw [List.take_length] at pz
    exact .inl ⟨j2, fin p zs G hp sm hg pz⟩
theorem oe {a : Addr} {ys : List V} (f : V -> Option (List Str)) {tn : List Str} {fr : List (Str × Nat)} {g : TG} {tt : TT} {te : TE} {σ : St} {H : Hp} {Q : VK} (ha : H a = some (.lst ys)) (hz : ys.length < sizeLine)
    (turn : ∀ (i : Nat) (x : V), ys[i]? = some x -> ∀ (G : Hp) (k : VK) (B : Hp -> Prop), Same H G -> (∀ l, f x = some l -> ∀ t G', Same G G' -> G' t = some (.tup (sts l)) -> k (.ref t) G') -> (f x = none -> B G) -> g x (inn tn fr σ) G λ σ2 G2 => tt σ2 G2 λ b G3 => br b (te σ2 G3 k) (B G3))
    (fin : ∀ p zs G, H p = none -> Same H G -> G p = some (.lst zs) -> TupsAt G zs (ys.filterMap f) -> Q (.ref p) G) : bF (gE a) tn fr g tt te σ H Q := by
  refine qi f hz (λ G sm => ?_) turn fin
  refine ⟨λ i hi => ⟨ys, ys[i], .inl (sm _ _ ha), by simp [hi]⟩, ⟨ys, .inl (sm _ _ ha), Nat.le_refl _⟩, ?_⟩
  rintro i x G' hi ⟨rfl, h⟩
  exact ⟨rfl, h ys (.inl (sm _ _ ha))⟩
def tupF (f : Str -> List Str) : V -> Option (List Str)
  | .str z => some (f z)
  | _ => none
theorem mM (f : Str -> List Str) : ∀ l : List Str, (sts l).filterMap (tupF f) = l.map f
  | [] => rfl
  | a :: r => by
    rw [sts, List.map_cons, List.filterMap_cons]
    show f a :: (sts r).filterMap (tupF f) = _
    rw [mM f r]
    rfl
theorem below_nil {ps : List (Str × Str)} {n : Str} : (av ps n).isEmpty = !decide (n ∈ ps.map (·.2)) := by
  induction ps with
  | nil => rfl
  | cons a r ih =>
    unfold av at ih ⊢
    rw [List.filter_cons, List.map_cons]
    by_cases h : a.2 = n
    . simp [h]
    . have h' : ¬ n = a.2 := λ e => h e.symm
      simp only [beq_iff_eq, h, if_false, List.mem_cons, h', false_or]
      exact ih
theorem fS {ps : List (Str × Str)} : (au ps).length <= ps.length := by
  unfold au aa
  refine Nat.le_trans (List.length_filter_le ..) ?_
  rw [List.length_map]
  exact Nat.le_refl _
def og (H : Hp) (us : List Str) : V -> Option V
  | .ref t => match H t with
    | some (.tup [.str a, .str b]) => if a ∈ us then none else some (.str a)
    | _ => none
  | _ => none
theorem lI {H : Hp} {us : List Str} {t : Addr} {q : Str × Str} (h : H t = some (.tup [.str q.1, .str q.2])) : og H us (.ref t) = if q.1 ∈ us then none else some (.str q.1) := by
  unfold og
  simp only [h]
theorem lrows {H : Hp} {us : List Str} : ∀ {xs : List V} {ps : List (Str × Str)}, PairsAt H xs ps -> xs.filterMap (og H us) = sts ((ps.map (·.1)).filter λ n => !decide (n ∈ us))
  | [], [], _ => rfl
  | [], _ :: _, h => by have := h.1; simp at this
  | _ :: _, [], h => by have := h.1; simp at this
  | x :: xs, q :: ps, h => by
    obtain ⟨t, e1, e2⟩ := h.2 0 q rfl
    simp at e1
    subst e1
    have ih := lrows (us := us) (xs := xs) (ps := ps) ⟨by have := h.1; simpa using this, λ i r hr => by
      obtain ⟨u, u1, u2⟩ := h.2 (i + 1) r (by simpa using hr)
      exact ⟨u, by simpa using u1, u2⟩⟩
    rw [List.filterMap_cons, lI e2, List.map_cons, List.filter_cons]
    by_cases hn : q.1 ∈ us
    . simp only [hn, if_true, decide_true, Bool.not_true]
      exact ih
    . simp only [hn, if_false, decide_false, Bool.not_false, if_true]
      rw [ih]
      rfl
theorem rows_eq {ps : List (Str × Str)} : ((ps.map (·.1)).filter λ n => !decide (n ∈ ps.map (·.2))) = au ps := by
  unfold au aa
  congr 1
  funext n
  exact below_nil.symm
theorem iF {κ : Type} [DecidableEq κ] (kvs : List (κ × V)) (k : κ) (v : V) : (b8 kvs k v).length <= kvs.length + 1 := by
  unfold b8
  split
  . rw [List.length_map]
    omega
  . simp
end Tv
namespace Tv
open PySem PySem.Spec PyProof.Rows L2
namespace Nu
theorem bK {H G : Hp} {p : Addr} (s : Same H G) (n : G p = none) : H p = none := by
  cases e : H p with
  | none => rfl
  | some o => rw [s _ _ e] at n; cases n
theorem iterV_i {a : Addr} {xs : List V} {H : Hp} {R : It -> Hp -> Th -> Prop} (h : H a = some (.lst xs)) (q : R (Itv a xs) H none) : revG [.ref a] H R := by
  unfold revG
  simp only [h]
  exact q
def plK (a b : Str) : List Key := [Sum.inr a, Sum.inr b]
theorem kq (a b : Str) : dl [.str a, .str b] = some (plK a b) := rfl
theorem kr {d p : Addr} {a b : Str} {kvs : List (List Key × V)} {H : Hp} (h : H d = some (.dT kvs)) (hp : H p = some (.tup [.str a, .str b])) : cL H d (.ref p) = some (ak kvs (plK a b)) := by
  unfold cL
  simp only [h, hp, kq, Option.map_some]
theorem look_frz {d p : Addr} {a b : Str} {o : Obj} {kvs : List (List Key × V)} {H : Hp} (h : H d = some (.frz o (.dT kvs))) (hp : H p = some (.tup [.str a, .str b])) : cL H d (.ref p) = some (ak kvs (plK a b)) := by
  unfold cL
  simp only [h, hp, kq, Option.map_some]
theorem dget_i {d : Addr} {kvs : List (List Key × V)} {t : TA} {σ : St} {Q : VK} {H : Hp} (h : H d = some (.dT kvs)) (q : t σ H λ vs H2 => jt (.ref d) vs H2 Q) : bmK "get" t σ Q (.ref d) H := by
  unfold bmK
  have : tyB H (.ref d) = some "dict" := by unfold tyB; simp only [h]
  rw [this]
  exact q
theorem b7 {d p : Addr} {a b : Str} {v : V} {kvs : List (List Key × V)} {Q : VK} {H : Hp} (h : Rd H d (.dT kvs)) (hp : H p = some (.tup [.str a, .str b])) (hv : ak kvs (plK a b) = some v) (q : Q v H) : aw (.ref d) (.ref p) H Q := by
  unfold aw
  rcases h with h | ⟨o, h⟩
  . simp only [h, kr h hp, hv]
    exact q
  . simp only [h, look_frz h hp, hv]
    exact q
theorem cr {a b c d : Str} (h : plK a b = plK c d) : a = c /\ b = d := by
  unfold plK at h
  simp only [List.cons.injEq, Sum.inr.injEq, and_true] at h
  exact h
theorem bY {p b : Addr} {x y : Str} {v : V} {kvs : List (List Key × V)} {H : Hp} {Q : Hp -> Prop} (h : H p = some (.dT kvs)) (hb : H b = some (.tup [.str x, .str y])) (hz : kvs.length < sizeLine) (q : Q (upd H p (.dT (b8 kvs (plK x y) v)))) : bV (.ref p) (.ref b) v H Q := by
  unfold bV
  simp only [h, hb, kq]
  exact ⟨hz, q⟩
theorem oh {a : Addr} {kvs : List (List Key × V)} {H : Hp} {R : It -> Hp -> Th -> Prop} (h : H a = some (.dT kvs)) (q : ∀ o, R (my a o kvs) (upd H a (.frz o (.dT kvs))) (some (a, .dT kvs))) : aq (.ref a) H R := by
  unfold aq
  simp only [h]
  exact q
theorem oi {a : Addr} {o : Obj} {kvs : List (List Key × V)} {g : TG} {tb : TS} {D : Ends} {σ : St} {H : Hp} (Pv : Nat -> St -> Hp -> Prop) (h0 : Pv 0 σ H) (hl : ∀ i σ H, i <= kvs.length -> Pv i σ H -> H a = some (.frz o (.dT kvs)))
    (hs : ∀ i k v t σ H, kvs[i]? = some (k, v) -> Pv i σ H -> H t = some (.tup (k.map kV)) -> g (.ref t) σ H λ σ2 H2 => tb { D with nx := Pv (i + 1), ct := Pv (i + 1), bk := D.nx } σ2 H2) (hd : ∀ σ H, Pv kvs.length σ H -> D.nx σ H) : bQ (my a o kvs) g tb D σ H := by
  unfold bQ
  refine ⟨λ i m σ H => m = kvs.length - i /\ i <= kvs.length /\ Pv i σ H, ⟨_, rfl, Nat.zero_le _, h0⟩, ?_⟩
  rintro i m σ H ⟨rfl, hi, p⟩
  have q := hl i σ H hi p
  by_cases hlt : i < kvs.length
  . refine .inr ⟨⟨q, hlt⟩, Pv (i + 1), λ σ' H' h => ⟨_, by omega, rfl, hlt, h⟩, ?_⟩
    rintro x H' ⟨rfl, k, v, t, hx, rfl, ht⟩
    exact hs i k v t σ _ hx p ht
  . have e : i = kvs.length := by omega
    subst e
    exact .inl ⟨⟨q, Nat.le_refl _⟩, hd σ H p⟩
def PrAt (H : Hp) (kv : List Key × V) (x : V) : Prop := ∃ p t, x = .ref p /\ H p = some (.tup [.ref t, kv.2]) /\ H t = some (.tup (kv.1.map kV))
abbrev PrsL (H : Hp) : List (List Key × V) -> List V -> Prop := Paired (PrAt H)
theorem PrsL.same {H G : Hp} {kvs : List (List Key × V)} {xs : List V} (h : PrsL H kvs xs) (s : Same H G) : PrsL G kvs xs := by
  induction h with
  | nil => exact .nil
  | cons h t ih =>
    obtain ⟨p, t, rfl, h1, h2⟩ := h
    exact .cons ⟨p, t, rfl, s _ _ h1, s _ _ h2⟩ ih
theorem loop_rev {a : Addr} {xs : List V} {g : TG} {tb : TS} {D : Ends} {σ : St} {H : Hp} (Pv : Nat -> St -> Hp -> Prop) (h0 : Pv 0 σ H) (hl : ∀ i σ H, i <= xs.length -> Pv i σ H -> H a = some (.lst xs))
    (hs : ∀ i x σ H, xs.reverse[i]? = some x -> Pv i σ H -> g x σ H λ σ2 H2 => tb { D with nx := Pv (i + 1), ct := Pv (i + 1), bk := D.nx } σ2 H2) (hd : ∀ σ H, Pv xs.length σ H -> D.nx σ H) : bQ (Itv a xs) g tb D σ H := by
  unfold bQ
  refine ⟨λ i m σ H => m = xs.length - i /\ i <= xs.length /\ Pv i σ H, ⟨_, rfl, Nat.zero_le _, h0⟩, ?_⟩
  rintro i m σ H ⟨rfl, hi, p⟩
  have q := hl i σ H hi p
  by_cases hlt : i < xs.length
  . refine .inr ⟨⟨q, hlt⟩, Pv (i + 1), λ σ' H' h => ⟨_, by omega, rfl, hlt, h⟩, ?_⟩
    rintro x H' ⟨rfl, hx⟩
    exact hs i x σ _ hx p
  . have e : i = xs.length := by omega
    subst e
    exact .inl ⟨Nat.le_refl _, hd σ H p⟩
def eC (kvs : List (List Key × V)) : Prop := ∀ kv ∈ kvs, ∃ i, kv.2 = .int i
end Nu
end Tv
namespace Tv
open PySem PySem.Spec PyProof.Rows L2
def eD (ps : List (Str × Str)) (cs ns : List Str) : List (List Str) := (ns.filter λ n => !(av ps n).isEmpty).flatMap λ n => (cs ++ [("all" : Str)]).map λ c => (["down", n, c] : List Str)
theorem iG (ps : List (Str × Str)) (cs ns : List Str) (n : Str) : eD ps cs (ns ++ [n]) = eD ps cs ns ++ if (av ps n).isEmpty = true then [] else (cs ++ [("all" : Str)]).map λ c => (["down", n, c] : List Str) := by
  unfold eD
  rw [List.filter_append, List.flatMap_append]
  congr 1
  by_cases h : (av ps n).isEmpty = true <;> simp [h]
theorem dh (ps : List (Str × Str)) (cs : List Str) : ∀ ns, (eD ps cs ns).length <= ns.length * (cs.length + 1)
  | [] => by simp [eD]
  | n :: r => by
    have ih := dh ps cs r
    unfold eD at ih ⊢
    rw [List.filter_cons]
    by_cases h : (!(av ps n).isEmpty) = true
    . rw [if_pos h, List.flatMap_cons, List.length_append, List.length_map, List.length_append]
      simp only [List.length_cons, List.length_nil, Nat.succ_mul] at ih ⊢
      omega
    . rw [if_neg h]
      simp only [List.length_cons, Nat.succ_mul] at ih ⊢
      omega
def mN (ns : List Str) : List (List Str) := ns.map λ n => (["across", n] : List Str)
def jB (ps : List (Str × Str)) (cs : List Str) : List (List Str) := eD ps cs ("all" :: aa ps) ++ mN ("all" :: au ps)
inductive SumIs (ps : List (Str × Str)) : List Str -> Prop where
  | down (n c : Str) (h : n ∈ b6 ps) : SumIs ps ["down", n, c]
  | across (n : Str) : SumIs ps ["across", n]
def wholeL : List Str -> List Str
  | [_, n, c] => [n, c]
  | [_, n] => [n, "all"]
  | _ => []
def ku (ps : List (Str × Str)) (cs : List Str) : List Str -> List (List Str)
  | [_, n, c] => (av ps n).map λ m => [m, c]
  | [_, n] => cs.map λ c => [n, c]
  | _ => []
section
variable {cl : Addr}
def cQ : Sp := λ vs H Q _ => ∃ (x : V) (t : Addr) (ps : List (Str × Str)) (l : List Str), vs = [x, .ref t] /\ H t = some (.tup (sts l)) /\ SumIs ps l /\ ∀ p H', Same H H' -> H p = none -> H' p = some (.tup (sts (wholeL l))) -> Q (.ref p) H'
def iH : TS :=
  (aD (tIfG (bT (tOp eqG (tOp aw (gv 1) (tC (.int 0))) (tC (.str "down")))) (bf (a3 (tOp aw (gv 1) (tC (.int 1))) (a3 (tOp aw (gv 1) (tC (.int 2))) a8))) (bf (a3 (tOp aw (gv 1) (tC (.int 1))) (a3 (tC (.str "all")) a8)))))
theorem mO {x : V} {t : Addr} {ps : List (Str × Str)} {l : List Str} {H : Hp} {D : Ends} (ht : H t = some (.tup (sts l))) (hl : SumIs ps l) (q : ∀ p H', Same H H' -> H p = none -> H' p = some (.tup (sts (wholeL l))) -> D.rt (.ref p) H') : iH D [some x, some (.ref t)] H := by
  cases hl with
  | down n c h =>
    refine aA ht (v := .str "down") rfl (bO rfl ?_)
    exact aA ht (v := .str n) rfl (aA ht (v := .str c) rfl ⟨few rfl, af λ p G n1 s1 t1 => q p G s1 n1 t1⟩)
  | across n =>
    refine aA ht (v := .str "across") rfl (bb (by decide +kernel) ?_)
    exact aA ht (v := .str n) rfl ⟨few rfl, af λ p G n1 s1 t1 => q p G s1 n1 t1⟩
def cb (cl : Addr) : Sp := λ vs H Q _ => ∃ (x t : Addr) (ps : List (Str × Str)) (cs l : List Str), vs = [.ref x, .ref t] /\ HouseAt cl H x ps cs /\ H t = some (.tup (sts l)) /\ SumIs ps l /\ ∀ p zs H', Same H H' -> H p = none -> H' p = some (.lst zs) -> TupsAt H' zs (ku ps cs l) -> Q (.ref p) H'
def gu (cl : Addr) : TS :=
  (ad (sIf (bT (tOp eqG (tOp aw (gv 1) (tC (.int 0))) (tC (.str "down"))))
    (aD (aZ (iOf aq (ee cl "beneath" (du cl) E0 (gv 0) (a3 (tOp aw (gv 1) (tC (.int 1))) a8))) ["part"] [("one", 1)] (a6 0) gF (bf (a3 (gv 0) (a3 (tOp aw (gv 1) (tC (.int 2))) a8)))))
    ay)
  (aD (aZ (iOf aq (ee cl "columns" (dt cl) E0 (gv 0) a8)) ["column"] [("one", 1)] (a6 0) gF (bf (a3 (tOp aw (gv 1) (tC (.int 1))) (a3 (gv 0) a8))))))
theorem lJ {x t : Addr} {ps : List (Str × Str)} {cs l : List Str} {H : Hp} {D : Ends} (h : HouseAt cl H x ps cs) (ht : H t = some (.tup (sts l))) (hl : SumIs ps l) (q : ∀ p zs H', Same H H' -> H p = none -> H' p = some (.lst zs) -> TupsAt H' zs (ku ps cs l) -> D.rt (.ref p) H') : gu cl D [some (.ref x), some (.ref t)] H := by
  have hs := sz
  have g2 := h.good.many
  have h8 := h.many
  obtain ⟨_, _, _, _, dx, _, _, _, _, e1, _⟩ := id h
  cases hl with
  | down n c hn =>
    refine aA ht (v := .str "down") rfl (bO rfl ?_)
    refine bI (ka e1 rfl (aA ht (v := .str n) rfl ⟨x, ps, cs, n, rfl, h, hn, λ b G1 s1 n1 t1 => ?_⟩))
    have lb := df ps n
    refine aj t1 (oe (tupF λ m => [m, c]) t1 (by simp; omega) ?_ ?_)
    . intro j w hw G9 k B s9 hk9 _
      obtain ⟨m, hm, rfl⟩ := b4 hw
      exact bO rfl (aA ((s1.trans s9) _ _ ht) (v := .str c) rfl ⟨few rfl, af λ t G10 n10 s10 t10 => hk9 _ rfl t G10 s10 t10⟩)
    intro pe ws G9 n9 s9 t9 pw
    rw [mM] at pw
    exact q pe ws G9 (s1.trans s9) (s1.free n9) t9 pw
  | across n =>
    refine aA ht (v := .str "across") rfl (bb (by decide +kernel) ?_)
    refine bI (ka e1 rfl ⟨x, ps, cs, rfl, h, λ b G1 s1 n1 t1 => ?_⟩)
    refine aj t1 (oe (tupF λ c => [n, c]) t1 (by simp; omega) ?_ ?_)
    . intro j w hw G9 k B s9 hk9 _
      obtain ⟨m, hm, rfl⟩ := b4 hw
      exact bO rfl (aA ((s1.trans s9) _ _ ht) (v := .str n) rfl ⟨few rfl, af λ t G10 n10 s10 t10 => hk9 _ rfl t G10 s10 t10⟩)
    intro pe ws G9 n9 s9 t9 pw
    rw [mM] at pw
    exact q pe ws G9 (s1.trans s9) (s1.free n9) t9 pw
end
namespace S
section
variable {K : PySem.W.Frag}
def gw : TS :=
  (ad (ah (tC (.str "abcdefghijklmnopqrstuvwxyz")) (a6 2))
  (ad (ah (tOp aT (tC (.int 1)) (tOp aU (gv 0) (tC (.int 8)))) (a6 3))
  (ad (ah (tOp aU (tOp bh (gv 0) (tC (.int 8))) (gv 3)) (a6 4))
  (ad (ah (aH a8) (a6 5))
  (ad (aN (dL (a3 (gv 1) a8)) (a6 6)
    (ad (ah (tC (.str "")) (a6 7))
    (ad (aN (dL (a3 (gv 3) a8)) (a6 8)
      (ad (ah (tOp d6 (tOp d6 (tC (.int 5)) (gv 6)) (tCB mD (a3 (tOp eqG (gv 8) (gv 4)) a8))) (a6 9))
      (ah (tOp aT (gv 7) (tOp aw (gv 2) (tOp aU (tOp aT (tOp aT (tOp bh (gv 0) (tC (.int 64))) (tOp d6 (tOp d6 (tC (.int 7)) (gv 8)) (gv 8))) (gv 9)) (tC (.int 26))))) (a6 7))))
    (cj (cW "append" (gv 5) (a3 (gv 7) a8))))))
  (aD (gv 5)))))))
theorem abc_tab : ∀ j : Fin 26, ("abcdefghijklmnopqrstuvwxyz" : Str).cps.toList[j.val]? = some (97 + j.val) := by decide +kernel
theorem abc_at {i : Int} (h0 : 0 <= i) (h1 : i < 26) : atI ("abcdefghijklmnopqrstuvwxyz" : Str).cps.toList i = some (97 + i.toNat) := by
  obtain ⟨j, rfl⟩ : ∃ j : Nat, i = j := ⟨i.toNat, by omega⟩
  exact bm (abc_tab ⟨j, by omega⟩)
def sgn (c A : Int) (k j : Nat) : Nat := 97 + ((c / 64 + 7 * (0 + (j : Int)) * (0 + (j : Int)) + 5 * (0 + (k : Int)) * (if ((0 + (j : Int)) == A) = true then 1 else 0)) % 26).toNat
def NameOf (c A : Int) (k n : Nat) (y : Str) : Prop := y.length = n /\ ∀ j : Nat, j < n -> y.cps.toList[j]? = some (sgn c A k j)
theorem sgn_low (c A : Int) (k j : Nat) : 97 <= sgn c A k j /\ sgn c A k j <= 122 := by
  unfold sgn
  generalize (c / 64 + 7 * (0 + (j : Int)) * (0 + (j : Int)) + 5 * (0 + (k : Int)) * (if ((0 + (j : Int)) == A) = true then 1 else 0)) = e
  omega
theorem all_cps : ("all" : Str).cps.toList = [97, 108, 108] := by decide +kernel
theorem NameOf.name {c A : Int} {k n : Nat} {y : Str} (h : NameOf c A k n y) (h0 : 0 <= A) (hA : A < n) (h8 : n <= 8) : gt y = true := by
  have ha : y.cps.toList.all gH = true := List.all_eq_true.mpr λ d hd => by
    obtain ⟨j, hj⟩ := List.mem_iff_getElem?.mp hd
    have hl := (List.getElem?_eq_some_iff.mp hj).1
    rw [fR, h.1] at hl
    rw [h.2 j hl] at hj
    cases hj
    obtain ⟨h1, h2⟩ := sgn_low c A k j
    unfold gH
    rw [decide_eq_true h1, decide_eq_true h2]
    rfl
  have hn : (y == ("all" : Str)) = false := beq_eq_false_iff_ne.mpr λ e => by
    have h3 : n = 3 := by
      rw [<- h.1, e]
      decide +kernel
    subst h3
    have e0 := h.2 0 (by omega)
    have e1 := h.2 1 (by omega)
    have e2 := h.2 2 (by omega)
    rw [e, all_cps] at e0 e1 e2
    simp only [List.getElem?_cons_zero, List.getElem?_cons_succ, Option.some.injEq, sgn] at e0 e1 e2
    have hc : A = 0 \/ A = 1 \/ A = 2 := by omega
    rcases hc with rfl | rfl | rfl
    . simp at e0 e1 e2
      omega
    . simp at e0 e1 e2
      omega
    . simp at e0 e1 e2
      omega
  unfold gt
  rw [h.1, decide_eq_true (show 1 <= n by omega), decide_eq_true h8, ha, hn]
  rfl
theorem sgn_inj {c A : Int} {k k' : Nat} (h0 : 0 <= A) (hk : k < 24) (hk' : k' < 24) (e : sgn c A k A.toNat = sgn c A k' A.toNat) : k = k' := by
  unfold sgn at e
  have : (0 + ((A.toNat : Nat) : Int)) = A := by omega
  rw [this, beq_self_eq_true, if_pos rfl] at e
  generalize c / 64 + 7 * A * A = m at e
  omega
theorem lK {c m : Int} {H : Hp} {D : Ends} (h0 : 0 <= m) (h24 : m <= 24) (q : ∀ p (zs : List Str) H', Same H H' -> H p = none -> H' p = some (.lst (sts zs)) -> (zs.length : Int) = m -> Nms zs -> D.rt (.ref p) H') :
    gw D [some (.int c), some (.int m), none, none, none, none, none, none, none, none] H := by
  have hs := sz
  have hS : 1 <= 1 + c % 8 /\ 1 + c % 8 <= 8 := by omega
  refine ⟨by decide, ⟨by decide, by decide⟩, by omega, few rfl, af λ p G1 n1 s1 t1 => ?_⟩
  have a1 := Int.emod_nonneg (c / 8) (show 1 + c % 8 ≠ 0 by omega)
  have a2 := Int.emod_lt_of_pos (c / 8) (show 0 < 1 + c % 8 by omega)
  generalize e1 : c / 8 % (1 + c % 8) = A at *
  generalize e0 : 1 + c % 8 = S at *
  refine ap ⟨⟨by omega, by omega⟩, ?_⟩
  refine bA (λ i σ G => Same H G /\ (∃ zs : List Str, G p = some (.lst (sts zs)) /\ zs.length = i /\ ∀ (j : Nat) z, zs[j]? = some z -> NameOf c A j S.toNat z) /\ ∃ u v w x, σ = [some (.int c), some (.int m), some (.str "abcdefghijklmnopqrstuvwxyz"), some (.int S), some (.int A), some (.ref p), u, v, w, x]) ⟨s1, ⟨[], t1, rfl, λ j z e => by simp at e⟩, _, _, _, _, rfl⟩ ?_ ?_
  . rintro i σ G hi ⟨sm, ⟨zs, hg, hl, hz⟩, u, v, w, x, rfl⟩
    refine ap ⟨⟨by omega, by omega⟩, ?_⟩
    refine bA (λ j σ G' => G' = G /\ (∃ y : Str, NameOf c A i j y /\ ∃ w x, σ = [some (.int c), some (.int m), some (.str "abcdefghijklmnopqrstuvwxyz"), some (.int S), some (.int A), some (.ref p), some (.int (0 + i)), some (.str y), w, x])) ⟨rfl, "", ⟨rfl, λ j hj => by omega⟩, _, _, rfl⟩ ?_ ?_
    . rintro j σ G' hj ⟨rfl, y, hy, w, x, rfl⟩
      refine ⟨aB (by omega) (by omega), aB (by split <;> decide) (by split <;> decide), ⟨by decide, by decide⟩, aB (by omega) (by omega), aB (by omega) (by omega), by decide, ?_⟩
      have m1 := Int.emod_nonneg (c / 64 + 7 * (0 + (j : Int)) * (0 + (j : Int)) + 5 * (0 + (i : Int)) * (if ((0 + (j : Int)) == A) = true then 1 else 0)) (show (26 : Int) ≠ 0 by decide)
      have m2 := Int.emod_lt_of_pos (c / 64 + 7 * (0 + (j : Int)) * (0 + (j : Int)) + 5 * (0 + (i : Int)) * (if ((0 + (j : Int)) == A) = true then 1 else 0)) (show (0 : Int) < 26 by decide)
      refine getS_i (abc_at m1 m2) (by decide) ⟨?_, ?_⟩
      . show y.length + 1 <= sizeLine
        rw [hy.1]
        omega
      . refine ⟨rfl, _, ⟨?_, λ l hlt => ?_⟩, _, _, rfl⟩
        . rw [app_len, hy.1]
          rfl
        . rw [hZ]
          by_cases hlj : l < j
          . rw [List.getElem?_append_left (by rw [fR, hy.1]; exact hlj)]
            exact hy.2 l hlj
          . have e : l = y.cps.toList.length := by rw [fR, hy.1]; omega
            have e' : l = j := by rw [e, fR, hy.1]
            rw [List.getElem?_append_right (by rw [<- e]; exact Nat.le_refl _), <- e, Nat.sub_self, e']
            rfl
    . rintro σ G' ⟨rfl, y, hy, w, x, rfl⟩
      refine cO hg (bB hg (by simp; omega) ⟨sm.put n1, ⟨zs ++ [y], by rw [a5, de], by simp [hl], λ j z e => ?_⟩, _, _, _, _, rfl⟩)
      by_cases hj : j < zs.length
      . rw [List.getElem?_append_left hj] at e
        exact hz j z e
      . have hlt := (List.getElem?_eq_some_iff.mp e).1
        rw [List.length_append] at hlt
        have : j = zs.length := by simp at hlt; omega
        subst this
        simp at e
        subst e
        rw [hl]
        exact hy
  . rintro σ G ⟨sm, ⟨zs, hg, hl, hz⟩, u, v, w, x, rfl⟩
    refine q p zs G sm n1 hg (by omega) ⟨λ z hm => ?_, ?_⟩
    . obtain ⟨j, hj⟩ := List.mem_iff_getElem?.mp hm
      exact (hz j z hj).name a1 (by omega) (by omega)
    . refine List.pairwise_iff_getElem.mpr λ i j hi hj hlt e => ?_
      have z1 := (hz i zs[i] (by simp [hi])).2 A.toNat (by omega)
      have z2 := (hz j zs[j] (by simp [hj])).2 A.toNat (by omega)
      rw [e, z2] at z1
      injection z1 with z1
      have := sgn_inj a1 (by omega) (by omega) z1
      omega
def oj : TS := (aD (am aW [] E0 (a3 (tOp bh (gv 1) (tC (.int 3))) (a3 (gv 2) a8))))
def f8 (K : PySem.W.Frag) : TS :=
  (ad (ah (am (a9 K) [] E0 (a3 (gv 0) (a3 (tC (.int 2)) a8))) (a6 1))
  (ad (ah (tOp aT (tC (.int 1)) (tOp aU (gv 1) (tC (.int 3)))) (a6 2))
  (ad (sIf (bT (tOp eqG (tOp aU (tOp bh (gv 1) (tC (.int 3))) (tC (.int 8))) (tC (.int 5))))
    (ah (tOp aT (tC (.int 1)) (tOp aU (tOp bh (gv 1) (tC (.int 24))) (tC (.int 8)))) (a6 2))
    ay)
  oj)))
theorem j6 {a : Addr} {ns : List Int} {H : Hp} {D : Ends} (hS : SqL K H a (ns.map V.int)) (q : ∀ p (cs : List Str) H', Same H H' -> H p = none -> H' p = some (.lst (sts cs)) -> 1 <= cs.length -> cs.length <= 8 -> Nms cs -> D.rt (.ref p) H') : f8 K D [some (.ref a), none, none] H := by
  refine ⟨a, ns, 2, rfl, hS, by decide, by decide, ⟨by decide, by decide⟩, by decide, ?_⟩
  generalize aO ns 2 = c
  have fin : ∀ m : Int, 1 <= m -> m <= 8 -> oj D [some (.ref a), some (.int c), some (.int m)] H := λ m h1 h8 =>
    ⟨⟨by decide, by decide⟩, _, _, rfl, by omega, by omega, λ p zs G s n t hl hn => q p zs G s n t (by omega) (by omega) hn⟩
  refine aR (λ h => ?_) (λ h => fin _ (by omega) (by omega))
  exact ⟨⟨by decide, by decide⟩, by decide, fin _ (by omega) (by omega)⟩
def tp_fin : TS := (cj (cW "append" (gv 4) (a3 (bf (a3 (tOp aw (gv 3) (gv 5)) (a3 (gv 7) a8))) a8)))
def ol (K : PySem.W.Frag) : TS :=
  (ad (ah (am aW [] E0 (a3 (am (a9 K) [] E0 (a3 (gv 0) (a3 (tC (.int 1)) a8))) (a3 (gv 2) a8))) (a6 3))
  (ad (ah (aH a8) (a6 4))
  (ad (aN (dL (a3 (gv 2) a8)) (a6 5)
    (ad (ah (am (a9 K) [] E0 (a3 (gv 0) (a3 (tOp aT (tC (.int 3)) (gv 5)) a8))) (a6 6))
    (ad (ah (tC (.str "all")) (a6 7))
    (ad (sIf (e9 (bT (tOp gtG (gv 5) (tC (.int 0)))) (bT (tOp gtG (tOp aU (gv 6) (tC (.int 3))) (tC (.int 0)))))
      (ah (tOp aw (gv 3) (tOp aU (tOp bh (gv 6) (tC (.int 3))) (gv 5))) (a6 7))
      ay)
    tp_fin))))
  (aD (gv 4)))))
def gx (K : PySem.W.Frag) : TS :=
  (ad (ah (am (a9 K) [] E0 (a3 (gv 0) (a3 (tC (.int 0)) a8))) (a6 1))
  (ad (ah (tOp aT (tC (.int 1)) (tOp aU (gv 1) (tC (.int 6)))) (a6 2))
  (ad (sIf (bT (tOp eqG (tOp aU (tOp bh (gv 1) (tC (.int 6))) (tC (.int 8))) (tC (.int 5))))
    (ah (tOp aT (tC (.int 1)) (tOp aU (tOp bh (gv 1) (tC (.int 48))) (tC (.int 24)))) (a6 2))
    ay)
  (ol K))))
theorem fT {a : Addr} {ns : List Int} {c m : Int} {H : Hp} {D : Ends} (h1 : 1 <= m) (h24 : m <= 24) (hS : SqL K H a (ns.map V.int)) (q : ∀ l (xs : List V) (ps : List (Str × Str)) H', Same H H' -> H l = none -> H' l = some (.lst xs) -> PairsAt H' xs ps -> Good ps -> D.rt (.ref l) H') :
    ol K D [some (.ref a), some (.int c), some (.int m), none, none, none, none, none] H := by
  have hs := sz
  refine ⟨a, ns, 1, rfl, hS, by decide, _, _, rfl, by omega, by omega, λ p zs G1 s1 n1 t1 zl hn => ⟨few rfl, af λ l G2 n2 s2 t2 => ?_⟩⟩
  have nl : H l = none := s1.free n2
  have npl : p ≠ l := λ z => by rw [z, n2] at t1; cases t1
  refine ap ⟨⟨by omega, by omega⟩, ?_⟩
  refine bA (λ i σ G => (Same H G /\ G p = some (.lst (sts zs))) /\ (∃ xs qs, G l = some (.lst xs) /\ PairsAt G xs qs /\ qs.length = i /\ qs.map (·.1) = zs.take i /\ ∀ (j : Nat) r, qs[j]? = some r -> r.2 = "all" \/ r.2 ∈ zs.take j) /\ ∃ u v w, σ = [some (.ref a), some (.int c), some (.int m), some (.ref p), some (.ref l), u, v, w])
    ⟨⟨s1.trans s2, s2 _ _ t1⟩, ⟨[], [], t2, .nil, rfl, by simp, λ j r e => by simp at e⟩, _, _, _, rfl⟩ ?_ ?_
  . rintro i σ G hi ⟨⟨sm, hp⟩, ⟨xs, qs, hg, pa, ql, qn, qa⟩, u, v, w, rfl⟩
    have hi2 : i < zs.length := by omega
    have hzi : zs[i]? = some zs[i] := by simp [hi2]
    refine ⟨a, ns, 3 + (0 + i), rfl, sm.seq hS, by omega, ?_⟩
    generalize aO ns (3 + (0 + ↑i)) = d
    have fin : ∀ (b : Str) (D' : Ends), (b = "all" \/ b ∈ zs.take i) -> (D'.nx = λ σ G => (Same H G /\ G p = some (.lst (sts zs))) /\ (∃ xs qs, G l = some (.lst xs) /\ PairsAt G xs qs /\ qs.length = i + 1 /\ qs.map (·.1) = zs.take (i + 1) /\ ∀ (j : Nat) r, qs[j]? = some r -> r.2 = "all" \/ r.2 ∈ zs.take j) /\ ∃ u v w, σ = [some (.ref a), some (.int c), some (.int m), some (.ref p), some (.ref l), u, v, w]) →
        tp_fin D' [some (.ref a), some (.int c), some (.int m), some (.ref p), some (.ref l), some (.int (0 + i)), some (.int d), some (.str b)] G := by
      intro b D' hb hD
      refine cO hg (bg hp (by rw [Int.zero_add]; exact atS hzi) ⟨few rfl, af λ t G6 n6 s6 t6 => bB (s6 _ _ hg) ?_ ?_⟩)
      . rw [pa.1, ql]
        omega
      . rw [hD]
        refine ⟨⟨(sm.trans s6).put nl, by rw [a4 npl]; exact s6 _ _ hp⟩, ⟨_, qs ++ [(zs[i], b)], a5, ((pa.same s6).snoc t6).put (s6 _ _ hg), by simp [ql], by rw [List.map_append, qn, ab hzi]; rfl, λ j r e => ?_⟩, _, _, _, rfl⟩
        by_cases hj : j < qs.length
        . rw [List.getElem?_append_left hj] at e
          exact qa j r e
        . have hlt := (List.getElem?_eq_some_iff.mp e).1
          rw [List.length_append] at hlt
          have : j = qs.length := by simp at hlt; omega
          subst this
          simp at e
          subst e
          rw [ql]
          exact hb
    refine ff (λ hk => ⟨by decide, ?_⟩) (λ hk => bb rfl (fin "all" _ (.inl rfl) rfl))
    refine ff (λ hd => ?_) (λ hd => fin "all" _ (.inl rfl) rfl)
    have w1 := Int.emod_nonneg (d / 3) (show (0 + (i : Int)) ≠ 0 by omega)
    have w2 := Int.emod_lt_of_pos (d / 3) (show 0 < (0 + (i : Int)) by omega)
    refine ⟨⟨by decide, by decide⟩, by omega, ?_⟩
    obtain ⟨j, hj⟩ : ∃ j : Nat, d / 3 % (0 + (i : Int)) = j := ⟨(d / 3 % (0 + (i : Int))).toNat, by omega⟩
    rw [hj] at w1 w2 ⊢
    have hjl : j < zs.length := by omega
    refine bg hp (atS (z := zs[j]) (by simp [hjl])) (fin zs[j] _ (.inr ?_) rfl)
    refine List.mem_iff_getElem?.mpr ⟨j, ?_⟩
    rw [List.getElem?_take_of_lt (by omega)]
    simp [hjl]
  . rintro σ G ⟨⟨sm, hp⟩, ⟨xs, qs, hg, pa, ql, qn, qa⟩, u, v, w, rfl⟩
    have hlz : zs.length = m.toNat := by omega
    have e0 : (m - 0).toNat = m.toNat := by simp
    first | rw [<- hlz, List.take_length] at qn | rw [e0, <- hlz, List.take_length] at qn
    refine q l xs qs G sm nl hg pa ⟨by omega, by omega, by rw [qn]; exact hn, λ i r e => ?_⟩
    rw [List.map_take, qn]
    exact qa i r e
theorem lL {a : Addr} {ns : List Int} {H : Hp} {D : Ends} (hS : SqL K H a (ns.map V.int)) (q : ∀ l (xs : List V) (ps : List (Str × Str)) H', Same H H' -> H l = none -> H' l = some (.lst xs) -> PairsAt H' xs ps -> Good ps -> D.rt (.ref l) H') :
    gx K D [some (.ref a), none, none, none, none, none, none, none] H := by
  refine ⟨a, ns, 0, rfl, hS, by decide, by decide, ⟨by decide, by decide⟩, by decide, ?_⟩
  refine aR (λ h => ?_) (λ h => fT (by omega) (by omega) hS q)
  exact ⟨⟨by decide, by decide⟩, by decide, fT (by omega) (by omega) hS q⟩
def aI : Sp := λ vs H Q _ => ∃ (a : Addr) (xs : List V) (ps : List (Str × Str)), vs = [.ref a] /\ H a = some (.lst xs) /\ PairsAt H xs ps /\ ps.length <= 24 /\ ∀ p H', Same H H' -> H p = none -> H' p = some (.lst (sts (au ps))) -> Q (.ref p) H'
def iI : TS :=
  (ad (ah (aZ (iOf aq (gv 0)) ["_law_name", "_law_above"] [] (cJ 2 (b5 (a6 0) (b5 (a6 1) fB))) gF (gv 1)) (a6 1))
  (aD (aZ (iOf aq (gv 0)) ["_law_name", "_law_above"] [("_law_tops", 1)] (cJ 2 (b5 (a6 0) (b5 (a6 1) fB))) (bT (tOp (inG true) (gv 0) (gv 2))) (gv 0))))
theorem mP {a : Addr} {xs : List V} {ps : List (Str × Str)} {H : Hp} {D : Ends} (ha : H a = some (.lst xs)) (pa : PairsAt H xs ps) (hl : ps.length <= 24) (q : ∀ p H', Same H H' -> H p = none -> H' p = some (.lst (sts (au ps))) -> D.rt (.ref p) H') : iI D [some (.ref a), none] H := by
  have hs := sz
  refine bI (aj ha (iu (o9 H) ha (by rw [pa.1]; omega) ?_ ?_))
  . intro i z hz G k sm hk
    obtain ⟨r, t, hr, rfl, ht⟩ := pa.at hz
    rw [snd_at ht] at hk
    exact ⟨t, _, rfl, .inl (sm _ _ ht), rfl, _, _, rfl, _, _, rfl, rfl, bO rfl hk⟩
  intro po G1 n1 s1 t1
  rw [pa.snds] at t1
  refine bI (aj (s1 _ _ ha) (iu (og H (ps.map (·.2))) (s1 _ _ ha) (by rw [pa.1]; omega) ?_ ?_))
  . intro i z hz G k sm hk
    obtain ⟨r, t, hr, rfl, ht⟩ := pa.at hz
    rw [lI ht] at hk
    refine ⟨t, _, rfl, .inl (sm _ _ (s1 _ _ ht)), rfl, _, _, rfl, _, _, rfl, rfl, o6 (sm _ _ t1) ?_⟩
    refine aR (λ b => ?_) (λ b => ?_)
    . have b : (!decide (r.1 ∈ ps.map (·.2))) = true := by rw [<- b, Bool.true_xor]
      have b : r.1 ∉ ps.map (·.2) := by simpa using b
      rw [if_neg b] at hk
      exact hk
    . have b : (!decide (r.1 ∈ ps.map (·.2))) = false := by rw [<- b, Bool.true_xor]
      have b : r.1 ∈ ps.map (·.2) := by simpa using b
      rw [if_pos b] at hk
      exact hk
  intro pr G2 n2 s2 t2
  rw [lrows pa] at t2
  rw [rows_eq] at t2
  exact q pr G2 (s1.trans s2) (s1.free n2) t2
def b9 : Sp := λ vs H Q _ => ∃ (a c : Addr) (xs : List V) (ps : List (Str × Str)) (cs : List Str), vs = [.ref a, .ref c] /\ H a = some (.lst xs) /\ PairsAt H xs ps /\ Good ps /\ H c = some (.lst (sts cs)) /\ cs.length <= 8 /\ ∀ p zs H', Same H H' -> H p = none -> H' p = some (.lst zs) -> TupsAt H' zs (jB ps cs) -> Q (.ref p) H'
def iJ : TS :=
  (ad (ah (am aI [] E0 (a3 (gv 0) a8)) (a6 2))
  (ad (ah (aH a8) (a6 3))
  (ad (aN (iOf aq (tOp aT (aH (a3 (tC (.str "all")) a8)) (aZ (iOf aq (gv 0)) ["_law_name", "_law_above"] [] (cJ 2 (b5 (a6 0) (b5 (a6 1) fB))) gF (gv 0)))) (a6 4)
    (sIf (bT (tOp (inG true) (gv 4) (gv 2)))
      (aN (iOf aq (tOp aT (gv 1) (aH (a3 (tC (.str "all")) a8)))) (a6 5)
        (cj (cW "append" (gv 3) (a3 (bf (a3 (tC (.str "down")) (a3 (gv 4) (a3 (gv 5) a8)))) a8))))
      ay))
  (ad (aN (iOf aq (tOp aT (aH (a3 (tC (.str "all")) a8)) (gv 2))) (a6 4)
    (cj (cW "append" (gv 3) (a3 (bf (a3 (tC (.str "across")) (a3 (gv 4) a8))) a8))))
  (aD (gv 3))))))
theorem not_row {ps : List (Str × Str)} (g : Good ps) {n : Str} (h : n ∈ b6 ps) : decide (n ∈ au ps) = (av ps n).isEmpty := by
  unfold b6 at h
  rcases List.mem_cons.mp h with rfl | h
  . have h1 : ("all" : Str) ∉ au ps := λ m => by
      have := (List.mem_filter.mp m).1
      exact (bC (g.nms.1 _ this)).2.2 rfl
    rw [decide_eq_false h1, below_nil]
    have g1 := g.one
    have hq := g.abv 0 ps[0] (by simp)
    simp only [List.take_zero, List.map_nil, List.not_mem_nil, or_false] at hq
    have : ("all" : Str) ∈ ps.map (·.2) := List.mem_map.mpr ⟨ps[0], List.getElem_mem _, hq⟩
    rw [decide_eq_true this]
    rfl
  . unfold au aa
    by_cases hb : (av ps n).isEmpty = true
    . rw [hb, decide_eq_true (List.mem_filter.mpr ⟨h, hb⟩)]
    . have hb' : (av ps n).isEmpty = false := by simpa using hb
      rw [hb']
      exact decide_eq_false λ m => hb (by simpa using (List.mem_filter.mp m).2)
theorem mQ {a c : Addr} {xs : List V} {ps : List (Str × Str)} {cs : List Str} {H : Hp} {D : Ends} (ha : H a = some (.lst xs)) (pa : PairsAt H xs ps) (g : Good ps) (hc : H c = some (.lst (sts cs))) (h8 : cs.length <= 8) (q : ∀ p zs H', Same H H' -> H p = none -> H' p = some (.lst zs) -> TupsAt H' zs (jB ps cs) -> D.rt (.ref p) H') :
    iJ D [some (.ref a), some (.ref c), none, none, none, none] H := by
  have hs := sz
  have g2 := g.many
  have ln : (aa ps).length = ps.length := List.length_map ..
  have lr := fS (ps := ps)
  refine ⟨a, xs, ps, rfl, ha, pa, g2, λ pr G1 s1 n1 t1 => ⟨few rfl, af λ p G2 n2 s2 t2 => ?_⟩⟩
  have s12 := s1.trans s2
  have np : H p = none := s1.free n2
  refine ap ⟨few rfl, af λ r1 G3 n3 s3 t3 => bI (aj ((s12.trans s3) _ _ ha) (iu (jy H) ((s12.trans s3) _ _ ha) (by rw [pa.1]; omega) ?_ ?_))⟩
  . intro i z hz G k sm hk
    obtain ⟨r, t, hr, rfl, ht⟩ := pa.at hz
    rw [km ht] at hk
    exact ⟨t, _, rfl, .inl (sm _ _ ((s12.trans s3) _ _ ht)), rfl, _, _, rfl, _, _, rfl, rfl, bO rfl hk⟩
  intro r2 G4 n4 s4 t4
  rw [pa.fsts] at t4
  refine cZ (s4 _ _ t3) t4 (by simp; omega) (af λ r3 G5 n5 s5 t5 => ?_)
  have e5 : ([V.str "all"] ++ sts (ps.map (·.1))) = sts ("all" :: aa ps) := rfl
  rw [e5] at t5
  have s25 := (s3.trans s4).trans s5
  have nr : r3 ≠ p := λ z => by rw [z, (s3.trans s4) _ _ t2] at n5; cases n5
  have nrp : pr ≠ p := λ z => by rw [z, n2] at t1; cases t1
  refine aj t5 (ar (xs := sts ("all" :: aa ps)) (λ i σ G => (Same H G /\ G r3 = some (.lst (sts ("all" :: aa ps))) /\ G pr = some (.lst (sts (au ps)))) /\ (∃ zs, G p = some (.lst zs) /\ TupsAt G zs (eD ps cs ((("all" : Str) :: aa ps).take i))) /\ ∃ u v, σ = [some (.ref a), some (.ref c), some (.ref pr), some (.ref p), u, v])
    ⟨⟨s12.trans s25, t5, (s2.trans s25) _ _ t1⟩, ⟨_, s25 _ _ t2, .nil⟩, _, _, rfl⟩ (λ i σ G _ h => h.1.2.1) ?_ ?_)
  . rintro i y σ G hy ⟨⟨sm, hr, hpr⟩, ⟨zs, hg, pz⟩, u, v, rfl⟩
    obtain ⟨z, hz, rfl⟩ := b4 hy
    have hi := (List.getElem?_eq_some_iff.mp hz).1
    have hk : z ∈ b6 ps := List.mem_of_getElem? hz
    have lz : zs.length <= 25 * 9 := by
      rw [pz.1]
      refine Nat.le_trans (dh ..) (Nat.mul_le_mul ?_ (by omega))
      rw [List.length_take, List.length_cons]
      omega
    refine o6 hpr ?_
    rw [not_row g hk, Bool.true_xor]
    refine aR (λ hb => ?_) (λ hb => ?_)
    . have hb : (av ps z).isEmpty = false := by simpa using hb
      refine ap ⟨few rfl, af λ c1 G6 n6 s6 t6 => cZ ((sm.trans s6) _ _ hc) t6 (by simp; omega) (af λ c2 G7 n7 s7 t7 => ?_)⟩
      rw [de] at t7
      have s67 := s6.trans s7
      have nc2 : c2 ≠ p := λ z => by rw [z, s6 _ _ hg] at n7; cases n7
      refine aj t7 (ar (xs := sts (cs ++ [("all" : Str)])) (λ j σ G => (Same H G /\ G r3 = some (.lst (sts ("all" :: aa ps))) /\ G pr = some (.lst (sts (au ps))) /\ G c2 = some (.lst (sts (cs ++ [("all" : Str)])))) /\ (∃ zs, G p = some (.lst zs) /\ TupsAt G zs (eD ps cs ((("all" : Str) :: aa ps).take i) ++ ((cs ++ [("all" : Str)]).take j).map λ c => (["down", z, c] : List Str))) /\ ∃ v, σ = [some (.ref a), some (.ref c), some (.ref pr), some (.ref p), some (.str z), v])
        ⟨⟨sm.trans s67, s67 _ _ hr, s67 _ _ hpr, t7⟩, ⟨zs, s67 _ _ hg, by simpa using pz.same s67⟩, _, rfl⟩ (λ i σ G _ h => h.1.2.2.2) ?_ ?_)
      . rintro j y0 σ G hy0 ⟨⟨sm, hr, hpr, hc2⟩, ⟨zs, hg, pz⟩, v, rfl⟩
        obtain ⟨y, hy, rfl⟩ := b4 hy0
        refine cO hg ⟨few rfl, af λ t G9 n9 s9 t9 => ?_⟩
        have lz : zs.length <= 25 * 9 + 9 := by
          rw [pz.1, List.length_append, List.length_map, List.length_take]
          have := dh ps cs ((("all" : Str) :: aa ps).take i)
          have h2 : ((("all" : Str) :: aa ps).take i).length * (cs.length + 1) <= 25 * 9 := Nat.mul_le_mul (by rw [List.length_take, List.length_cons]; omega) (by omega)
          have h3 : (cs ++ [("all" : Str)]).length <= 9 := by simp; omega
          omega
        refine bB (s9 _ _ hg) (by omega) ⟨⟨(sm.trans s9).put np, by rw [a4 nr]; exact s9 _ _ hr, by rw [a4 nrp]; exact s9 _ _ hpr, by rw [a4 nc2]; exact s9 _ _ hc2⟩, ⟨_, a5, ?_⟩, _, rfl⟩
        rw [ab hy, List.map_append, <- List.append_assoc]
        exact ((pz.same s9).snoc (l := ["down", z, y]) t9).put (s9 _ _ hg)
      . rintro σ G ⟨⟨sm, hr, hpr, hc2⟩, ⟨zs, hg, pz⟩, v, rfl⟩
        rw [show (sts (cs ++ [("all" : Str)])).length = (cs ++ [("all" : Str)]).length from List.length_map .., List.take_length] at pz
        refine ⟨⟨sm, hr, hpr⟩, ⟨zs, hg, ?_⟩, _, _, rfl⟩
        rw [ab hz, iG, hb]
        exact pz
    . have hb : (av ps z).isEmpty = true := by simpa using hb
      refine ⟨⟨sm, hr, hpr⟩, ⟨zs, hg, ?_⟩, _, _, rfl⟩
      rw [ab hz, iG, hb]
      simpa using pz
  . rintro σ G ⟨⟨sm, hr, hpr⟩, ⟨zs, hg, pz⟩, u, v, rfl⟩
    rw [show (sts ("all" :: aa ps)).length = (("all" : Str) :: aa ps).length from List.length_map .., List.take_length] at pz
    refine ap ⟨few rfl, af λ c1 G6 n6 s6 t6 => cZ t6 (s6 _ _ hpr) (by simp; omega) (af λ c2 G7 n7 s7 t7 => ?_)⟩
    have e7 : ([V.str "all"] ++ sts (au ps)) = sts ("all" :: au ps) := rfl
    rw [e7] at t7
    have s67 := s6.trans s7
    have nc2 : c2 ≠ p := λ z => by rw [z, s6 _ _ hg] at n7; cases n7
    refine aj t7 (ar (xs := sts ("all" :: au ps)) (λ j σ G => (Same H G /\ G c2 = some (.lst (sts ("all" :: au ps)))) /\ (∃ zs, G p = some (.lst zs) /\ TupsAt G zs (eD ps cs ("all" :: aa ps) ++ mN ((("all" : Str) :: au ps).take j))) /\ ∃ u v, σ = [some (.ref a), some (.ref c), some (.ref pr), some (.ref p), u, v])
      ⟨⟨sm.trans s67, t7⟩, ⟨zs, s67 _ _ hg, by simpa [mN] using pz.same s67⟩, _, _, rfl⟩ (λ i σ G _ h => h.1.2) ?_ ?_)
    . rintro j y0 σ G hy0 ⟨⟨sm, hc2⟩, ⟨zs, hg, pz⟩, u, v, rfl⟩
      obtain ⟨y, hy, rfl⟩ := b4 hy0
      refine cO hg ⟨few rfl, af λ t G9 n9 s9 t9 => ?_⟩
      have lz : zs.length <= 25 * 9 + 25 := by
        rw [pz.1, List.length_append, mN, List.length_map, List.length_take]
        have := dh ps cs ("all" :: aa ps)
        have h2 : (("all" : Str) :: aa ps).length * (cs.length + 1) <= 25 * 9 := Nat.mul_le_mul (by rw [List.length_cons]; omega) (by omega)
        have h3 : (("all" : Str) :: au ps).length <= 25 := by simp; omega
        omega
      refine bB (s9 _ _ hg) (by omega) ⟨⟨(sm.trans s9).put np, by rw [a4 nc2]; exact s9 _ _ hc2⟩, ⟨_, a5, ?_⟩, _, _, rfl⟩
      rw [ab hy, mN, List.map_append, <- List.append_assoc]
      exact ((pz.same s9).snoc (l := ["across", y]) t9).put (s9 _ _ hg)
    . rintro σ G ⟨⟨sm, hc2⟩, ⟨zs, hg, pz⟩, u, v, rfl⟩
      rw [show (sts ("all" :: au ps)).length = (("all" : Str) :: au ps).length from List.length_map .., List.take_length] at pz
      exact q p zs G sm np hg pz
end
end S
end Tv
namespace Tv
namespace A
def sg {α : Type} : List α -> (α -> Int) -> Int
  | [], _ => 0
  | x :: r, f => f x + sg r f
section
variable {α β : Type}
theorem eR (l m : List α) (f : α -> Int) : sg (l ++ m) f = sg l f + sg m f := by
  induction l with
  | nil => simp [sg]
  | cons x r ih => simp only [List.cons_append, sg, ih]; omega
theorem ba {l : List α} {f g : α -> Int} (h : ∀ x ∈ l, f x = g x) : sg l f = sg l g := by
  induction l with
  | nil => rfl
  | cons x r ih => simp only [sg]; rw [h x (by simp), ih λ y hy => h y (by simp [hy])]
theorem ky (l : List β) (k : β -> α) (f : α -> Int) : sg (l.map k) f = sg l λ x => f (k x) := by
  induction l with
  | nil => rfl
  | cons x r ih => simp only [List.map_cons, sg, ih]
theorem om (l : List α) : sg l (λ _ => 0) = 0 := by
  induction l with
  | nil => rfl
  | cons x r ih => simp only [sg, ih]; omega
theorem bR {l : List α} {f : α -> Int} (h : ∀ x ∈ l, f x = 0) : sg l f = 0 := by rw [ba h, om]
theorem iK (l : List α) (f g : α -> Int) : sg l (λ x => f x + g x) = sg l f + sg l g := by
  induction l with
  | nil => rfl
  | cons x r ih => simp only [sg, ih]; omega
theorem eE (l : List α) (k : Int) (f : α -> Int) : sg l (λ x => k * f x) = k * sg l f := by
  induction l with
  | nil => simp [sg]
  | cons x r ih => simp only [sg, ih, Int.mul_add]
theorem oo (l : List α) (m : List β) (f : α -> β -> Int) : sg l (λ x => sg m λ y => f x y) = sg m λ y => sg l λ x => f x y := by
  induction l with
  | nil => simp only [sg]; rw [om]
  | cons x r ih => simp only [sg]; rw [ih, iK]
theorem iL [DecidableEq α] {l : List α} (hd : l.Nodup) {a : α} (ha : a ∈ l) (k : Int) : sg l (λ x => if x = a then k else 0) = k := by
  induction l with
  | nil => cases ha
  | cons x r ih =>
    rw [List.nodup_cons] at hd
    simp only [sg]
    rcases List.mem_cons.mp ha with rfl | h
    . rw [if_pos rfl, bR λ y hy => if_neg λ (e : y = a) => hd.1 (e ▸ hy)]; omega
    . rw [if_neg λ (e : x = a) => hd.1 (e ▸ h), ih hd.2 h]; omega
theorem gQ [DecidableEq α] {l : List α} {a : α} (ha : a ∉ l) (k : Int) : sg l (λ x => if x = a then k else 0) = 0 := bR λ x hx => if_neg λ (e : x = a) => ha (e ▸ hx)
theorem qj (l : List α) (p : α -> Bool) (f : α -> Int) (h : ∀ x ∈ l, p x = false -> f x = 0) : sg (l.filter p) f = sg l f := by
  induction l with
  | nil => rfl
  | cons x r ih =>
    have ih := ih λ y hy => h y (by simp [hy])
    rw [List.filter_cons]
    by_cases e : p x = true
    . rw [if_pos e]; simp only [sg, ih]
    . rw [if_neg e]; simp only [sg, ih]
      rw [h x (by simp) (by simpa using e)]; omega
end
inductive Sm (S : Type) where
  | dn (n c : S)
  | ac (n : S)
deriving DecidableEq
section
variable {S : Type} [BEq S] [LawfulBEq S] [DecidableEq S]
def bel (ps : List (S × S)) (k : S) : List S := (ps.filter λ q => q.2 == k).map (·.1)
theorem mem_bel {ps : List (S × S)} {k m : S} : m ∈ bel ps k ↔ (m, k) ∈ ps := by
  unfold bel
  rw [List.mem_map]
  constructor
  . rintro ⟨q, hq, rfl⟩
    obtain ⟨h1, h2⟩ := List.mem_filter.mp hq
    have := eq_of_beq h2
    subst this
    exact h1
  . intro h
    exact ⟨(m, k), List.mem_filter.mpr ⟨h, by simp⟩, rfl⟩
structure Gd (al : S) (ps : List (S × S)) : Prop where
  one : 1 <= ps.length
  nd : (al :: ps.map (·.1)).Nodup
  abv : ∀ (i : Nat) q, ps[i]? = some q -> q.2 = al \/ q.2 ∈ (ps.take i).map (·.1)
variable {al : S} {ps : List (S × S)} {cs : List S}
theorem Gd.uniq (g : Gd al ps) {m k k' : S} (h : (m, k) ∈ ps) (h' : (m, k') ∈ ps) : k = k' := by
  have nd := (List.nodup_cons.mp g.nd).2
  obtain ⟨i, hi⟩ := List.mem_iff_getElem?.mp h
  obtain ⟨j, hj⟩ := List.mem_iff_getElem?.mp h'
  have hi1 := (List.getElem?_eq_some_iff.mp hi).1
  have hj1 := (List.getElem?_eq_some_iff.mp hj).1
  have e : i = j := by
    refine (List.getElem?_inj (l := ps.map (·.1)) (by simpa using hi1) nd).mp ?_
    rw [List.getElem?_map, List.getElem?_map, hi, hj]; rfl
  subst e
  rw [hi] at hj
  cases hj; rfl
theorem Gd.above_in (g : Gd al ps) {m k : S} (h : (m, k) ∈ ps) : k = al \/ k ∈ ps.map (·.1) := by
  obtain ⟨i, hi⟩ := List.mem_iff_getElem?.mp h
  rcases g.abv i _ hi with e | e
  . exact .inl e
  . obtain ⟨q, hq, e⟩ := List.mem_map.mp e
    exact .inr (List.mem_map.mpr ⟨q, List.mem_of_mem_take hq, e⟩)
theorem Gd.not_self (g : Gd al ps) {m : S} (h : (m, m) ∈ ps) : False := by
  have nd := List.nodup_cons.mp g.nd
  obtain ⟨i, hi⟩ := List.mem_iff_getElem?.mp h
  rcases g.abv i _ hi with e | e
  . simp only at e
    exact nd.1 (List.mem_map.mpr ⟨_, h, e⟩)
  . obtain ⟨q, hq, e⟩ := List.mem_map.mp e
    obtain ⟨j, hj⟩ := List.mem_iff_getElem?.mp hq
    have hjl := (List.getElem?_eq_some_iff.mp hj).1
    rw [List.length_take] at hjl
    rw [List.getElem?_take_of_lt (by omega)] at hj
    have hi1 := (List.getElem?_eq_some_iff.mp hi).1
    have : j = i := (List.getElem?_inj (l := ps.map (·.1)) (by simp; omega) nd.2).mp (by rw [List.getElem?_map, List.getElem?_map, hi, hj]; simp [e])
    omega
theorem Gd.al_above (g : Gd al ps) : bel ps al ≠ [] := λ e => by
  have g1 := g.one
  have hq := g.abv 0 ps[0] (by simp)
  simp only [List.take_zero, List.map_nil, List.not_mem_nil, or_false] at hq
  have : ps[0].1 ∈ bel ps al := mem_bel.mpr (by
    have : (ps[0].1, al) = ps[0] := by rw [<- hq]
    rw [this]
    exact List.getElem_mem _)
  rw [e] at this
  cases this
theorem Gd.bel_nd (g : Gd al ps) (k : S) : (bel ps k).Nodup := by
  have nd := (List.nodup_cons.mp g.nd).2
  unfold bel
  exact nd.sublist (List.Sublist.map _ List.filter_sublist)
def dW (al : S) (ps : List (S × S)) (cs : List S) : Sm S -> List ((S × S) × Int)
  | .dn n c => ((n, c), if c = al then -1 else 1) :: (bel ps n).map λ m => ((m, c), -(if c = al then -1 else 1))
  | .ac n => ((n, al), if n = al then 1 else -1) :: cs.map λ c => ((n, c), -(if n = al then 1 else -1))
def tot (l : List ((S × S) × Int)) (a b : S) : Int := sg l λ p => if p.1 = (a, b) then p.2 else 0
inductive IsSm (al : S) (ps : List (S × S)) (cs : List S) : Sm S -> Prop where
  | dn (n c : S) (hn : n = al \/ n ∈ ps.map (·.1)) (hb : bel ps n ≠ []) (hc : c = al \/ c ∈ cs) : IsSm al ps cs (.dn n c)
  | ac (n : S) (hn : n = al \/ (n ∈ ps.map (·.1) /\ bel ps n = [])) : IsSm al ps cs (.ac n)
theorem tot_dn (g : Gd al ps) (n c a b : S) : tot (dW al ps cs (.dn n c)) a b = if b = c then (if a = n then (if c = al then -1 else 1) else if (a, n) ∈ ps then -(if c = al then -1 else 1) else 0) else 0 := by
  unfold tot dW
  simp only [sg]
  rw [ky]
  generalize hs : (if c = al then (-1 : Int) else 1) = s
  by_cases hb : b = c
  . subst hb
    rw [if_pos rfl]
    by_cases ha : a = n
    . subst ha
      rw [if_pos rfl, if_pos rfl, bR λ m hm => ?_]
      . omega
      . simp only [Prod.mk.injEq, and_true]
        rw [if_neg]
        rintro rfl
        exact g.not_self (mem_bel.mp hm)
    . rw [if_neg ha, if_neg (show ¬ (n, b) = (a, b) by simp [Ne.symm ha])]
      have e : (λ m => if ((m, b), -s).1 = (a, b) then ((m, b), -s).2 else 0) = λ m : S => if m = a then -s else 0 := by
        funext m
        simp
      rw [e]
      by_cases hm : (a, n) ∈ ps
      . rw [if_pos hm, iL (g.bel_nd n) (mem_bel.mpr hm)]; omega
      . rw [if_neg hm, gQ λ h => hm (mem_bel.mp h)]; omega
  . rw [if_neg hb, if_neg (by simp [Ne.symm hb]), bR λ m hm => if_neg (by simp [Ne.symm hb])]
    rfl
theorem tot_ac (hc : (cs ++ [al]).Nodup) (n a b : S) : tot (dW al ps cs (.ac n)) a b = if a = n then (if b = al then (if n = al then 1 else -1) else if b ∈ cs then -(if n = al then 1 else -1) else 0) else 0 := by
  unfold tot dW
  simp only [sg]
  rw [ky]
  generalize hs : (if n = al then (1 : Int) else -1) = s
  have hal : al ∉ cs := λ h => by
    rw [List.nodup_append] at hc
    exact hc.2.2 _ h _ (by simp) rfl
  have hnd : cs.Nodup := (List.nodup_append.mp hc).1
  by_cases ha : a = n
  . subst ha
    rw [if_pos rfl]
    have e : (λ m => if ((a, m), -s).1 = (a, b) then ((a, m), -s).2 else 0) = λ m : S => if m = b then -s else 0 := by
      funext m
      simp
    rw [e]
    by_cases hb : b = al
    . subst hb
      rw [if_pos rfl, if_pos rfl, gQ hal]; omega
    . rw [if_neg hb, if_neg (show ¬ (a, al) = (a, b) by simp [Ne.symm hb])]
      by_cases hm : b ∈ cs
      . rw [if_pos hm, iL hnd hm]; omega
      . rw [if_neg hm, gQ hm]; omega
  . rw [if_neg ha, if_neg (by simp [Ne.symm ha]), bR λ m hm => if_neg (by simp [Ne.symm ha])]
    rfl
def upS (al : S) (ps : List (S × S)) (a b : S) : Sm S := match ps.find? (λ q => q.1 == a) with
  | some q => .dn q.2 b
  | none => .ac al
def cH (ps : List (S × S)) (a b : S) : Sm S := if bel ps a = [] then .ac a else .dn a b
theorem gf (g : Gd al ps) {a k b : S} (h : (a, k) ∈ ps) : upS al ps a b = .dn k b := by
  unfold upS
  cases e : ps.find? (λ q => q.1 == a) with
  | none =>
    have := List.find?_eq_none.mp e _ h
    simp at this
  | some q =>
    have h1 := List.find?_some e
    have h2 := List.mem_of_find?_eq_some e
    have h1 : q.1 = a := eq_of_beq h1
    have : q = (a, q.2) := by rw [<- h1]
    rw [this] at h2
    show Sm.dn q.2 b = _
    rw [g.uniq h2 h]
theorem gg (g : Gd al ps) {b : S} : upS al ps al b = .ac al := by
  unfold upS
  cases e : ps.find? (λ q => q.1 == al) with
  | none => rfl
  | some q =>
    have h1 := List.find?_some e
    have h2 := List.mem_of_find?_eq_some e
    exact ((List.nodup_cons.mp g.nd).1 (List.mem_map.mpr ⟨q, h2, eq_of_beq h1⟩)).elim
theorem fU (g : Gd al ps) {a : S} (h : a = al \/ a ∈ ps.map (·.1)) : a = al \/ ∃ k, (a, k) ∈ ps := by
  rcases h with h | h
  . exact .inl h
  . obtain ⟨q, hq, rfl⟩ := List.mem_map.mp h
    exact .inr ⟨q.2, hq⟩
theorem iM (g : Gd al ps) (hc : (cs ++ [al]).Nodup) {a b : S} (ha : a = al \/ a ∈ ps.map (·.1)) (hb : b = al \/ b ∈ cs) {one : Sm S} (h1 : IsSm al ps cs one) :
    tot (dW al ps cs one) a b = (if b = al then -1 else 1) * ((if one = cH ps a b then 1 else 0) - (if one = upS al ps a b then 1 else 0)) := by
  have hal : al ∉ cs := λ h => by
    rw [List.nodup_append] at hc
    exact hc.2.2 _ h _ (by simp) rfl
  cases h1 with
  | dn n c hn hbe hcc =>
    rw [tot_dn g]
    by_cases ebc : b = c
    . subst ebc
      rw [if_pos rfl]
      by_cases ean : a = n
      . subst ean
        rw [if_pos rfl]
        have e1 : cH ps a b = .dn a b := by unfold cH; rw [if_neg hbe]
        have e2 : upS al ps a b ≠ .dn a b := λ e => by
          rcases fU g ha with rfl | ⟨k, hk⟩
          . rw [gg g] at e; cases e
          . rw [gf g hk] at e
            cases e
            exact g.not_self hk
        rw [e1, if_pos rfl, if_neg (Ne.symm e2)]; split <;> omega
      . rw [if_neg ean]
        have e1 : (Sm.dn n b : Sm S) ≠ cH ps a b := λ e => by
          unfold cH at e
          split at e
          . cases e
          . cases e; exact ean rfl
        rw [if_neg e1]
        by_cases hm : (a, n) ∈ ps
        . rw [if_pos hm, gf g hm, if_pos rfl]; split <;> omega
        . rw [if_neg hm]
          have e2 : (Sm.dn n b : Sm S) ≠ upS al ps a b := λ e => by
            rcases fU g ha with rfl | ⟨k, hk⟩
            . rw [gg g] at e; cases e
            . rw [gf g hk] at e
              cases e
              exact hm hk
          rw [if_neg e2]; split <;> omega
    . rw [if_neg ebc]
      have e1 : (Sm.dn n c : Sm S) ≠ cH ps a b := λ e => by
        unfold cH at e
        split at e
        . cases e
        . cases e; exact ebc rfl
      have e2 : (Sm.dn n c : Sm S) ≠ upS al ps a b := λ e => by
        unfold upS at e
        split at e
        . cases e; exact ebc rfl
        . cases e
      rw [if_neg e1, if_neg e2]; split <;> omega
  | ac n hn =>
    rw [tot_ac hc]
    by_cases ean : a = n
    . subst ean
      rw [if_pos rfl]
      rcases hn with rfl | ⟨hn1, hn2⟩
      . have e1 : (Sm.ac a : Sm S) ≠ cH ps a b := λ e => by
          unfold cH at e
          rw [if_neg g.al_above] at e
          cases e
        rw [if_neg e1, gg g, if_pos rfl, if_pos rfl]
        rcases hb with rfl | hb
        . rw [if_pos rfl, if_pos rfl]; omega
        . have : b ≠ a := λ e => hal (e ▸ hb)
          rw [if_neg this, if_neg this, if_pos hb]; omega
      . have e1 : cH ps a b = .ac a := by unfold cH; rw [if_pos hn2]
        have nal : a ≠ al := λ e => g.al_above (e ▸ hn2)
        have e2 : (Sm.ac a : Sm S) ≠ upS al ps a b := λ e => by
          unfold upS at e
          split at e
          . cases e
          . cases e; exact nal rfl
        rw [e1, if_pos rfl, if_neg e2, if_neg nal]
        rcases hb with rfl | hb
        . rw [if_pos rfl, if_pos rfl]; omega
        . have : b ≠ al := λ e => hal (e ▸ hb)
          rw [if_neg this, if_neg this, if_pos hb]; omega
    . rw [if_neg ean]
      have e1 : (Sm.ac n : Sm S) ≠ cH ps a b := λ e => by
        unfold cH at e
        split at e
        . cases e; exact ean rfl
        . cases e
      have e2 : (Sm.ac n : Sm S) ≠ upS al ps a b := λ e => by
        rcases fU g ha with rfl | ⟨k, hk⟩
        . rw [gg g] at e; cases e; exact ean rfl
        . rw [gf g hk] at e; cases e
      rw [if_neg e1, if_neg e2]; split <;> omega
def cnt (al : S) (ps : List (S × S)) (cs : List S) (L : List (Sm S)) (a b : S) : Int := sg L λ one => tot (dW al ps cs one) a b
theorem cnt_ends (g : Gd al ps) (hc : (cs ++ [al]).Nodup) {a b : S} (ha : a = al \/ a ∈ ps.map (·.1)) (hb : b = al \/ b ∈ cs) {L : List (Sm S)} (hL : ∀ one ∈ L, IsSm al ps cs one) :
    cnt al ps cs L a b = (if b = al then -1 else 1) * ((sg L λ one => if one = cH ps a b then 1 else 0) - (sg L λ one => if one = upS al ps a b then 1 else 0)) := by
  unfold cnt
  rw [ba λ one h => iM g hc ha hb (hL one h), eE]
  congr 1
  have := iK L (λ one => (if one = cH ps a b then (1 : Int) else 0)) (λ one => -1 * (if one = upS al ps a b then (1 : Int) else 0))
  rw [eE] at this
  have e : (λ one : Sm S => (if one = cH ps a b then (1 : Int) else 0) - if one = upS al ps a b then 1 else 0) = λ one => (if one = cH ps a b then (1 : Int) else 0) + -1 * (if one = upS al ps a b then (1 : Int) else 0) := by
    funext one; omega
  rw [e, this]; omega
theorem jC [DecidableEq α] {l : List α} (hd : l.Nodup) (a : α) : (sg l λ x => if x = a then 1 else 0) = 0 \/ (sg l λ x => if x = a then 1 else 0) = 1 := by
  by_cases h : a ∈ l
  . exact .inr (iL hd h 1)
  . exact .inl (gQ h 1)
theorem qk (g : Gd al ps) (hc : (cs ++ [al]).Nodup) {a b : S} (ha : a = al \/ a ∈ ps.map (·.1)) (hb : b = al \/ b ∈ cs) {L : List (Sm S)} (hL : ∀ one ∈ L, IsSm al ps cs one) (nd : L.Nodup) :
    cnt al ps cs L a b = 0 \/ cnt al ps cs L a b = 1 \/ cnt al ps cs L a b = -1 := by
  rw [cnt_ends g hc ha hb hL]
  rcases jC nd (cH ps a b) with h1 | h1 <;> rcases jC nd (upS al ps a b) with h2 | h2 <;> rw [h1, h2] <;> split <;> omega
def iN (cs : List S) (N : S -> S -> Int) (q : S × S) : S -> S -> Int := λ a c => if a = q.2 /\ c ∈ cs then N a c + N q.1 c else N a c
def upT (cs : List S) (N : S -> S -> Int) (ps : List (S × S)) : S -> S -> Int := ps.foldr (λ q M => iN cs M q) N
def Fwd : List (S × S) -> Prop
  | [] => True
  | q :: r => q.2 ∉ (q :: r).map (·.1) /\ Fwd r
theorem Gd.fwd_of (g : Gd al ps) : ∀ (pre r : List (S × S)), pre ++ r = ps -> Fwd r
  | _, [], _ => trivial
  | pre, q :: r, e => by
    refine ⟨λ h => ?_, g.fwd_of (pre ++ [q]) r (by simp [e])⟩
    have hq : ps[pre.length]? = some q := by rw [<- e]; simp
    have nd := List.nodup_cons.mp g.nd
    rw [<- e, List.map_append] at nd
    rcases g.abv _ _ hq with h2 | h2
    . exact nd.1 (h2 ▸ List.mem_append_right _ h)
    . rw [<- e, List.take_left' rfl] at h2
      exact (List.nodup_append.mp nd.2).2.2 _ h2 _ h rfl
theorem Gd.fwd (g : Gd al ps) : Fwd ps := g.fwd_of [] ps rfl
theorem bel_cons (q : S × S) (r : List (S × S)) (n : S) : bel (q :: r) n = if q.2 = n then q.1 :: bel r n else bel r n := by
  unfold bel
  rw [List.filter_cons]
  by_cases h : q.2 = n <;> simp [h]
theorem up_inv {cs : List S} {N : S -> S -> Int} : ∀ {r : List (S × S)}, Fwd r -> ∀ n, ∀ c ∈ cs, upT cs N r n c = N n c + sg (bel r n) λ m => upT cs N r m c
  | [], _, n, c, _ => by simp [upT, bel, sg]
  | q :: r, h, n, c, hc => by
    have ih := up_inv (cs := cs) (N := N) h.2
    have hx : q.1 ≠ q.2 := λ e => h.1 (by rw [<- e]; simp)
    have hr : ∀ m, m ∈ r.map (·.1) -> m ≠ q.2 := λ m hm e => h.1 (by rw [<- e]; exact List.mem_cons_of_mem _ hm)
    have eU : ∀ m, m ≠ q.2 -> upT cs N (q :: r) m c = upT cs N r m c := λ m hm => by
      show iN cs (upT cs N r) q m c = _
      unfold iN
      rw [if_neg λ z => hm z.1]
    have eS : ∀ k, sg (bel r k) (λ m => upT cs N (q :: r) m c) = sg (bel r k) λ m => upT cs N r m c := λ k => ba λ m hm => eU m (hr m (List.mem_map.mpr ⟨_, mem_bel.mp hm, rfl⟩))
    rw [bel_cons]
    by_cases hn : q.2 = n
    . subst hn
      rw [if_pos rfl]
      simp only [sg]
      rw [eS, eU _ hx]
      show iN cs (upT cs N r) q q.2 c = _
      unfold iN
      rw [if_pos ⟨rfl, hc⟩, ih _ c hc]; omega
    . rw [if_neg hn, eS, eU n (Ne.symm hn), ih n c hc]
def cI (al : S) (cs : List S) (U : S -> S -> Int) (p : S × S) : Int := if p.2 = al then sg cs λ c => U p.1 c else U p.1 p.2
theorem qm (g : Gd al ps) (hc : (cs ++ [al]).Nodup) {N : S -> S -> Int} (hN : ∀ n c, bel ps n ≠ [] -> N n c = 0) {one : Sm S} (h1 : IsSm al ps cs one) :
    sg (dW al ps cs one) (λ p => p.2 * cI al cs (upT cs N ps) p.1) = 0 := by
  have hal : ∀ c ∈ cs, c ≠ al := λ c h e => by
    rw [List.nodup_append] at hc
    exact hc.2.2 _ h _ (by simp) e
  have hU : ∀ n, bel ps n ≠ [] -> ∀ c ∈ cs, upT cs N ps n c = sg (bel ps n) λ m => upT cs N ps m c := λ n hn c hc => by
    have h := up_inv (N := N) g.fwd n c hc
    rw [hN n c hn] at h
    omega
  generalize upT cs N ps = U at *
  cases h1 with
  | dn n c hn hb hcc =>
    unfold dW
    simp only [sg]
    rw [ky, eE]
    have key : cI al cs U (n, c) = sg (bel ps n) λ m => cI al cs U (m, c) := by
      unfold cI
      simp only
      rcases hcc with rfl | hcc
      . simp only [if_pos]
        rw [oo]
        exact ba λ d hd => hU n hb d hd
      . simp only [if_neg (hal c hcc)]
        exact hU n hb c hcc
    rw [key, Int.neg_mul]
    exact Int.add_right_neg _
  | ac n hn =>
    unfold dW
    simp only [sg]
    rw [ky, eE]
    have key : cI al cs U (n, al) = sg cs λ c => cI al cs U (n, c) := by
      unfold cI
      simp only [if_pos]
      exact ba λ d hd => by rw [if_neg (hal d hd)]
    rw [key, Int.neg_mul]
    exact Int.add_right_neg _
theorem sg_at {P : List (S × S)} (hd : P.Nodup) {p : S × S} (hp : p ∈ P) (k : Int) (T : S × S -> Int) : sg P (λ pl => (if p = (pl.1, pl.2) then k else 0) * T pl) = k * T p := by
  have e : (λ pl : S × S => (if p = (pl.1, pl.2) then k else 0) * T pl) = λ pl => if pl = p then k * T p else 0 := by
    funext pl
    by_cases h : pl = p
    . subst h; simp
    . rw [if_neg h, if_neg (λ z => h (by rw [z])), Int.zero_mul]
  rw [e, iL hd hp]
theorem oq {P : List (S × S)} (hd : P.Nodup) (T : S × S -> Int) : ∀ {l : List ((S × S) × Int)}, (∀ p ∈ l, p.1 ∈ P) -> sg P (λ pl => tot l pl.1 pl.2 * T pl) = sg l λ p => p.2 * T p.1
  | [], _ => bR λ _ _ => by simp [tot, sg]
  | p :: l, h => by
    have ih := oq hd T (l := l) λ q hq => h q (List.mem_cons_of_mem _ hq)
    simp only [sg]
    rw [<- ih, <- sg_at hd (h p (by simp)) p.2 T, <- iK]
    refine ba λ pl _ => ?_
    show (_ + _) * _ = _
    rw [Int.add_mul]
    rfl
theorem kz (g : Gd al ps) {one : Sm S} (h1 : IsSm al ps cs one) {p : (S × S) × Int} (hp : p ∈ dW al ps cs one) : (p.1.1 = al \/ p.1.1 ∈ ps.map (·.1)) /\ (p.1.2 = al \/ p.1.2 ∈ cs) := by
  cases h1 with
  | dn n c hn hb hcc =>
    rcases List.mem_cons.mp hp with rfl | hp
    . exact ⟨hn, hcc⟩
    . obtain ⟨m, hm, rfl⟩ := List.mem_map.mp hp
      exact ⟨.inr (List.mem_map.mpr ⟨_, mem_bel.mp hm, rfl⟩), hcc⟩
  | ac n hn =>
    have hn' : n = al \/ n ∈ ps.map (·.1) := hn.imp id λ h => h.1
    rcases List.mem_cons.mp hp with rfl | hp
    . exact ⟨hn', .inl rfl⟩
    . obtain ⟨c, hc, rfl⟩ := List.mem_map.mp hp
      exact ⟨hn', .inr hc⟩
theorem mR (g : Gd al ps) (hc : (cs ++ [al]).Nodup) {N : S -> S -> Int} (hN : ∀ n c, bel ps n ≠ [] -> N n c = 0) {P : List (S × S)} (hd : P.Nodup) (hP : ∀ a b, (a = al \/ a ∈ ps.map (·.1)) -> (b = al \/ b ∈ cs) -> (a, b) ∈ P) {L : List (Sm S)} (hL : ∀ one ∈ L, IsSm al ps cs one) :
    sg P (λ pl => cnt al ps cs L pl.1 pl.2 * cI al cs (upT cs N ps) pl) = 0 := by
  generalize hT : cI al cs (upT cs N ps) = T
  have e : ∀ pl, cnt al ps cs L pl.1 pl.2 * T pl = sg L λ one => tot (dW al ps cs one) pl.1 pl.2 * T pl := λ pl => by
    unfold cnt
    rw [Int.mul_comm, <- eE]
    exact ba λ one _ => Int.mul_comm _ _
  rw [ba λ pl _ => e pl, oo]
  refine bR λ one h1 => ?_
  rw [oq hd T λ p hp => hP _ _ (kz g (hL one h1) hp).1 (kz g (hL one h1) hp).2, <- hT]
  exact qm g hc hN (hL one h1)
end
end A
end Tv
namespace Tv
namespace A
theorem jD {α : Type} {l : List α} {f : α -> Int} (h : ∀ x ∈ l, 0 <= f x) : 0 <= sg l f := by
  induction l with
  | nil => exact Int.le_refl 0
  | cons x r ih =>
    have h1 := h x (by simp)
    have h2 := ih λ y hy => h y (by simp [hy])
    simp only [sg]
    omega
section
variable {S : Type} [BEq S] [LawfulBEq S] [DecidableEq S]
theorem mS {P : List (S × S)} (hd : P.Nodup) {f T : S × S -> Int} (h0 : sg P (λ q => f q * T q) = 0) (hT : ∀ q ∈ P, 0 <= T q) {p : S × S} (hp : p ∈ P) (hf : f p = 1 \/ f p = -1) {kn : S × S -> Bool} (hk : kn p = false) {l : Int}
    (ho : ∀ q ∈ P, q ≠ p -> kn q = false -> f q = 0 \/ f q = f p * l) :
    (l = 1 -> T p <= -(f p) * sg P λ q => if kn q = true then f q * T q else 0) /\ (l = -1 -> (-(f p) * sg P λ q => if kn q = true then f q * T q else 0) <= T p) := by
  have hff : f p * f p = 1 := by rcases hf with h | h <;> rw [h] <;> rfl
  have key : T p + f p * (sg P λ q => if kn q = true then f q * T q else 0) + (sg P λ q => if q ≠ p /\ kn q = false then f p * (f q * T q) else 0) = 0 := by
    have e : sg P (λ q => f p * (f q * T q)) = 0 := by rw [eE, h0, Int.mul_zero]
    have e2 : ∀ q ∈ P, f p * (f q * T q) = ((if q = p then T p else 0) + f p * (if kn q = true then f q * T q else 0)) + (if q ≠ p /\ kn q = false then f p * (f q * T q) else 0) := λ q _ => by
      by_cases e : q = p
      . subst e
        simp only [hk, if_true, ne_eq, not_true, false_and, if_false, Bool.false_eq_true, Int.mul_zero, Int.add_zero]
        rw [<- Int.mul_assoc, hff, Int.one_mul]
      . cases hq : kn q with
        | true => simp [e]
        | false => simp [e]
    rw [ba e2, iK, iK, iL hd hp, eE] at e
    exact e
  generalize (sg P λ q => if kn q = true then f q * T q else 0) = tt at *
  have r : ∀ q ∈ P, (if q ≠ p /\ kn q = false then f p * (f q * T q) else 0) = l * (if (q ≠ p /\ kn q = false) /\ f q ≠ 0 then T q else 0) := λ q hq => by
    by_cases c : q ≠ p /\ kn q = false
    . rw [if_pos c]
      rcases ho q hq c.1 c.2 with h | h
      . rw [if_neg (λ z => z.2 h), h]; simp
      . by_cases z : f q = 0
        . rw [if_neg (λ y => y.2 z), z]; simp
        . rw [if_pos ⟨c, z⟩, h, <- Int.mul_assoc, <- Int.mul_assoc, hff, Int.one_mul]
    . rw [if_neg c, if_neg (λ z => c z.1), Int.mul_zero]
  rw [ba r, eE] at key
  have rn : 0 <= sg P λ q => if (q ≠ p /\ kn q = false) /\ f q ≠ 0 then T q else 0 := jD λ q hq => by
    split
    . exact hT q hq
    . exact Int.le_refl 0
  generalize (sg P λ q => if (q ≠ p /\ kn q = false) /\ f q ≠ 0 then T q else 0) = R at *
  rw [Int.neg_mul]
  generalize f p * tt = u at *
  exact ⟨λ h => by subst h; omega, λ h => by subst h; omega⟩
variable {al : S} {ps : List (S × S)} {cs : List S}
theorem eV {N : S -> S -> Int} (h : ∀ a c, 0 <= N a c) : ∀ (r : List (S × S)) (a c : S), 0 <= upT cs N r a c
  | [], a, c => h a c
  | q :: r, a, c => by
    show 0 <= iN cs (upT cs N r) q a c
    unfold iN
    have h1 := eV h r a c
    have h2 := eV h r q.1 c
    split <;> omega
theorem iO {U : S -> S -> Int} (h : ∀ a c, 0 <= U a c) (p : S × S) : 0 <= cI al cs U p := by
  unfold cI
  split
  . exact jD λ c _ => h _ c
  . exact h _ _
end
end A
end Tv
namespace Tv
open PySem PySem.Spec PyProof.Rows L2
namespace S3
open Nu
def enc : A.Sm Str -> List Str
  | .dn n c => ["down", n, c]
  | .ac n => ["across", n]
def smL (ps : List (Str × Str)) (cs : List Str) : List (A.Sm Str) := (((("all" : Str) :: aa ps).filter λ n => !(av ps n).isEmpty).flatMap λ n => (cs ++ [("all" : Str)]).map λ c => A.Sm.dn n c) ++ ((("all" : Str) :: au ps).map A.Sm.ac)
theorem gh (ps : List (Str × Str)) (cs : List Str) : jB ps cs = (smL ps cs).map enc := by
  unfold jB smL eD mN
  rw [List.map_append, List.map_flatMap, List.map_map]
  congr 1
  refine congrArg (λ f => List.flatMap f _) (funext λ n => ?_)
  rw [List.map_map]
  rfl
theorem bel_eq (ps : List (Str × Str)) (n : Str) : A.bel ps n = av ps n := rfl
theorem Good.gd {ps : List (Str × Str)} (g : Good ps) : A.Gd ("all" : Str) ps := ⟨g.one, g.keys, g.abv⟩
theorem fV {cs : List Str} (h : Nms cs) : (cs ++ [("all" : Str)]).Nodup := by
  refine List.nodup_append.mpr ⟨h.2, by simp, λ a ha b hb e => ?_⟩
  rw [List.mem_singleton.mp hb] at e
  exact (bC (h.1 a ha)).2.2 e
theorem mem_smL {ps : List (Str × Str)} {cs : List Str} {one : A.Sm Str} : one ∈ smL ps cs ↔ A.IsSm ("all" : Str) ps cs one := by
  unfold smL
  rw [List.mem_append]
  constructor
  . rintro (h | h)
    . obtain ⟨n, hn, hl⟩ := List.mem_flatMap.mp h
      obtain ⟨c, hc, rfl⟩ := List.mem_map.mp hl
      obtain ⟨h1, h2⟩ := List.mem_filter.mp hn
      refine .dn n c (by simpa [aa] using h1) (λ e => ?_) ?_
      . rw [bel_eq] at e
        rw [e] at h2
        cases h2
      . rcases List.mem_append.mp hc with h | h
        . exact .inr h
        . exact .inl (List.mem_singleton.mp h)
    . obtain ⟨n, hn, rfl⟩ := List.mem_map.mp h
      refine .ac n ?_
      rcases List.mem_cons.mp hn with h | h
      . exact .inl h
      . obtain ⟨h1, h2⟩ := List.mem_filter.mp h
        exact .inr ⟨h1, List.isEmpty_iff.mp h2⟩
  . intro h
    cases h with
    | dn n c hn hb hc =>
      refine .inl (List.mem_flatMap.mpr ⟨n, List.mem_filter.mpr ⟨by simpa [aa] using hn, ?_⟩, List.mem_map.mpr ⟨c, ?_, rfl⟩⟩)
      . cases e : av ps n with
        | nil => exact (hb e).elim
        | cons => rfl
      . rcases hc with h | h
        . simp [h]
        . simp [h]
    | ac n hn =>
      refine .inr (List.mem_map.mpr ⟨n, ?_, rfl⟩)
      rcases hn with h | ⟨h1, h2⟩
      . simp [h]
      . exact List.mem_cons_of_mem _ (List.mem_filter.mpr ⟨h1, List.isEmpty_iff.mpr h2⟩)
theorem smL_len {ps : List (Str × Str)} {cs : List Str} (g : Good ps) (h8 : cs.length <= 8) : (smL ps cs).length <= 300 := by
  have e : (smL ps cs).length = (jB ps cs).length := by rw [gh, List.length_map]
  have g2 := g.many
  rw [e]
  unfold jB mN
  rw [List.length_append, List.length_map]
  have h1 := dh ps cs ("all" :: aa ps)
  have h2 : (("all" : Str) :: aa ps).length * (cs.length + 1) <= 25 * 9 := Nat.mul_le_mul (by simp [aa]; omega) (by omega)
  have h3 := fS (ps := ps)
  simp only [List.length_cons] at h1 h2 ⊢
  omega
theorem enc_is {ps : List (Str × Str)} {cs : List Str} {one : A.Sm Str} (h : A.IsSm ("all" : Str) ps cs one) : SumIs ps (enc one) := by
  cases h with
  | dn n c hn hb hc => exact .down n c (List.mem_cons.mpr hn)
  | ac n hn => exact .across n
def gkv (p : (Str × Str) × Int) : List Key × V := (plK p.1.1 p.1.2, .int p.2)
abbrev giv (ps : List (Str × Str)) (cs : List Str) (one : A.Sm Str) : List ((Str × Str) × Int) := A.dW ("all" : Str) ps cs one
def sg1 : A.Sm Str -> Int
  | .dn _ c => if c = "all" then -1 else 1
  | .ac n => if n = "all" then 1 else -1
def dv : Sp := λ vs H Q _ => ∃ (t : Addr) (one : A.Sm Str), vs = [.ref t] /\ H t = some (.tup (sts (enc one))) /\ Q (.int (sg1 one)) H
def jE : TS :=
  (ad (sIf (bT (tOp eqG (tOp aw (gv 0) (tC (.int 0))) (tC (.str "down"))))
    (aD (tIfG (bT (tOp eqG (tOp aw (gv 0) (tC (.int 2))) (tC (.str "all")))) (tUn i7 (tC (.int 1))) (tC (.int 1))))
    ay)
  (aD (tIfG (bT (tOp eqG (tOp aw (gv 0) (tC (.int 1))) (tC (.str "all")))) (tC (.int 1)) (tUn i7 (tC (.int 1))))))
theorem qo {t : Addr} {one : A.Sm Str} {H : Hp} {D : Ends} (ht : H t = some (.tup (sts (enc one)))) (q : D.rt (.int (sg1 one)) H) : jE D [some (.ref t)] H := by
  cases one with
  | dn n c =>
    refine aA ht (v := .str "down") rfl (bO rfl (aA ht (v := .str c) rfl ?_))
    have q : D.rt (.int (if c = "all" then -1 else 1)) H := q
    refine aR (λ b => ?_) (λ b => ?_)
    . have b : (c == ("all" : Str)) = true := b
      rw [if_pos (eq_of_beq b)] at q
      exact q
    . have b : (c == ("all" : Str)) = false := b
      rw [if_neg (beq_eq_false_iff_ne.mp b)] at q
      exact q
  | ac n =>
    refine aA ht (v := .str "across") rfl (bb (by decide +kernel) (aA ht (v := .str n) rfl ?_))
    have q : D.rt (.int (if n = "all" then 1 else -1)) H := q
    refine aR (λ b => ?_) (λ b => ?_)
    . have b : (n == ("all" : Str)) = true := b
      rw [if_pos (eq_of_beq b)] at q
      exact q
    . have b : (n == ("all" : Str)) = false := b
      rw [if_neg (beq_eq_false_iff_ne.mp b)] at q
      exact q
theorem PrsL.put {H : Hp} {kvs : List (List Key × V)} {xs ys : List V} {p : Addr} {o : HO} (h : PrsL H kvs xs) (hp : H p = some (.lst ys)) : PrsL (upd H p o) kvs xs := by
  induction h with
  | nil => exact .nil
  | cons h t ih =>
    obtain ⟨a, b, rfl, h1, h2⟩ := h
    exact .cons ⟨a, b, rfl, by rw [a4 (λ z => by rw [z, hp] at h1; cases h1)]; exact h1, by rw [a4 (λ z => by rw [z, hp] at h2; cases h2)]; exact h2⟩ ih
theorem PrsL.putD {H : Hp} {kvs : List (List Key × V)} {xs : List V} {p : Addr} {o : HO} {d : List (List Key × V)} (h : PrsL H kvs xs) (hp : H p = some (.dT d)) : PrsL (upd H p o) kvs xs := by
  induction h with
  | nil => exact .nil
  | cons h t ih =>
    obtain ⟨a, b, rfl, h1, h2⟩ := h
    exact .cons ⟨a, b, rfl, by rw [a4 (λ z => by rw [z, hp] at h1; cases h1)]; exact h1, by rw [a4 (λ z => by rw [z, hp] at h2; cases h2)]; exact h2⟩ ih
theorem PrsL.snoc {H : Hp} {kvs : List (List Key × V)} {xs : List V} {kv : List Key × V} {x : V} (h : PrsL H kvs xs) (k : PrAt H kv x) : PrsL H (kvs ++ [kv]) (xs ++ [x]) := by
  induction h with
  | nil => exact .cons k .nil
  | cons h t ih => exact .cons h ih
theorem PrsL.len {H : Hp} {kvs : List (List Key × V)} {xs : List V} (h : PrsL H kvs xs) : xs.length = kvs.length := by
  induction h with
  | nil => rfl
  | cons h t ih => simp [ih]
theorem PrsL.get {H : Hp} {kvs : List (List Key × V)} {xs : List V} (h : PrsL H kvs xs) : ∀ {i : Nat} {x : V}, xs[i]? = some x -> ∃ kv, kvs[i]? = some kv /\ PrAt H kv x := by
  induction h with
  | nil => intro i x e; simp at e
  | cons h t ih =>
    intro i x e
    cases i with
    | zero =>
      simp at e
      subst e
      exact ⟨_, rfl, h⟩
    | succ i => exact ih (by simpa using e)
theorem comp_prs {a : Addr} {ys : List V} (f : V -> Option (List Key × V)) {tn : List Str} {fr : List (Str × Nat)} {g : TG} {tt : TT} {te : TE} {σ : St} {H : Hp} {Q : VK} (ha : H a = some (.lst ys)) (hz : ys.length < sizeLine)
    (turn : ∀ (i : Nat) (x : V), ys[i]? = some x -> ∀ (G : Hp) (k : VK) (B : Hp -> Prop), Same H G -> (∀ kv, f x = some kv -> ∀ z G', Same G G' -> PrAt G' kv z -> k z G') -> (f x = none -> B G) -> g x (inn tn fr σ) G λ σ2 G2 => tt σ2 G2 λ b G3 => br b (te σ2 G3 k) (B G3))
    (fin : ∀ p zs G, H p = none -> Same H G -> G p = some (.lst zs) -> PrsL G (ys.filterMap f) zs -> Q (.ref p) G) : bF (gE a) tn fr g tt te σ H Q := by
  unfold bF
  intro p hp
  refine ⟨λ i m G => m = ys.length - i /\ i <= ys.length /\ Same H G /\ ∃ zs, G p = some (.lst zs) /\ PrsL G ((ys.take i).filterMap f) zs, ⟨_, rfl, Nat.zero_le _, bw hp, [], a5, .nil⟩, ?_⟩
  rintro i m G ⟨rfl, hi, sm, zs, hg, pz⟩
  have hy := sm _ _ ha
  by_cases hlt : i < ys.length
  . refine .inr ⟨⟨ys, ys[i], .inl hy, by simp [hlt]⟩, λ G' => Same H G' /\ ∃ zs, G' p = some (.lst zs) /\ PrsL G' ((ys.take (i + 1)).filterMap f) zs, λ G' h => ⟨_, by omega, rfl, hlt, h⟩, λ x G' y => ?_⟩
    obtain ⟨rfl, y⟩ := y
    have hx := y ys (.inl hy)
    refine turn i x hx _ _ _ sm (λ kv hl z G2 s2 t2 => ⟨zs, s2 _ _ hg, ?_, (sm.trans s2).put hp, _, a5, ?_⟩) (λ hn => ⟨sm, zs, hg, ?_⟩)
    . rw [PrsL.len pz]
      have := List.length_filterMap_le f (ys.take i)
      have h2 := List.length_take_le i ys
      omega
    . rw [ab hx, List.filterMap_append, List.filterMap_cons, hl]
      exact PrsL.put (PrsL.snoc (Nu.PrsL.same pz s2) t2) (s2 _ _ hg)
    . rw [ab hx, List.filterMap_append, List.filterMap_cons, hn]
      simpa using pz
  . have e : i = ys.length := by omega
    subst e
    rw [List.take_length] at pz
    exact .inl ⟨⟨ys, .inl hy, Nat.le_refl _⟩, fin p zs G hp sm hg pz⟩
def plF (H : Hp) (h : Str -> Str -> Option V) : V -> Option (List Key × V)
  | .ref u => match H u with
    | some (.tup [.str a, .str b]) => (h a b).map λ v => (plK a b, v)
    | _ => none
  | _ => none
theorem plF_at {H : Hp} {h : Str -> Str -> Option V} {u : Addr} {a b : Str} (e : H u = some (.tup [.str a, .str b])) : plF H h (.ref u) = (h a b).map λ v => (plK a b, v) := by
  unfold plF
  simp only [e]
theorem ox {H : Hp} {h : Str -> Str -> Option V} : ∀ {ys : List V} {ps : List (Str × Str)}, PairsAt H ys ps -> ys.filterMap (plF H h) = ps.filterMap λ p => (h p.1 p.2).map λ v => (plK p.1 p.2, v)
  | [], [], _ => rfl
  | [], _ :: _, h => by have := h.1; simp at this
  | _ :: _, [], h => by have := h.1; simp at this
  | y :: ys, p :: ps, k => by
    obtain ⟨t, e1, e2⟩ := k.2 0 p rfl
    simp at e1
    subst e1
    have ih := ox (h := h) (ys := ys) (ps := ps) ⟨by have := k.1; simpa using this, λ i r hr => by
      obtain ⟨u, u1, u2⟩ := k.2 (i + 1) r (by simpa using hr)
      exact ⟨u, by simpa using u1, u2⟩⟩
    rw [List.filterMap_cons, List.filterMap_cons, plF_at e2, ih]
theorem pairs_of {H : Hp} {zs : List V} {ps : List (Str × Str)} (h : TupsAt H zs (ps.map λ p => [p.1, p.2])) : PairsAt H zs ps := ⟨by rw [h.1, List.length_map], λ i p e => by
  obtain ⟨t, h1, h2⟩ := h.2 i [p.1, p.2] (by rw [List.getElem?_map, e]; rfl)
  exact ⟨t, h1, h2⟩⟩
def othP (ps : List (Str × Str)) (cs : List Str) : A.Sm Str -> List (Str × Str)
  | .dn n c => (av ps n).map λ m => (m, c)
  | .ac n => cs.map λ c => (n, c)
def whP : A.Sm Str -> Str × Str
  | .dn n c => (n, c)
  | .ac n => (n, "all")
theorem othL_eq (ps : List (Str × Str)) (cs : List Str) (one : A.Sm Str) : ku ps cs (enc one) = (othP ps cs one).map λ p => [p.1, p.2] := by
  cases one <;> (unfold othP; rw [List.map_map]; rfl)
theorem giv_kv (ps : List (Str × Str)) (cs : List Str) (one : A.Sm Str) : (giv ps cs one).map gkv = (plK (whP one).1 (whP one).2, .int (sg1 one)) :: (othP ps cs one).filterMap λ p => (some (V.int (-(sg1 one)))).map λ v => (plK p.1 p.2, v) := by
  have fm : ∀ (l : List (Str × Str)) (v : V), (l.filterMap λ p => (some v).map λ v => (plK p.1 p.2, v)) = l.map λ p => (plK p.1 p.2, v) := λ l v => by
    induction l with
    | nil => rfl
    | cons x r ih => rw [List.filterMap_cons, List.map_cons, <- ih]; rfl
  rw [fm]
  cases one <;> (unfold othP; rw [List.map_map]; show _ :: List.map gkv (List.map _ _) = _; rw [List.map_map]; rfl)
section
variable {cl : Addr}
def cR (cl : Addr) : Sp := λ vs H Q _ => ∃ (x t : Addr) (ps : List (Str × Str)) (cs : List Str) (one : A.Sm Str), vs = [.ref x, .ref t] /\ HouseAt cl H x ps cs /\ H t = some (.tup (sts (enc one))) /\ A.IsSm ("all" : Str) ps cs one /\ ∀ p zs H', Same H H' -> H p = none -> H' p = some (.lst zs) -> PrsL H' ((giv ps cs one).map gkv) zs -> Q (.ref p) H'
def iP (cl : Addr) : TS :=
  (ad (ah (am dv [] E0 (a3 (gv 1) a8)) (a6 2))
  (aD (tOp aT (aH (a3 (bf (a3 (am cQ [] E0 (a3 (gv 0) (a3 (gv 1) a8))) (a3 (gv 2) a8))) a8)) (aZ (iOf aq (am (cb cl) [] E0 (a3 (gv 0) (a3 (gv 1) a8)))) ["place"] [("sign", 2)] (a6 0) gF (bf (a3 (gv 0) (a3 (tUn i7 (gv 1)) a8)))))))
theorem mT {x t : Addr} {ps : List (Str × Str)} {cs : List Str} {one : A.Sm Str} {H : Hp} {D : Ends} (hh : HouseAt cl H x ps cs) (ht : H t = some (.tup (sts (enc one)))) (h1 : A.IsSm ("all" : Str) ps cs one)
    (q : ∀ p zs H', Same H H' -> H p = none -> H' p = some (.lst zs) -> PrsL H' ((giv ps cs one).map gkv) zs -> D.rt (.ref p) H') : iP cl D [some (.ref x), some (.ref t), none] H := by
  have hs := sz
  have hl := enc_is h1
  have g2 := hh.good.many
  have h8 := hh.many
  refine ⟨t, one, rfl, ht, ?_⟩
  refine ⟨.ref x, t, ps, enc one, rfl, ht, hl, λ pwh G1 s1 n1 t1 => ⟨few rfl, af λ p2 G2 n2 s2 t2 => ⟨few rfl, af λ p3 G3 n3 s3 t3 => ?_⟩⟩⟩
  have s13 := s1.trans (s2.trans s3)
  refine bI ⟨x, t, ps, cs, enc one, rfl, hh.same s13, s13 _ _ ht, hl, λ po zs G4 s4 n4 t4 pz => ?_⟩
  rw [othL_eq] at pz
  have pp := pairs_of pz
  have lz : zs.length <= 24 := by
    rw [pp.1]
    cases one with
    | dn n c => show (List.map _ _).length <= _; rw [List.length_map]; exact Nat.le_trans (df ps n) g2
    | ac n => show (List.map _ _).length <= _; rw [List.length_map]; omega
  refine aj t4 (comp_prs (plF G4 λ _ _ => some (.int (-(sg1 one)))) t4 (by omega) ?_ ?_)
  . intro i z hz G k B sm hk _
    obtain ⟨r, u, hr, rfl, hu⟩ := pp.at hz
    refine bO rfl ⟨few rfl, af λ p5 G5 n5 s5 t5 => hk _ (plF_at hu) _ G5 s5 ⟨p5, u, rfl, t5, s5 _ _ (sm _ _ hu)⟩⟩
  intro pc ws G5 n5 s5 t5 pw
  rw [ox pp] at pw
  have s35 := s4.trans s5
  refine cZ (s35 _ _ t3) t5 ?_ (af λ p6 G6 n6 s6 t6 => ?_)
  . have := PrsL.len pw
    have h2 := List.length_filterMap_le (λ p : Str × Str => (some (V.int (-(sg1 one)))).map λ v => (plK p.1 p.2, v)) (othP ps cs one)
    have h3 := pp.1
    show 1 + ws.length <= _
    omega
  have s36 := s35.trans s6
  refine q p6 _ G6 (s13.trans s36) (bK (s13.trans s35) n6) t6 ?_
  rw [giv_kv]
  refine .cons ⟨p2, pwh, rfl, s36 _ _ (s3 _ _ t2), ?_⟩ (Nu.PrsL.same pw s6)
  have t1' := s36 _ _ (s3 _ _ (s2 _ _ t1))
  cases one <;> exact t1'
end
end S3
end Tv
namespace Tv
open PySem PySem.Spec PyProof.Rows L2
namespace S3
open Nu
def CntD (kvs : List (List Key × V)) (f : Str -> Str -> Int) : Prop := ∀ a b, (ak kvs (plK a b)).getD (.int 0) = .int (f a b)
theorem CntD.nil : CntD [] λ _ _ => 0 := λ _ _ => rfl
theorem CntD.put {kvs : List (List Key × V)} {f : Str -> Str -> Int} (h : CntD kvs f) (a b : Str) (k : Int) : CntD (b8 kvs (plK a b) (.int (f a b + k))) λ c d => f c d + if (a, b) = (c, d) then k else 0 := λ c d => by
  rw [fC]
  show _ = V.int (f c d + if (a, b) = (c, d) then k else 0)
  by_cases e : (a, b) = (c, d)
  . cases e
    rw [if_pos rfl, if_pos rfl]
    rfl
  . rw [if_neg (λ z => e (by obtain ⟨h1, h2⟩ := cr z; rw [h1, h2])), if_neg e, Int.add_zero]
    exact h c d
theorem CntD.get {kvs : List (List Key × V)} {f : Str -> Str -> Int} (h : CntD kvs f) {a b : Str} (hn : f a b ≠ 0) : ak kvs (plK a b) = some (.int (f a b)) := by
  have := h a b
  cases e : ak kvs (plK a b) with
  | none =>
    rw [e] at this
    injection this with this
    exact (hn this.symm).elim
  | some v =>
    rw [e] at this
    rw [show v = .int (f a b) from this]
theorem lO {d p : Addr} {a b : Str} {z : V} {kvs : List (List Key × V)} {Q : VK} {H : Hp} (h : H d = some (.dT kvs)) (hp : H p = some (.tup [.str a, .str b])) (q : Q ((ak kvs (plK a b)).getD z) H) : jt (.ref d) [.ref p, z] H Q := by
  unfold jt
  simp only [kr h hp]
  exact q
def kvL (f : Str -> Str -> Int) (P : List (Str × Str)) : List (List Key × V) := P.filterMap λ p => (if f p.1 p.2 = 0 then none else some (V.int (f p.1 p.2))).map λ v => (plK p.1 p.2, v)
theorem lP (f : Str -> Str -> Int) (P : List (Str × Str)) (p : Str × Str) : kvL f (P ++ [p]) = kvL f P ++ if f p.1 p.2 = 0 then [] else [(plK p.1 p.2, .int (f p.1 p.2))] := by
  unfold kvL
  rw [List.filterMap_append]
  congr 1
  by_cases h : f p.1 p.2 = 0
  . rw [if_pos h, List.filterMap_cons, if_pos h]
    rfl
  . rw [if_neg h, List.filterMap_cons, if_neg h]
    rfl
theorem kvL_len (f : Str -> Str -> Int) (P : List (Str × Str)) : (kvL f P).length <= P.length := List.length_filterMap_le ..
theorem oy {f : Str -> Str -> Int} {P : List (Str × Str)} {kv : List Key × V} (h : kv ∈ kvL f P) : ∃ p ∈ P, f p.1 p.2 ≠ 0 /\ kv = (plK p.1 p.2, .int (f p.1 p.2)) := by
  obtain ⟨p, hp, e⟩ := List.mem_filterMap.mp h
  by_cases h0 : f p.1 p.2 = 0
  . rw [if_pos h0] at e
    cases e
  . rw [if_neg h0] at e
    cases e
    exact ⟨p, hp, h0, rfl⟩
theorem iQ {kvs : List (List Key × V)} {k : List Key} (h : ∀ kv ∈ kvs, kv.1 ≠ k) : ak kvs k = none := by
  unfold ak
  rw [List.find?_eq_none.mpr λ kv hk => by simpa using h kv hk]
  rfl
theorem kvL_out {f : Str -> Str -> Int} {P : List (Str × Str)} {p : Str × Str} (h : p ∉ P) : ak (kvL f P) (plK p.1 p.2) = none := iQ λ kv hk e => by
  obtain ⟨r, hr, _, rfl⟩ := oy hk
  obtain ⟨h1, h2⟩ := cr e
  exact h (by rw [<- Prod.eta p, <- h1, <- h2]; exact hr)
theorem lQ {ps : List (Str × Str)} {cs : List Str} (g : Good ps) (hc : Nms cs) : (aS ("all" :: aa ps) (cs ++ [("all" : Str)])).Nodup := by
  refine List.pairwise_flatMap.mpr ⟨λ n _ => List.pairwise_map.mpr ((fV hc).imp λ h e => h (by cases e; rfl)), ?_⟩
  refine List.Pairwise.imp (λ h x hx y hy e => ?_) (show (("all" : Str) :: aa ps).Nodup from g.keys)
  obtain ⟨_, _, rfl⟩ := List.mem_map.mp hx
  obtain ⟨_, _, rfl⟩ := List.mem_map.mp hy
  cases e
  exact h rfl
theorem gi {ps : List (Str × Str)} {cs : List Str} (g : Good ps) (h8 : cs.length <= 8) : (aS ("all" :: aa ps) (cs ++ [("all" : Str)])).length <= 225 := by
  have g2 := g.many
  rw [eO]
  refine Nat.le_trans (Nat.mul_le_mul (show (("all" : Str) :: aa ps).length <= 25 by simp [aa]; omega) (show (cs ++ [("all" : Str)]).length <= 9 by simp; omega)) (by decide)
abbrev d5 (ps : List (Str × Str)) (cs : List Str) (L : List (A.Sm Str)) : Str -> Str -> Int := A.cnt ("all" : Str) ps cs L
theorem oz {ps : List (Str × Str)} {cs : List Str} {one : A.Sm Str} (g : Good ps) (h8 : cs.length <= 8) : (giv ps cs one).length <= 25 := by
  have g2 := g.many
  cases one with
  | dn n c =>
    show ((av ps n).map _).length + 1 <= 25
    rw [List.length_map]
    have := df ps n
    omega
  | ac n =>
    show (cs.map _).length + 1 <= 25
    rw [List.length_map]
    omega
theorem tot_snoc (l : List ((Str × Str) × Int)) (p : (Str × Str) × Int) (a b : Str) : A.tot (l ++ [p]) a b = A.tot l a b + if p.1 = (a, b) then p.2 else 0 := by
  unfold A.tot
  rw [A.eR]
  simp [A.sg]
theorem cnt_snoc (ps : List (Str × Str)) (cs : List Str) (L : List (A.Sm Str)) (one : A.Sm Str) (a b : Str) : d5 ps cs (L ++ [one]) a b = d5 ps cs L a b + A.tot (giv ps cs one) a b := by
  show A.cnt _ _ _ _ _ _ = _
  unfold A.cnt
  rw [A.eR]
  simp [A.sg]
  rfl
section
variable {cl : Addr}
def fW (cl : Addr) : Sp := λ vs H Q _ => ∃ (x l : Addr) (zs : List V) (ps : List (Str × Str)) (cs : List Str) (L : List (A.Sm Str)), vs = [.ref x, .ref l] /\ HouseAt cl H x ps cs /\ H l = some (.lst zs) /\ TupsAt H zs (L.map enc) /\ (∀ one ∈ L, A.IsSm ("all" : Str) ps cs one) /\ L.length <= 300 ∧
  ∀ p H', Same H H' -> H p = none -> H' p = some (.dT (kvL (d5 ps cs L) (aS ("all" :: aa ps) (cs ++ [("all" : Str)])))) -> Q (.ref p) H'
def ta_two (cl : Addr) : TS :=
  (ad (ah fK (a6 6))
  (ad (aN (iOf aq (ee cl "places" (eQ cl) E0 (gv 0) a8)) (a6 4)
    (sIf (bT (tOp neG (cW "get" (gv 2) (a3 (gv 4) (a3 (tC (.int 0)) a8))) (tC (.int 0))))
      (ah (tOp aw (gv 2) (gv 4)) (dS (gv 6) (gv 4) bV))
      ay))
  (aD (gv 6))))
def oA (cl : Addr) : TS :=
  (ad (ah fK (a6 2))
  (ad (aN (iOf aq (gv 1)) (a6 3)
    (aN (iOf aq (am (cR cl) [] E0 (a3 (gv 0) (a3 (gv 3) a8)))) (cJ 2 (b5 (a6 4) (b5 (a6 5) fB)))
      (ah (tOp aT (cW "get" (gv 2) (a3 (gv 4) (a3 (tC (.int 0)) a8))) (gv 5)) (dS (gv 2) (gv 4) bV))))
  (ta_two cl)))
theorem r_two {x l pc : Addr} {u v w : Option V} {ps : List (Str × Str)} {cs : List Str} {f : Str -> Str -> Int} {kvs : List (List Key × V)} {H : Hp} {D : Ends} (hh : HouseAt cl H x ps cs) (hc : H pc = some (.dT kvs)) (hk : CntD kvs f)
    (q : ∀ p H', Same H H' -> H p = none -> H' p = some (.dT (kvL f (aS ("all" :: aa ps) (cs ++ [("all" : Str)])))) -> D.rt (.ref p) H') : ta_two cl D [some (.ref x), some (.ref l), some (.ref pc), u, v, w, none] H := by
  have hs := sz
  obtain ⟨_, _, _, _, dx, _, _, _, _, e1, _⟩ := id hh
  refine .inr (af λ pt G1 n1 s1 t1 => ?_)
  refine ap (ka (s1 _ _ e1) rfl ⟨x, ps, cs, rfl, hh.same s1, λ pp zs G2 s2 n2 t2 pz => ?_⟩)
  have pz : PairsAt G2 zs (aS ("all" :: aa ps) (cs ++ [("all" : Str)])) := pz
  have nd := lQ hh.good hh.nms
  have ln := gi hh.good hh.many
  generalize aS ("all" :: aa ps) (cs ++ [("all" : Str)]) = P at *
  have ntp : pp ≠ pt := λ z => by rw [z, t1] at n2; cases n2
  have ntc : pc ≠ pt := λ z => by rw [z, n1] at hc; cases hc
  refine aj t2 (ar (xs := zs) (λ i σ G => (Same H G /\ PairsAt G zs P /\ G pp = some (.lst zs)) /\ G pt = some (.dT (kvL f (P.take i))) /\ ∃ v, σ = [some (.ref x), some (.ref l), some (.ref pc), u, v, w, some (.ref pt)])
    ⟨⟨s1.trans s2, pz, t2⟩, s2 _ _ t1, _, rfl⟩ (λ i σ G _ h => h.1.2.2) ?_ ?_)
  . rintro i y σ G hy ⟨⟨sm, pz, hp⟩, hg, v, rfl⟩
    obtain ⟨r, t, hr, rfl, ht⟩ := pz.at hy
    have hc' := sm _ _ hc
    refine dget_i hc' (lO hc' ht ?_)
    rw [hk r.1 r.2]
    refine aR (λ b => ?_) (λ b => ?_)
    . have b : (!(f r.1 r.2 == 0)) = true := b
      have b : f r.1 r.2 ≠ 0 := by simpa using b
      have hi := (List.getElem?_eq_some_iff.mp hr).1
      refine b7 (.inl hc') ht (hk.get b) (bY hg ht ?_ ?_)
      . have := kvL_len f (P.take i)
        rw [List.length_take] at this
        omega
      . have out : r ∉ P.take i := λ m => by
          obtain ⟨j, hj⟩ := List.mem_iff_getElem?.mp m
          have hjl := (List.getElem?_eq_some_iff.mp hj).1
          rw [List.length_take] at hjl
          rw [List.getElem?_take_of_lt (by omega)] at hj
          have : j = i := (List.getElem?_inj (by omega) nd).mp (by rw [hj, hr])
          omega
        have ne : t ≠ pt := λ z => by rw [z, hg] at ht; cases ht
        refine ⟨⟨sm.put n1, ⟨pz.1, λ j p e => ?_⟩, by rw [a4 ntp]; exact hp⟩, ?_, _, rfl⟩
        . obtain ⟨t', h1, h2⟩ := pz.2 j p e
          exact ⟨t', h1, by rw [a4 (λ z => by rw [z, hg] at h2; cases h2)]; exact h2⟩
        . rw [a5, cm _ (kvL_out out), ab hr, lP, if_neg b]
    . have b : (!(f r.1 r.2 == 0)) = false := b
      have b : f r.1 r.2 = 0 := by simpa using b
      refine ⟨⟨sm, pz, hp⟩, ?_, _, rfl⟩
      rw [ab hr, lP, if_pos b, List.append_nil]
      exact hg
  . rintro σ G ⟨⟨sm, pz, hp⟩, hg, v, rfl⟩
    rw [pz.1, List.take_length] at hg
    exact q pt G sm n1 hg
theorem r_added {x l : Addr} {zs : List V} {ps : List (Str × Str)} {cs : List Str} {L : List (A.Sm Str)} {H : Hp} {D : Ends} (hh : HouseAt cl H x ps cs) (hl : H l = some (.lst zs)) (tz : TupsAt H zs (L.map enc)) (hL : ∀ one ∈ L, A.IsSm ("all" : Str) ps cs one) (hn : L.length <= 300)
    (q : ∀ p H', Same H H' -> H p = none -> H' p = some (.dT (kvL (d5 ps cs L) (aS ("all" :: aa ps) (cs ++ [("all" : Str)])))) -> D.rt (.ref p) H') : oA cl D [some (.ref x), some (.ref l), none, none, none, none, none] H := by
  have hs := sz
  refine .inr (af λ pc G1 n1 s1 t1 => ?_)
  have nlc : l ≠ pc := λ z => by rw [z, n1] at hl; cases hl
  refine ap (aj (s1 _ _ hl) (ar (xs := zs) (λ i σ G => Same H G /\ (∃ kvs, G pc = some (.dT kvs) /\ CntD kvs (d5 ps cs (L.take i)) /\ kvs.length <= 25 * i) /\ ∃ u v w, σ = [some (.ref x), some (.ref l), some (.ref pc), u, v, w, none])
    ⟨s1, ⟨[], t1, CntD.nil, by simp⟩, _, _, _, rfl⟩ (λ i σ G _ h => h.1 _ _ hl) ?_ ?_))
  . rintro i y σ G hy ⟨sm, ⟨kvs, hg, hk, hlen⟩, u, v, w, rfl⟩
    obtain ⟨e, t, he, rfl, ht⟩ := tz.at hy
    rw [List.getElem?_map] at he
    obtain ⟨one, ho, rfl⟩ : ∃ one, L[i]? = some one /\ enc one = e := by
      cases h : L[i]? with
      | none => rw [h] at he; cases he
      | some o => rw [h] at he; exact ⟨o, rfl, by simpa using he⟩
    have hi := (List.getElem?_eq_some_iff.mp ho).1
    have h1 := hL one (List.mem_of_getElem? ho)
    refine ap ⟨x, t, ps, cs, one, rfl, hh.same sm, sm _ _ ht, h1, λ pg ws G2 s2 n2 t2 pw => ?_⟩
    have lg := oz (one := one) hh.good hh.many
    generalize hgl : giv ps cs one = gl at *
    have ngc : pg ≠ pc := λ z => by rw [z, hg] at n2; cases n2
    refine aj t2 (ar (xs := ws) (λ j σ G' => (Same H G' /\ PrsL G' (gl.map gkv) ws /\ G' pg = some (.lst ws)) /\ (∃ kvs, G' pc = some (.dT kvs) /\ CntD kvs (λ a b => d5 ps cs (L.take i) a b + A.tot (gl.take j) a b) /\ kvs.length <= 25 * i + j) /\ ∃ v w, σ = [some (.ref x), some (.ref l), some (.ref pc), some (.ref t), v, w, none])
      ⟨⟨sm.trans s2, pw, t2⟩, ⟨kvs, s2 _ _ hg, λ a b => by rw [hk a b]; simp [A.tot, A.sg], by omega⟩, _, _, rfl⟩ (λ i σ G _ h => h.1.2.2) ?_ ?_)
    . rintro j z σ G' hz ⟨⟨sm', pw, hp⟩, ⟨kvs, hg, hk, hlen⟩, v, w, rfl⟩
      obtain ⟨kv, hkv, a, b, rfl, ha, hb⟩ := PrsL.get pw hz
      rw [List.getElem?_map] at hkv
      obtain ⟨p, hpj, rfl⟩ : ∃ p, gl[j]? = some p /\ gkv p = kv := by
        cases h : gl[j]? with
        | none => rw [h] at hkv; cases hkv
        | some o => rw [h] at hkv; exact ⟨o, rfl, by simpa using hkv⟩
      have hj := (List.getElem?_eq_some_iff.mp hpj).1
      have hb : G' b = some (.tup [.str p.1.1, .str p.1.2]) := hb
      refine ⟨a, _, rfl, .inl ha, rfl, _, _, rfl, _, _, rfl, rfl, ?_⟩
      refine dget_i hg (lO hg hb ?_)
      rw [hk p.1.1 p.1.2]
      refine bY hg hb (by omega) ?_
      refine ⟨⟨sm'.put n1, PrsL.putD pw hg, by rw [a4 ngc]; exact hp⟩, ⟨_, a5, ?_, ?_⟩, _, _, rfl⟩
      . have := hk.put p.1.1 p.1.2 p.2
        refine λ c d => (this c d).trans ?_
        show V.int (_ + _ + _) = V.int (_ + _)
        rw [ab hpj, tot_snoc, Int.add_assoc]
      . exact Nat.le_trans (iF ..) (by omega)
    . rintro σ G' ⟨⟨sm', pw, hp⟩, ⟨kvs, hg, hk, hlen⟩, v, w, rfl⟩
      have e : ws.length = gl.length := by rw [PrsL.len pw, List.length_map]
      rw [e, List.take_length] at hk
      refine ⟨sm', ⟨kvs, hg, λ a b => ?_, by omega⟩, _, _, _, rfl⟩
      rw [hk a b, ab ho, cnt_snoc, hgl]
  . rintro σ G ⟨sm, ⟨kvs, hg, hk, hlen⟩, u, v, w, rfl⟩
    rw [tz.1, List.length_map, List.take_length] at hk
    exact r_two (hh.same sm) hg hk λ p H' s n t => q p H' (sm.trans s) (bK sm n) t
end
end S3
end Tv
namespace Tv
open PySem PySem.Spec PyProof.Rows L2
namespace S3
open Nu
def ax : Sp := λ vs H Q _ => ∃ (a c : Addr) (xs : List V) (ps : List (Str × Str)) (cs : List Str), vs = [.ref a, .ref c] /\ H a = some (.lst xs) /\ PairsAt H xs ps /\ ps.length <= 24 /\ H c = some (.lst (sts cs)) /\ cs.length <= 8 ∧
  ∀ p zs H', Same H H' -> H p = none -> H' p = some (.lst zs) -> PairsAt H' zs (aS ("all" :: aa ps) (cs ++ [("all" : Str)])) -> Q (.ref p) H'
def fX : TS :=
  (ad (ah (aH a8) (a6 2))
  (ad (aN (iOf aq (tOp aT (aH (a3 (tC (.str "all")) a8)) (aZ (iOf aq (gv 0)) ["_law_name", "_law_above"] [] (cJ 2 (b5 (a6 0) (b5 (a6 1) fB))) gF (gv 0)))) (a6 3)
    (aN (iOf aq (tOp aT (gv 1) (aH (a3 (tC (.str "all")) a8)))) (a6 4)
      (cj (cW "append" (gv 2) (a3 (bf (a3 (gv 3) (a3 (gv 4) a8))) a8)))))
  (aD (gv 2))))
theorem kA {a c : Addr} {xs : List V} {ps : List (Str × Str)} {cs : List Str} {H : Hp} {D : Ends} (ha : H a = some (.lst xs)) (pa : PairsAt H xs ps) (h24 : ps.length <= 24) (hc : H c = some (.lst (sts cs))) (h8 : cs.length <= 8)
    (q : ∀ p zs H', Same H H' -> H p = none -> H' p = some (.lst zs) -> PairsAt H' zs (aS ("all" :: aa ps) (cs ++ [("all" : Str)])) -> D.rt (.ref p) H') : fX D [some (.ref a), some (.ref c), none, none, none] H := by
  have hs := sz
  have ln : (aa ps).length = ps.length := List.length_map ..
  refine ⟨few rfl, af λ p G1 n1 s1 t1 => ?_⟩
  refine ap ⟨few rfl, af λ r1 G2 n2 s2 t2 => bI (aj ((s1.trans s2) _ _ ha) (iu (jy H) ((s1.trans s2) _ _ ha) (by rw [pa.1]; omega) ?_ ?_))⟩
  . intro i z hz G k sm hk
    obtain ⟨r, t, hr, rfl, ht⟩ := pa.at hz
    rw [km ht] at hk
    exact ⟨t, _, rfl, .inl (sm _ _ ((s1.trans s2) _ _ ht)), rfl, _, _, rfl, _, _, rfl, rfl, bO rfl hk⟩
  intro r2 G3 n3 s3 t3
  rw [pa.fsts] at t3
  refine cZ (s3 _ _ t2) t3 (by simp; omega) (af λ r3 G4 n4 s4 t4 => ?_)
  have e4 : ([V.str "all"] ++ sts (ps.map (·.1))) = sts ("all" :: aa ps) := rfl
  rw [e4] at t4
  have s14 := s2.trans (s3.trans s4)
  have nr : r3 ≠ p := λ z => by rw [z, (s2.trans s3) _ _ t1] at n4; cases n4
  have lN : (("all" : Str) :: aa ps).length <= 25 := by simp; omega
  generalize hN : (("all" : Str) :: aa ps) = N at *
  refine aj t4 (ar (xs := sts N) (λ i σ G => (Same H G /\ G r3 = some (.lst (sts N))) /\ (∃ zs, G p = some (.lst zs) /\ PairsAt G zs (aS (N.take i) (cs ++ [("all" : Str)]))) /\ ∃ u v, σ = [some (.ref a), some (.ref c), some (.ref p), u, v])
    ⟨⟨s1.trans s14, t4⟩, ⟨_, s14 _ _ t1, .nil⟩, _, _, rfl⟩ (λ i σ G _ h => h.1.2) ?_ ?_)
  . rintro i y σ G hy ⟨⟨sm, hr⟩, ⟨zs, hg, pz⟩, u, v, rfl⟩
    obtain ⟨n, hn, rfl⟩ := b4 hy
    have hi := (List.getElem?_eq_some_iff.mp hn).1
    refine ap ⟨few rfl, af λ c1 G6 n6 s6 t6 => cZ ((sm.trans s6) _ _ hc) t6 (by simp; omega) (af λ c2 G7 n7 s7 t7 => ?_)⟩
    rw [de] at t7
    have s67 := s6.trans s7
    have nc2 : c2 ≠ p := λ z => by rw [z, s6 _ _ hg] at n7; cases n7
    have lC : (cs ++ [("all" : Str)]).length <= 9 := by simp; omega
    generalize hC : cs ++ [("all" : Str)] = C at *
    refine aj t7 (ar (xs := sts C) (λ j σ G => (Same H G /\ G r3 = some (.lst (sts N)) /\ G c2 = some (.lst (sts C))) /\ (∃ zs, G p = some (.lst zs) /\ PairsAt G zs (aS (N.take i) C ++ (C.take j).map λ d => (n, d))) /\ ∃ v, σ = [some (.ref a), some (.ref c), some (.ref p), some (.str n), v])
      ⟨⟨sm.trans s67, s67 _ _ hr, t7⟩, ⟨zs, s67 _ _ hg, by simpa using pz.same s67⟩, _, rfl⟩ (λ i σ G _ h => h.1.2.2) ?_ ?_)
    . rintro j y σ G hy ⟨⟨sm, hr, hc2⟩, ⟨zs, hg, pz⟩, v, rfl⟩
      obtain ⟨d, hd, rfl⟩ := b4 hy
      have hj := (List.getElem?_eq_some_iff.mp hd).1
      refine cO hg ⟨few rfl, af λ t G9 n9 s9 t9 => bB (s9 _ _ hg) ?_ ⟨⟨(sm.trans s9).put n1, by rw [a4 nr]; exact s9 _ _ hr, by rw [a4 nc2]; exact s9 _ _ hc2⟩, ⟨_, a5, ?_⟩, _, rfl⟩⟩
      . have h1 := pz.1
        rw [List.length_append, eO, List.length_map, List.length_take, List.length_take] at h1
        have h2 : min i N.length * C.length <= 25 * 9 := Nat.mul_le_mul (by omega) lC
        omega
      . rw [ab hd, List.map_append, <- List.append_assoc]
        exact ((pz.same s9).snoc (q := (n, d)) t9).put (s9 _ _ hg)
    . rintro σ G ⟨⟨sm, hr, hc2⟩, ⟨zs, hg, pz⟩, v, rfl⟩
      rw [show (sts C).length = C.length from List.length_map .., List.take_length] at pz
      refine ⟨⟨sm, hr⟩, ⟨zs, hg, ?_⟩, _, _, rfl⟩
      rw [ab hn, iA]
      exact pz
  . rintro σ G ⟨⟨sm, hr⟩, ⟨zs, hg, pz⟩, u, v, rfl⟩
    rw [show (sts N).length = N.length from List.length_map .., List.take_length] at pz
    exact q p zs G sm n1 hg pz
def ce : Sp := λ vs H Q _ => ∃ (a c t : Addr) (xs : List V) (ps : List (Str × Str)) (cs : List Str) (one : A.Sm Str), vs = [.ref a, .ref c, .ref t] /\ H a = some (.lst xs) /\ PairsAt H xs ps /\ Good ps /\ H c = some (.lst (sts cs)) /\ Nms cs /\ cs.length <= 8 /\ H t = some (.tup (sts (enc one))) /\ A.IsSm ("all" : Str) ps cs one ∧
  ∀ p H', Same H H' -> H p = none -> H' p = some (.dT ((giv ps cs one).map gkv)) -> Q (.ref p) H'
def tg_dn : TS :=
  (ad (ah (gv 4) (dS (gv 3) (bf (a3 (tOp aw (gv 2) (tC (.int 1))) (a3 (tOp aw (gv 2) (tC (.int 2))) a8))) bV))
    (ad (aN (iOf aq (gv 0)) (cJ 2 (b5 (a6 5) (b5 (a6 6) fB)))
      (sIf (bT (tOp eqG (gv 6) (tOp aw (gv 2) (tC (.int 1)))))
        (ah (tOp pA (tC (.int 0)) (gv 4)) (dS (gv 3) (bf (a3 (gv 5) (a3 (tOp aw (gv 2) (tC (.int 2))) a8))) bV))
        ay))
    (aD (gv 3))))
def tg_ac : TS :=
  (ad (ah (gv 4) (dS (gv 3) (bf (a3 (tOp aw (gv 2) (tC (.int 1))) (a3 (tC (.str "all")) a8))) bV))
  (ad (aN (iOf aq (gv 1)) (a6 7)
    (ah (tOp pA (tC (.int 0)) (gv 4)) (dS (gv 3) (bf (a3 (tOp aw (gv 2) (tC (.int 1))) (a3 (gv 7) a8))) bV)))
  (aD (gv 3))))
def gy : TS :=
  (ad (ah fK (a6 3))
  (ad (sIf (bT (tOp eqG (tOp aw (gv 2) (tC (.int 0))) (tC (.str "down"))))
    (ad (ah (tOp aw (aH (a3 (tC (.int 1)) (a3 (tUn i7 (tC (.int 1))) a8))) (tCB mD (a3 (tOp eqG (tOp aw (gv 2) (tC (.int 2))) (tC (.str "all"))) a8))) (a6 4))
    tg_dn)
    ay)
  (ad (ah (tOp aw (aH (a3 (tUn i7 (tC (.int 1))) (a3 (tC (.int 1)) a8))) (tCB mD (a3 (tOp eqG (tOp aw (gv 2) (tC (.int 1))) (tC (.str "all"))) a8))) (a6 4))
  tg_ac)))
theorem oB {l : List ((Str × Str) × Int)} {a b : Str} (h : (a, b) ∉ l.map (·.1)) : ak (l.map gkv) (plK a b) = none := iQ λ kv hk e => by
  obtain ⟨p, hp, rfl⟩ := List.mem_map.mp hk
  obtain ⟨h1, h2⟩ := cr e
  exact h (List.mem_map.mpr ⟨p, hp, by rw [<- h1, <- h2]⟩)
theorem r_dn {a c t d : Addr} {u v w : Option V} {xs : List V} {ps : List (Str × Str)} {n e : Str} {s : Int} {H : Hp} {D : Ends} (ha : H a = some (.lst xs)) (pa : PairsAt H xs ps) (g : Good ps) (ht : H t = some (.tup (sts ["down", n, e]))) (hd : H d = some (.dT []))
    (q : ∀ H', SameX d H H' -> H' d = some (.dT ((((n, e), s) :: (av ps n).map λ m => ((m, e), -s)).map gkv)) -> D.rt (.ref d) H') : tg_dn D [some (.ref a), some (.ref c), some (.ref t), some (.ref d), some (.int s), u, v, w] H := by
  have hs := sz
  have g2 := g.many
  refine aA ht (v := .str n) rfl (aA ht (v := .str e) rfl ⟨few rfl, af λ k1 G1 n1 s1 t1 => bY (s1 _ _ hd) t1 (by simp; omega) ?_⟩)
  have e0 : b8 ([] : List (List Key × V)) (plK n e) (.int s) = ([((n, e), s)] : List ((Str × Str) × Int)).map gkv := rfl
  rw [e0]
  have nad : a ≠ d := λ z => by rw [z, hd] at ha; cases ha
  have ntd : t ≠ d := λ z => by rw [z, hd] at ht; cases ht
  have sx : SameX d H (upd G1 d (.dT (([((n, e), s)] : List ((Str × Str) × Int)).map gkv))) := (bX s1).trans aY
  refine ap (aj (sx _ _ nad ha) (ar (xs := xs) (λ i σ G => SameX d H G /\ G d = some (.dT ((((n, e), s) :: (av (ps.take i) n).map λ m => ((m, e), -s)).map gkv)) /\ ∃ u v, σ = [some (.ref a), some (.ref c), some (.ref t), some (.ref d), some (.int s), u, v, w])
    ⟨sx, a5, _, _, rfl⟩ (λ i σ G _ h => h.1 _ _ nad ha) ?_ ?_))
  . rintro i y σ G hy ⟨sm, hg, u, v, rfl⟩
    obtain ⟨r, tr, hr, rfl, htr⟩ := pa.at hy
    have ntr : tr ≠ d := λ z => by rw [z, hd] at htr; cases htr
    have ht' := sm _ _ ntd ht
    have hi := (List.getElem?_eq_some_iff.mp hr).1
    refine ⟨tr, _, rfl, .inl (sm _ _ ntr htr), rfl, _, _, rfl, _, _, rfl, rfl, aA ht' (v := .str n) rfl ?_⟩
    refine aR (λ b => ?_) (λ b => ?_)
    . have b : (r.2 == n) = true := b
      have b := eq_of_beq b
      refine aA ht' (v := .str e) rfl ⟨few rfl, af λ k2 G2 n2 s2 t2 => bY (s2 _ _ hg) t2 ?_ ⟨(sm.trans (bX s2)).trans aY, ?_, _, _, rfl⟩⟩
      . rw [List.length_map, List.length_cons, List.length_map]
        have := df (ps.take i) n
        rw [List.length_take] at this
        omega
      . have em : (r.1, n) = r := by rw [<- b]
        have nd : ((((n, e), s) :: (av (ps.take i) n).map λ m => ((m, e), -s)) : List ((Str × Str) × Int)).map (·.1) = (n, e) :: (av (ps.take i) n).map λ m => (m, e) := by
          rw [List.map_cons, List.map_map]
          rfl
        rw [a5, cm _ (oB ?_), ab hr, ft, if_pos b, List.map_append, List.map_cons, List.map_cons, List.map_append, Int.zero_sub]
        . rfl
        . rw [nd]
          intro m
          rcases List.mem_cons.mp m with m | m
          . have : r.1 = n := by injection m
            have hm : r ∈ ps := List.mem_of_getElem? hr
            rw [<- em, this] at hm
            exact (Good.gd g).not_self hm
          . obtain ⟨m', hm, e'⟩ := List.mem_map.mp m
            have e' : m' = r.1 := by injection e'
            subst e'
            have hm : (r.1, n) ∈ ps.take i := A.mem_bel.mp hm
            obtain ⟨j, hj⟩ := List.mem_iff_getElem?.mp hm
            have hjl := (List.getElem?_eq_some_iff.mp hj).1
            rw [List.length_take] at hjl
            rw [List.getElem?_take_of_lt (by omega)] at hj
            have nd2 := (List.nodup_cons.mp g.keys).2
            have : j = i := (List.getElem?_inj (l := ps.map (·.1)) (by rw [List.length_map]; omega) nd2).mp (by rw [List.getElem?_map, List.getElem?_map, hj, hr]; rfl)
            omega
    . have b : (r.2 == n) = false := b
      have b := beq_eq_false_iff_ne.mp b
      refine ⟨sm, ?_, _, _, rfl⟩
      rw [ab hr, ft, if_neg b, List.append_nil]
      exact hg
  . rintro σ G ⟨sm, hg, u, v, rfl⟩
    rw [pa.1, List.take_length] at hg
    exact q G sm hg
theorem r_ac {a c t d : Addr} {u v w : Option V} {cs : List Str} {n : Str} {s : Int} {H : Hp} {D : Ends} (hc : H c = some (.lst (sts cs))) (cn : Nms cs) (h8 : cs.length <= 8) (ht : H t = some (.tup (sts ["across", n]))) (hd : H d = some (.dT []))
    (q : ∀ H', SameX d H H' -> H' d = some (.dT ((((n, ("all" : Str)), s) :: cs.map λ m => ((n, m), -s)).map gkv)) -> D.rt (.ref d) H') : tg_ac D [some (.ref a), some (.ref c), some (.ref t), some (.ref d), some (.int s), u, v, w] H := by
  have hs := sz
  refine aA ht (v := .str n) rfl ⟨few rfl, af λ k1 G1 n1 s1 t1 => bY (s1 _ _ hd) t1 (by simp; omega) ?_⟩
  have e0 : b8 ([] : List (List Key × V)) (plK n "all") (.int s) = ([((n, ("all" : Str)), s)] : List ((Str × Str) × Int)).map gkv := rfl
  rw [e0]
  have ncd : c ≠ d := λ z => by rw [z, hd] at hc; cases hc
  have ntd : t ≠ d := λ z => by rw [z, hd] at ht; cases ht
  have sx : SameX d H (upd G1 d (.dT (([((n, ("all" : Str)), s)] : List ((Str × Str) × Int)).map gkv))) := (bX s1).trans aY
  refine ap (aj (sx _ _ ncd hc) (ar (xs := sts cs) (λ i σ G => SameX d H G /\ G d = some (.dT ((((n, ("all" : Str)), s) :: (cs.take i).map λ m => ((n, m), -s)).map gkv)) /\ ∃ w, σ = [some (.ref a), some (.ref c), some (.ref t), some (.ref d), some (.int s), u, v, w])
    ⟨sx, a5, _, rfl⟩ (λ i σ G _ h => h.1 _ _ ncd hc) ?_ ?_))
  . rintro i y σ G hy ⟨sm, hg, w, rfl⟩
    obtain ⟨m, hm, rfl⟩ := b4 hy
    have hi := (List.getElem?_eq_some_iff.mp hm).1
    refine aA (sm _ _ ntd ht) (v := .str n) rfl ⟨few rfl, af λ k2 G2 n2 s2 t2 => bY (s2 _ _ hg) t2 ?_ ⟨(sm.trans (bX s2)).trans aY, ?_, _, rfl⟩⟩
    . rw [List.length_map, List.length_cons, List.length_map, List.length_take]
      omega
    . have nd : ((((n, ("all" : Str)), s) :: (cs.take i).map λ m => ((n, m), -s)) : List ((Str × Str) × Int)).map (·.1) = (n, ("all" : Str)) :: (cs.take i).map λ m => (n, m) := by
        rw [List.map_cons, List.map_map]
        rfl
      rw [a5, cm _ (oB ?_), ab hm, List.map_append, List.map_cons, List.map_cons, List.map_append, Int.zero_sub]
      . rfl
      . rw [nd]
        intro z
        rcases List.mem_cons.mp z with z | z
        . have : m = "all" := by injection z
          exact (bC (cn.1 m (List.mem_of_getElem? hm))).2.2 this
        . obtain ⟨m', hm', e'⟩ := List.mem_map.mp z
          have e' : m' = m := by injection e'
          subst e'
          obtain ⟨j, hj⟩ := List.mem_iff_getElem?.mp hm'
          have hjl := (List.getElem?_eq_some_iff.mp hj).1
          rw [List.length_take] at hjl
          rw [List.getElem?_take_of_lt (by omega)] at hj
          have : j = i := (List.getElem?_inj (by omega) cn.2).mp (by rw [hj, hm])
          omega
  . rintro σ G ⟨sm, hg, w, rfl⟩
    rw [show (sts cs).length = cs.length from List.length_map .., List.take_length] at hg
    exact q G sm hg
theorem gj {d : Addr} {H G G' : Hp} (n : H d = none) (s : Same H G) (x : SameX d G G') : Same H G' := λ b o e => x b o (λ z => by rw [z, n] at e; cases e) (s b o e)
theorem lR {a c t : Addr} {xs : List V} {ps : List (Str × Str)} {cs : List Str} {one : A.Sm Str} {H : Hp} {D : Ends} (ha : H a = some (.lst xs)) (pa : PairsAt H xs ps) (g : Good ps) (hc : H c = some (.lst (sts cs))) (cn : Nms cs) (h8 : cs.length <= 8) (ht : H t = some (.tup (sts (enc one))))
    (q : ∀ p H', Same H H' -> H p = none -> H' p = some (.dT ((giv ps cs one).map gkv)) -> D.rt (.ref p) H') : gy D [some (.ref a), some (.ref c), some (.ref t), none, none, none, none, none] H := by
  refine .inr (af λ d G1 n1 s1 t1 => ?_)
  cases one with
  | dn n e =>
    refine aA (s1 _ _ ht) (v := .str "down") rfl (bO rfl ⟨few rfl, af λ k G2 n2 s2 t2 => aA (s2 _ _ (s1 _ _ ht)) (v := .str e) rfl ?_⟩)
    have fin : ∀ s : Int, s = (if e = "all" then -1 else 1) -> tg_dn D [some (.ref a), some (.ref c), some (.ref t), some (.ref d), some (.int s), none, none, none] G2 := λ s es =>
      r_dn ((s1.trans s2) _ _ ha) (pa.same (s1.trans s2)) g ((s1.trans s2) _ _ ht) (s2 _ _ t1) λ H' sx hd => q d H' (gj n1 (s1.trans s2) sx) n1 (by rw [hd, es]; rfl)
    by_cases b : e = "all"
    . subst b
      exact bg t2 (v := .int (-1)) rfl (fin _ (by rw [if_pos rfl]))
    . have eb : (e == ("all" : Str)) = false := beq_eq_false_iff_ne.mpr b
      refine bg t2 (v := .int 1) ?_ (fin _ (by rw [if_neg b]))
      show atI _ (if (e == ("all" : Str)) = true then 1 else 0) = _
      rw [eb]
      rfl
  | ac n =>
    refine aA (s1 _ _ ht) (v := .str "across") rfl (bb (by decide +kernel) ⟨few rfl, af λ k G2 n2 s2 t2 => aA (s2 _ _ (s1 _ _ ht)) (v := .str n) rfl ?_⟩)
    have fin : ∀ s : Int, s = (if n = "all" then 1 else -1) -> tg_ac D [some (.ref a), some (.ref c), some (.ref t), some (.ref d), some (.int s), none, none, none] G2 := λ s es =>
      r_ac ((s1.trans s2) _ _ hc) cn h8 ((s1.trans s2) _ _ ht) (s2 _ _ t1) λ H' sx hd => q d H' (gj n1 (s1.trans s2) sx) n1 (by rw [hd, es]; rfl)
    by_cases b : n = "all"
    . subst b
      exact bg t2 (v := .int 1) rfl (fin _ (by rw [if_pos rfl]))
    . have eb : (n == ("all" : Str)) = false := beq_eq_false_iff_ne.mpr b
      refine bg t2 (v := .int (-1)) ?_ (fin _ (by rw [if_neg b]))
      show atI _ (if (n == ("all" : Str)) = true then 1 else 0) = _
      rw [eb]
      rfl
end S3
end Tv
namespace Tv
open PySem PySem.Spec PyProof.Rows L2
namespace S3
open Nu
theorem giv_nd {ps : List (Str × Str)} {cs : List Str} {one : A.Sm Str} (g : Good ps) (cn : Nms cs) : ((giv ps cs one).map (·.1)).Nodup := by
  cases one with
  | dn n c =>
    show ((n, c) :: ((av ps n).map λ m => ((m, c), _)).map (·.1)).Nodup
    rw [List.map_map]
    refine List.nodup_cons.mpr ⟨λ m => ?_, List.pairwise_map.mpr (((Good.gd g).bel_nd n).imp λ h e => h (by injection e))⟩
    obtain ⟨m', hm, e⟩ := List.mem_map.mp m
    have e : m' = n := by injection e
    subst e
    exact (Good.gd g).not_self (A.mem_bel.mp hm)
  | ac n =>
    show ((n, ("all" : Str)) :: (cs.map λ m => ((n, m), _)).map (·.1)).Nodup
    rw [List.map_map]
    refine List.nodup_cons.mpr ⟨λ m => ?_, List.pairwise_map.mpr (cn.2.imp λ h e => h (by injection e))⟩
    obtain ⟨m', hm, e⟩ := List.mem_map.mp m
    have e : m' = "all" := by injection e
    exact (bC (cn.1 m' hm)).2.2 e
theorem giv_val {l : List ((Str × Str) × Int)} (nd : (l.map (·.1)).Nodup) {i : Nat} {p : (Str × Str) × Int} (h : l[i]? = some p) : ak (l.map gkv) (plK p.1.1 p.1.2) = some (.int p.2) := by
  induction l generalizing i with
  | nil => simp at h
  | cons x r ih =>
    rw [List.map_cons] at nd
    have nd' := List.nodup_cons.mp nd
    rw [List.map_cons]
    cases i with
    | zero =>
      simp at h
      subst h
      exact aJ (p := gkv x) rfl
    | succ i =>
      have h : r[i]? = some p := by simpa using h
      rw [az (p := gkv x) (λ e => ?_)]
      . exact ih nd'.2 h
      . obtain ⟨e1, e2⟩ := cr e
        exact nd'.1 (List.mem_map.mpr ⟨p, List.mem_of_getElem? h, by rw [<- Prod.eta p.1, <- e1, <- e2]⟩)
section
variable {K : PySem.W.Frag}
end
end S3
end Tv
namespace Tv
open PySem PySem.Spec PyProof.Rows L2
namespace S3
open Nu
section
variable {K : PySem.W.Frag}
def bE (K : PySem.W.Frag) : Sp := λ vs H Q _ => ∃ (a : Addr) (ns : List Int) (at' many : Int), vs = [.ref a, .int at', .int many] /\ SqL K H a (ns.map V.int) /\ 0 <= at' /\ at' < 40 /\ 0 <= many /\ many <= 1000 ∧
  ∀ p (ms : List Int) H', Same H H' -> H p = none -> H' p = some (.lst (ms.map V.int)) -> (ms.length : Int) = many -> (∀ m ∈ ms, 0 <= m) -> Q (.ref p) H'
def f9 (K : PySem.W.Frag) : TS :=
  (ad (ah (tOp pA (tC (.int 40)) (gv 1)) (a6 3))
  (ad (ah (aH a8) (a6 4))
  (ad (aN (dL (a3 (gv 2) a8)) (a6 5)
    (ad (ah (am (a9 K) [] E0 (a3 (gv 0) (a3 (tOp aT (gv 1) (tOp aU (gv 5) (gv 3))) a8))) (a6 6))
    (ad (aN (dL (a3 (tOp bh (gv 5) (gv 3)) a8)) (a6 7)
      (ah (tOp bh (gv 6) (tOp aT (tOp jS (tC (.int 10)) (tC (.int 18))) (tC (.int 1)))) (a6 6)))
    (cj (cW "append" (gv 4) (a3 (tOp aU (gv 6) (tOp aT (tOp jS (tC (.int 10)) (tC (.int 18))) (tC (.int 1)))) a8))))))
  (aD (gv 4)))))
theorem j7 {a : Addr} {ns : List Int} {at' many : Int} {H : Hp} {D : Ends} (hS : SqL K H a (ns.map V.int)) (h0 : 0 <= at') (h1 : at' < 40) (h2 : 0 <= many) (h3 : many <= 1000)
    (q : ∀ p (ms : List Int) H', Same H H' -> H p = none -> H' p = some (.lst (ms.map V.int)) -> (ms.length : Int) = many -> (∀ m ∈ ms, 0 <= m) -> D.rt (.ref p) H') : f9 K D [some (.ref a), some (.int at'), some (.int many), none, none, none, none, none] H := by
  have hs := sz
  refine ⟨few rfl, af λ p G1 n1 s1 t1 => ?_⟩
  generalize hw : (40 : Int) - at' = wd
  have w1 : 1 <= wd /\ wd <= 40 := by omega
  refine ap ⟨⟨by omega, by omega⟩, ?_⟩
  refine bA (λ i σ G => Same H G /\ (∃ ms : List Int, G p = some (.lst (ms.map V.int)) /\ ms.length = i /\ ∀ m ∈ ms, 0 <= m) /\ ∃ u v w, σ = [some (.ref a), some (.int at'), some (.int many), some (.int wd), some (.ref p), u, v, w])
    ⟨s1, ⟨[], t1, rfl, λ m hm => by cases hm⟩, _, _, _, rfl⟩ ?_ ?_
  . rintro i σ G hi ⟨sm, ⟨ms, hg, hl, h0m⟩, u, v, w, rfl⟩
    have m1 := Int.emod_nonneg (0 + (i : Int)) (show wd ≠ 0 by omega)
    refine ⟨by omega, a, ns, _, rfl, sm.seq hS, by omega, ?_⟩
    generalize aO ns _ = d
    have d1 : 0 <= (0 + (i : Int)) / wd := Int.ediv_nonneg (by omega) (by omega)
    have d2 : (0 + (i : Int)) / wd <= i := by
      have := Int.ediv_le_self wd (show 0 <= (0 + (i : Int)) by omega)
      omega
    refine ap ⟨⟨by omega, Int.lt_of_le_of_lt w1.2 (by decide)⟩, ⟨by omega, by omega⟩, ?_⟩
    refine bA (λ _ σ G' => G' = G /\ ∃ d w, σ = [some (.ref a), some (.int at'), some (.int many), some (.int wd), some (.ref p), some (.int (0 + i)), some (.int d), w]) ⟨rfl, _, _, rfl⟩ ?_ ?_
    . rintro j σ G' hj ⟨rfl, d, w, rfl⟩
      exact ⟨⟨by decide, by decide, by decide⟩, ⟨by decide, by decide⟩, rfl, _, _, rfl⟩
    . rintro σ G' ⟨rfl, d, w, rfl⟩
      refine cO hg ⟨⟨by decide, by decide, by decide⟩, by decide, bB hg (by rw [List.length_map]; omega) ⟨sm.put n1, ⟨ms ++ [_], by rw [a5, List.map_append]; rfl, by simp [hl], λ m hm => ?_⟩, _, _, _, rfl⟩⟩
      rcases List.mem_append.mp hm with hm | hm
      . exact h0m m hm
      . rw [List.mem_singleton.mp hm]
        exact Int.emod_nonneg _ (by decide)
  . rintro σ G ⟨sm, ⟨ms, hg, hl, h0m⟩, u, v, w, rfl⟩
    exact q p ms G sm n1 hg (by omega) h0m
end
def FilD (kvs : List (List Key × V)) (P : List (Str × Str)) (F : Str -> Str -> Int) : Prop := ∀ p ∈ P, ak kvs (plK p.1 p.2) = some (.int (F p.1 p.2))
theorem FilD.put {kvs : List (List Key × V)} {P : List (Str × Str)} {F F' : Str -> Str -> Int} (h : FilD kvs P F) {a b : Str} {v : Int} (h1 : F' a b = v) (h2 : ∀ c d, (c, d) ∈ P -> (c, d) ≠ (a, b) -> F' c d = F c d) : FilD (b8 kvs (plK a b) (.int v)) P F' := λ p hp => by
  rw [fC]
  by_cases e : p = (a, b)
  . subst e
    rw [if_pos rfl, h1]
  . rw [if_neg (λ z => e (by obtain ⟨z1, z2⟩ := cr z; rw [<- Prod.eta p, z1, z2])), h p hp, h2 p.1 p.2 hp e]
theorem kB {kvs : List (List Key × V)} {k : List Key} {v w : V} (h : ak kvs k = some w) : (b8 kvs k v).length = kvs.length := by
  unfold b8
  rw [ck, h]
  simp
theorem mem_pl {L C : List Str} {a b : Str} : (a, b) ∈ aS L C ↔ a ∈ L /\ b ∈ C := by
  unfold aS
  rw [List.mem_flatMap]
  constructor
  . rintro ⟨x, hx, h⟩
    obtain ⟨y, hy, e⟩ := List.mem_map.mp h
    cases e
    exact ⟨hx, hy⟩
  . rintro ⟨h1, h2⟩
    exact ⟨a, h1, List.mem_map.mpr ⟨b, h2, rfl⟩⟩
theorem comp_val {a : Addr} {ys : List V} (f : V -> V) {tn : List Str} {fr : List (Str × Nat)} {g : TG} {tt : TT} {te : TE} {σ : St} {H : Hp} {Q : VK} (ha : H a = some (.lst ys)) (hz : ys.length < sizeLine)
    (turn : ∀ (i : Nat) (x : V), ys[i]? = some x -> ∀ (G : Hp) (k : VK) (B : Hp -> Prop), Same H G -> (∀ G', Same G G' -> k (f x) G') -> g x (inn tn fr σ) G λ σ2 G2 => tt σ2 G2 λ b G3 => br b (te σ2 G3 k) (B G3))
    (fin : ∀ p G, H p = none -> Same H G -> G p = some (.lst (ys.map f)) -> Q (.ref p) G) : bF (gE a) tn fr g tt te σ H Q := by
  unfold bF
  intro p hp
  refine ⟨λ i m G => m = ys.length - i /\ i <= ys.length /\ Same H G /\ G p = some (.lst ((ys.take i).map f)), ⟨_, rfl, Nat.zero_le _, bw hp, a5⟩, ?_⟩
  rintro i m G ⟨rfl, hi, sm, hg⟩
  have hy := sm _ _ ha
  by_cases hlt : i < ys.length
  . refine .inr ⟨⟨ys, ys[i], .inl hy, by simp [hlt]⟩, λ G' => Same H G' /\ G' p = some (.lst ((ys.take (i + 1)).map f)), λ G' h => ⟨_, by omega, rfl, hlt, h⟩, λ x G' y => ?_⟩
    obtain ⟨rfl, y⟩ := y
    have hx := y ys (.inl hy)
    refine turn i x hx _ _ _ sm λ G2 s2 => ⟨_, s2 _ _ hg, ?_, (sm.trans s2).put hp, ?_⟩
    . rw [List.length_map, List.length_take]
      omega
    . rw [a5, ab hx, List.map_append]
      rfl
  . have e : i = ys.length := by omega
    subst e
    rw [List.take_length] at hg
    exact .inl ⟨⟨ys, .inl hy, Nat.le_refl _⟩, fin p G hp sm hg⟩
theorem ints_map (l : List Int) : g7 (l.map V.int) = some l := by
  induction l with
  | nil => rfl
  | cons x r ih =>
    show (match g7 (r.map V.int) with
      | some l => some (x :: l)
      | none => none) = _
    rw [ih]
theorem sum_i {p : Addr} {l : List Int} {H : Hp} {Q : VK} (h : H p = some (.lst (l.map V.int))) (q : Q (.int l.sum) H) : pL [.ref p] H Q := by
  unfold pL
  simp only [h, ints_map]
  exact q
theorem sum_sg {α : Type} (l : List α) (f : α -> Int) : (l.map f).sum = A.sg l f := by
  induction l with
  | nil => rfl
  | cons x r ih => rw [List.map_cons, List.sum_cons, ih]; rfl
end S3
end Tv
namespace Tv
open PySem PySem.Spec PyProof.Rows L2
namespace S3
open Nu
abbrev plc (ps : List (Str × Str)) (cs : List Str) : List (Str × Str) := aS (("all" : Str) :: aa ps) (cs ++ [("all" : Str)])
def tf_sum : TS :=
  (ad (aN (iOf aq (tOp aT (aH (a3 (tC (.str "all")) a8)) (aZ (iOf aq (gv 0)) ["_law_name", "_law_above"] [] (cJ 2 (b5 (a6 0) (b5 (a6 1) fB))) gF (gv 0)))) (a6 10)
    (ah (tCB pL (a3 (aZ (iOf aq (gv 1)) ["_law_column"] [("_law_numbers", 3), ("_law_part", 10)] (a6 0) gF (tOp aw (gv 1) (bf (a3 (gv 2) (a3 (gv 0) a8))))) a8)) (dS (gv 3) (bf (a3 (gv 10) (a3 (tC (.str "all")) a8))) bV)))
  (aD (gv 3)))
def tf_up : TS :=
  (ad (aN (iRevG (a3 (gv 0) a8)) (cJ 2 (b5 (a6 8) (b5 (a6 9) fB)))
    (aN (iOf aq (gv 1)) (a6 7)
      (ah (tOp aT (tOp aw (gv 3) (bf (a3 (gv 9) (a3 (gv 7) a8)))) (tOp aw (gv 3) (bf (a3 (gv 8) (a3 (gv 7) a8))))) (dS (gv 3) (bf (a3 (gv 9) (a3 (gv 7) a8))) bV))))
  tf_sum)
def oC : TS :=
  (ad (ah (tC (.int 0)) (a6 5))
  (ad (aN (iOf aq (am S.aI [] E0 (a3 (gv 0) a8))) (a6 6)
    (aN (iOf aq (gv 1)) (a6 7)
      (ad (ah (tOp aw (gv 2) (gv 5)) (dS (gv 3) (bf (a3 (gv 6) (a3 (gv 7) a8))) bV))
      (ah (tOp aT (gv 5) (tC (.int 1))) (a6 5)))))
  tf_up))
def fY : TS :=
  (ad (ah fK (a6 3))
  (ad (aN (iOf aq (am ax [] E0 (a3 (gv 0) (a3 (gv 1) a8)))) (a6 4)
    (ah (tC (.int 0)) (dS (gv 3) (gv 4) bV)))
  oC))
theorem kC {ps : List (Str × Str)} {cs : List Str} {a b : Str} (ha : a = "all" \/ a ∈ aa ps) (hb : b = "all" \/ b ∈ cs) : (a, b) ∈ plc ps cs := mem_pl.mpr ⟨by simpa using ha, by rcases hb with h | h <;> simp [h]⟩
theorem r_fsum {a c m d : Addr} {u0 u1 u2 u3 u4 u5 u6 : Option V} {xs : List V} {ps : List (Str × Str)} {cs : List Str} {F : Str -> Str -> Int} {kvs : List (List Key × V)} {H : Hp} {D : Ends} (ha : H a = some (.lst xs)) (pa : PairsAt H xs ps) (g : Good ps) (hc : H c = some (.lst (sts cs))) (cn : Nms cs) (h8 : cs.length <= 8)
    (hd : H d = some (.dT kvs)) (hf : FilD kvs (plc ps cs) F) (hz : kvs.length <= 225)
    (q : ∀ kvs' H', SameX d H H' -> H' d = some (.dT kvs') -> FilD kvs' (plc ps cs) (λ x y => A.cI ("all" : Str) cs F (x, y)) -> D.rt (.ref d) H') :
    tf_sum D [some (.ref a), some (.ref c), some (.ref m), some (.ref d), u0, u1, u2, u3, u4, u5, u6] H := by
  have hs := sz
  have g2 := g.many
  have ln : (aa ps).length = ps.length := List.length_map ..
  have hal : ∀ e ∈ cs, e ≠ "all" := λ e he => (bC (cn.1 e he)).2.2
  have nad : a ≠ d := λ z => by rw [z, hd] at ha; cases ha
  have ncd : c ≠ d := λ z => by rw [z, hd] at hc; cases hc
  refine ap ⟨few rfl, af λ r1 G2 n2 s2 t2 => bI (aj (s2 _ _ ha) (iu (jy H) (s2 _ _ ha) (by rw [pa.1]; omega) ?_ ?_))⟩
  . intro i z hz G k sm hk
    obtain ⟨r, t, hr, rfl, ht⟩ := pa.at hz
    rw [km ht] at hk
    exact ⟨t, _, rfl, .inl (sm _ _ (s2 _ _ ht)), rfl, _, _, rfl, _, _, rfl, rfl, bO rfl hk⟩
  intro r2 G3 n3 s3 t3
  rw [pa.fsts] at t3
  refine cZ (s3 _ _ t2) t3 (by simp; omega) (af λ r3 G4 n4 s4 t4 => ?_)
  have e4 : ([V.str "all"] ++ sts (ps.map (·.1))) = sts ("all" :: aa ps) := rfl
  rw [e4] at t4
  have s24 := s2.trans (s3.trans s4)
  have nr : r3 ≠ d := λ z => by rw [z, (s2.trans s3) _ _ hd] at n4; cases n4
  have nd : (("all" : Str) :: aa ps).Nodup := g.keys
  have inP : ∀ n ∈ (("all" : Str) :: aa ps), ∀ e : Str, e = "all" \/ e ∈ cs -> (n, e) ∈ plc ps cs := λ n hn e he => kC (by simpa using hn) he
  generalize hP : plc ps cs = P at *
  generalize hN : (("all" : Str) :: aa ps) = N at *
  refine aj t4 (ar (xs := sts N) (λ i σ G => (SameX d H G /\ G r3 = some (.lst (sts N))) /\ (∃ kvs, G d = some (.dT kvs) /\ FilD kvs P (λ x y => if y = "all" /\ x ∈ N.take i then A.sg cs (F x) else F x y) /\ kvs.length <= 225) /\ ∃ u6, σ = [some (.ref a), some (.ref c), some (.ref m), some (.ref d), u0, u1, u2, u3, u4, u5, u6])
    ⟨⟨bX s24, t4⟩, ⟨kvs, s24 _ _ hd, λ p hp => by rw [hf p hp]; simp, hz⟩, _, rfl⟩ (λ i σ G _ h => h.1.2) ?_ ?_)
  . rintro i y σ G hy ⟨⟨sm, hr⟩, ⟨kvs, hg, hf, hz⟩, u6, rfl⟩
    obtain ⟨n, hn, rfl⟩ := b4 hy
    have hi := (List.getElem?_eq_some_iff.mp hn).1
    have hnm := List.mem_of_getElem? hn
    have nout : n ∉ N.take i := λ h => by
      obtain ⟨j, hj⟩ := List.mem_iff_getElem?.mp h
      have hjl := (List.getElem?_eq_some_iff.mp hj).1
      rw [List.length_take] at hjl
      rw [List.getElem?_take_of_lt (by omega)] at hj
      have : j = i := (List.getElem?_inj (by omega) nd).mp (by rw [hj, hn])
      omega
    refine bI (aj (sm _ _ ncd hc) (comp_val (λ v => match v with
      | .str e => .int (F n e)
      | _ => .non) (sm _ _ ncd hc) (by simp; omega) ?_ ?_))
    . intro j z hj G' k B s' hk
      obtain ⟨e, he, rfl⟩ := b4 hj
      have hem := List.mem_of_getElem? he
      refine bO rfl ⟨few rfl, af λ t G5 n5 s5 t5 => b7 (.inl (s5 _ _ (s' _ _ hg))) t5 ?_ (hk G5 s5)⟩
      have v : ak kvs (plK n e) = some (.int (if e = "all" /\ n ∈ N.take i then A.sg cs (F n) else F n e)) := hf (n, e) (inP n hnm e (.inr hem))
      rw [if_neg λ z => hal e hem z.1] at v
      exact v
    intro pl G5 n5 s5 t5
    have e5 : ((sts cs).map λ v => match v with
      | .str e => V.int (F n e)
      | _ => .non) = (cs.map (F n)).map V.int := by
      rw [show sts cs = cs.map V.str from rfl, List.map_map, List.map_map]
      rfl
    rw [e5] at t5
    refine sum_i t5 ⟨few rfl, af λ t G6 n6 s6 t6 => bY ((s5.trans s6) _ _ hg) t6 (by omega) ?_⟩
    rw [sum_sg]
    have s56 := s5.trans s6
    refine ⟨⟨(sm.trans (bX s56)).trans aY, by rw [a4 nr]; exact s56 _ _ hr⟩, ⟨_, a5, hf.put ?_ ?_, ?_⟩, _, rfl⟩
    . simp [ab hn]
    . intro x y _ hne
      rw [ab hn]
      by_cases hy : y = "all"
      . have hx : x ≠ n := λ z => hne (by rw [z, hy])
        simp [hy, hx]
      . simp [hy]
    . rw [kB (hf (n, "all") (inP n hnm _ (.inl rfl)))]
      exact hz
  . rintro σ G ⟨⟨sm, hr⟩, ⟨kvs, hg, hf, hz⟩, u6, rfl⟩
    rw [show (sts N).length = N.length from List.length_map .., List.take_length] at hf
    refine q kvs G sm hg λ p hp => ?_
    rw [hf p hp]
    unfold A.cI
    have hx : p.1 ∈ N := by
      rw [<- hP] at hp
      have := (mem_pl.mp (show (p.1, p.2) ∈ _ from hp)).1
      rw [<- hN]
      exact this
    by_cases hy : p.2 = "all"
    . simp [hy, hx]
    . simp [hy]
theorem rv_at {α : Type} {l : List α} {i : Nat} (h : i < l.length) : l.reverse[i]? = l[l.length - 1 - i]? := List.getElem?_reverse h
theorem r_fup {a c m d : Addr} {u0 u1 u2 u3 u4 u5 u6 : Option V} {xs : List V} {ps : List (Str × Str)} {cs : List Str} {N : Str -> Str -> Int} {kvs : List (List Key × V)} {H : Hp} {D : Ends} (ha : H a = some (.lst xs)) (pa : PairsAt H xs ps) (g : Good ps) (hc : H c = some (.lst (sts cs))) (cn : Nms cs) (h8 : cs.length <= 8)
    (hd : H d = some (.dT kvs)) (hf : FilD kvs (plc ps cs) N) (hz : kvs.length <= 225)
    (q : ∀ kvs' H', SameX d H H' -> H' d = some (.dT kvs') -> FilD kvs' (plc ps cs) (λ x y => A.cI ("all" : Str) cs (A.upT cs N ps) (x, y)) -> D.rt (.ref d) H') :
    tf_up D [some (.ref a), some (.ref c), some (.ref m), some (.ref d), u0, u1, u2, u3, u4, u5, u6] H := by
  have hs := sz
  have g2 := g.many
  have nad : a ≠ d := λ z => by rw [z, hd] at ha; cases ha
  have ncd : c ≠ d := λ z => by rw [z, hd] at hc; cases hc
  have inP : ∀ n : Str, n = "all" \/ n ∈ aa ps -> ∀ e ∈ cs, (n, e) ∈ plc ps cs := λ n hn e he => kC hn (.inr he)
  refine ap (iterV_i ha (loop_rev (xs := xs) (λ i σ G => SameX d H G /\ (∃ kvs, G d = some (.dT kvs) /\ FilD kvs (plc ps cs) (A.upT cs N (ps.drop (ps.length - i))) /\ kvs.length <= 225) /\ ∃ u3 u4 u5, σ = [some (.ref a), some (.ref c), some (.ref m), some (.ref d), u0, u1, u2, u3, u4, u5, u6])
    ⟨λ _ _ _ e => e, ⟨kvs, hd, by simpa [A.upT] using hf, hz⟩, _, _, _, rfl⟩ (λ i σ G _ h => h.1 _ _ nad ha) ?_ ?_))
  . rintro i y σ G hy ⟨sm, ⟨kvs, hg, hf, hz⟩, u3, u4, u5, rfl⟩
    have hil : i < xs.length := by
      have := (List.getElem?_eq_some_iff.mp hy).1
      simpa using this
    rw [rv_at hil] at hy
    obtain ⟨r, t, hr, rfl, ht⟩ := pa.at hy
    have hlp : xs.length = ps.length := pa.1
    rw [hlp] at hr hil
    have ntd : t ≠ d := λ z => by rw [z, hd] at ht; cases ht
    have hrm : r ∈ ps := List.mem_of_getElem? hr
    have r1 : r.1 ∈ aa ps := List.mem_map.mpr ⟨r, hrm, rfl⟩
    have r2 : r.2 = "all" \/ r.2 ∈ aa ps := (Good.gd g).above_in (show (r.1, r.2) ∈ ps from hrm)
    have r12 : r.1 ≠ r.2 := λ e => (Good.gd g).not_self (m := r.1) (by
      have hz : (r.1, r.2) ∈ ps := hrm
      rw [<- e] at hz
      exact hz)
    have ed : ps.drop (ps.length - (i + 1)) = r :: ps.drop (ps.length - i) := by
      have h1 : ps.length - (i + 1) = ps.length - 1 - i := by omega
      rw [h1, List.drop_eq_getElem_cons (by omega)]
      have h2 : ps[ps.length - 1 - i] = r := by
        rw [List.getElem?_eq_getElem (by omega)] at hr
        exact Option.some.inj hr
      rw [h2, show ps.length - 1 - i + 1 = ps.length - i by omega]
    rw [ed]
    have hM : A.upT cs N (r :: ps.drop (ps.length - i)) = λ x y => if x = r.2 /\ y ∈ cs then A.upT cs N (ps.drop (ps.length - i)) x y + A.upT cs N (ps.drop (ps.length - i)) r.1 y else A.upT cs N (ps.drop (ps.length - i)) x y := rfl
    generalize A.upT cs N (ps.drop (ps.length - i)) = M at hf hM
    refine ⟨t, _, rfl, .inl (sm _ _ ntd ht), rfl, _, _, rfl, _, _, rfl, rfl, ?_⟩
    refine ap (aj (sm _ _ ncd hc) (ar (xs := sts cs) (λ j σ G => SameX d H G /\ (∃ kvs, G d = some (.dT kvs) /\ FilD kvs (plc ps cs) (λ x y => if x = r.2 /\ y ∈ cs.take j then M x y + M r.1 y else M x y) /\ kvs.length <= 225) /\ ∃ u3, σ = [some (.ref a), some (.ref c), some (.ref m), some (.ref d), u0, u1, u2, u3, some (.str r.1), some (.str r.2), u6])
      ⟨sm, ⟨kvs, hg, λ p hp => by rw [hf p hp]; simp, hz⟩, _, rfl⟩ (λ i σ G _ h => h.1 _ _ ncd hc) ?_ ?_))
    . rintro j y σ G hy ⟨sm, ⟨kvs, hg, hf, hz⟩, u3, rfl⟩
      obtain ⟨e, he, rfl⟩ := b4 hy
      have hem := List.mem_of_getElem? he
      have eout : e ∉ cs.take j := λ h => by
        obtain ⟨k, hk⟩ := List.mem_iff_getElem?.mp h
        have hkl := (List.getElem?_eq_some_iff.mp hk).1
        rw [List.length_take] at hkl
        rw [List.getElem?_take_of_lt (by omega)] at hk
        have : k = j := (List.getElem?_inj (by omega) cn.2).mp (by rw [hk, he])
        omega
      have v2 : ak kvs (plK r.2 e) = some (.int (if r.2 = r.2 /\ e ∈ cs.take j then M r.2 e + M r.1 e else M r.2 e)) := hf (r.2, e) (inP _ r2 e hem)
      have v1 : ak kvs (plK r.1 e) = some (.int (if r.1 = r.2 /\ e ∈ cs.take j then M r.1 e + M r.1 e else M r.1 e)) := hf (r.1, e) (inP _ (.inr r1) e hem)
      rw [if_neg λ z => eout z.2] at v2
      rw [if_neg λ z => r12 z.1] at v1
      refine ⟨few rfl, af λ k1 G1 n1 s1 t1 => b7 (.inl (s1 _ _ hg)) t1 v2 ⟨few rfl, af λ k2 G2 n2 s2 t2 => b7 (.inl ((s1.trans s2) _ _ hg)) t2 v1 ⟨few rfl, af λ k3 G3 n3 s3 t3 => ?_⟩⟩⟩
      have s13 := s1.trans (s2.trans s3)
      refine bY (s13 _ _ hg) t3 (by omega) ⟨(sm.trans (bX s13)).trans aY, ⟨_, a5, hf.put ?_ ?_, ?_⟩, _, rfl⟩
      . simp [ab he]
      . intro x y _ hne
        rw [ab he]
        by_cases hx : x = r.2
        . have hy : y ≠ e := λ z => hne (by rw [hx, z])
          simp [hx, hy]
        . simp [hx]
      . rw [kB (hf (r.2, e) (inP _ r2 e hem))]
        exact hz
    . rintro σ G ⟨sm, ⟨kvs, hg, hf, hz⟩, u3, rfl⟩
      rw [show (sts cs).length = cs.length from List.length_map .., List.take_length] at hf
      exact ⟨sm, ⟨kvs, hg, by rw [hM]; exact hf, hz⟩, _, _, _, rfl⟩
  . rintro σ G ⟨sm, ⟨kvs, hg, hf, hz⟩, u3, u4, u5, rfl⟩
    rw [pa.1, Nat.sub_self, List.drop_zero] at hf
    exact r_fsum (sm _ _ nad ha) ⟨pa.1, λ j p e => by obtain ⟨t, h1, h2⟩ := pa.2 j p e; exact ⟨t, h1, sm _ _ (λ z => by rw [z, hd] at h2; cases h2) h2⟩⟩ g (sm _ _ ncd hc) cn h8 hg hf hz λ kvs' H' s' t' f' => q kvs' H' (sm.trans s') t' f'
theorem r_frows {a c m d : Addr} {u0 u1 u2 u3 u4 u5 u6 : Option V} {xs : List V} {ms : List Int} {ps : List (Str × Str)} {cs : List Str} {kvs : List (List Key × V)} {H : Hp} {D : Ends} (ha : H a = some (.lst xs)) (pa : PairsAt H xs ps) (g : Good ps) (hc : H c = some (.lst (sts cs))) (cn : Nms cs) (h8 : cs.length <= 8)
    (hm : H m = some (.lst (ms.map V.int))) (lm : ms.length = (au ps).length * cs.length) (hm0 : ∀ m ∈ ms, 0 <= m) (hd : H d = some (.dT kvs)) (hf : FilD kvs (plc ps cs) λ _ _ => 0) (hz : kvs.length <= 225)
    (q : ∀ N kvs' H', SameX d H H' -> H' d = some (.dT kvs') -> FilD kvs' (plc ps cs) (λ x y => A.cI ("all" : Str) cs (A.upT cs N ps) (x, y)) -> (∀ n e, av ps n ≠ [] -> N n e = 0) -> (∀ n e, 0 <= N n e) -> D.rt (.ref d) H') :
    oC D [some (.ref a), some (.ref c), some (.ref m), some (.ref d), u0, u1, u2, u3, u4, u5, u6] H := by
  have hs := sz
  have g2 := g.many
  have nad : a ≠ d := λ z => by rw [z, hd] at ha; cases ha
  have ncd : c ≠ d := λ z => by rw [z, hd] at hc; cases hc
  have nmd : m ≠ d := λ z => by rw [z, hd] at hm; cases hm
  refine ap ⟨a, xs, ps, rfl, ha, pa, g2, λ pr G1 s1 n1 t1 => ?_⟩
  have npd : pr ≠ d := λ z => by rw [z, hd] at n1; cases n1
  have inR : ∀ n ∈ au ps, n ∈ aa ps /\ av ps n = [] := λ n hn => by
    obtain ⟨h1, h2⟩ := List.mem_filter.mp hn
    exact ⟨h1, List.isEmpty_iff.mp h2⟩
  generalize hR : au ps = R at *
  refine aj t1 (ar (xs := sts R) (λ i σ G => (SameX d H G /\ G pr = some (.lst (sts R))) /\ (∃ F kvs, G d = some (.dT kvs) /\ FilD kvs (plc ps cs) F /\ (∀ n e, n ∉ R -> F n e = 0) /\ (∀ n e, 0 <= F n e) /\ kvs.length <= 225) /\ ∃ u2 u3, σ = [some (.ref a), some (.ref c), some (.ref m), some (.ref d), u0, some (.int ((i * cs.length : Nat) : Int)), u2, u3, u4, u5, u6])
    ⟨⟨bX s1, t1⟩, ⟨_, kvs, s1 _ _ hd, hf, λ _ _ _ => rfl, λ _ _ => Int.le_refl 0, hz⟩, u2, u3, by rw [Nat.zero_mul]; rfl⟩ (λ i σ G _ h => h.1.2) ?_ ?_)
  . rintro i y σ G hy ⟨⟨sm, hr⟩, ⟨F, kvs, hg, hf, h0, hp0, hz⟩, u2, u3, rfl⟩
    obtain ⟨n, hn, rfl⟩ := b4 hy
    have hi := (List.getElem?_eq_some_iff.mp hn).1
    have hnm := List.mem_of_getElem? hn
    refine ap (aj (sm _ _ ncd hc) (ar (xs := sts cs) (λ j σ G => (SameX d H G /\ G pr = some (.lst (sts R))) /\ (∃ F kvs, G d = some (.dT kvs) /\ FilD kvs (plc ps cs) F /\ (∀ n e, n ∉ R -> F n e = 0) /\ (∀ n e, 0 <= F n e) /\ kvs.length <= 225) /\ ∃ u3, σ = [some (.ref a), some (.ref c), some (.ref m), some (.ref d), u0, some (.int ((i * cs.length + j : Nat) : Int)), some (.str n), u3, u4, u5, u6])
      ⟨⟨sm, hr⟩, ⟨F, kvs, hg, hf, h0, hp0, hz⟩, _, rfl⟩ (λ i σ G _ h => h.1.1 _ _ ncd hc) ?_ ?_))
    . rintro j y σ G hy ⟨⟨sm, hr⟩, ⟨F, kvs, hg, hf, h0, hp0, hz⟩, u3, rfl⟩
      obtain ⟨e, he, rfl⟩ := b4 hy
      have hj := (List.getElem?_eq_some_iff.mp he).1
      have hem := List.mem_of_getElem? he
      have hlt : i * cs.length + j < ms.length := by
        rw [lm]
        have := Nat.mul_le_mul_right cs.length (show i + 1 <= R.length from hi)
        rw [Nat.succ_mul] at this
        omega
      refine bg (sm _ _ nmd hm) (v := .int ms[i * cs.length + j]) (bm (by rw [List.getElem?_map, List.getElem?_eq_getElem hlt]; rfl)) ⟨few rfl, af λ t G5 n5 s5 t5 => bY (s5 _ _ hg) t5 (by omega) ?_⟩
      have inP : (n, e) ∈ plc ps cs := kC (.inr (inR n hnm).1) (.inr hem)
      refine ⟨⟨(sm.trans (bX s5)).trans aY, by rw [a4 npd]; exact s5 _ _ hr⟩, ⟨λ x y => if (x, y) = (n, e) then ms[i * cs.length + j] else F x y, _, a5, hf.put (by simp) (λ x y _ hne => if_neg hne), λ x y hx => ?_, λ x y => ?_, ?_⟩, some (.str e), ?_⟩
      . show (if (x, y) = (n, e) then _ else F x y) = 0
        rw [if_neg λ z => hx (by cases z; exact hnm)]
        exact h0 x y hx
      . show 0 <= (if (x, y) = (n, e) then _ else F x y)
        split
        . exact hm0 _ (List.getElem_mem _)
        . exact hp0 x y
      . rw [kB (hf (n, e) inP)]
        exact hz
      . rfl
    . rintro σ G ⟨⟨sm, hr⟩, ⟨F, kvs, hg, hf, h0, hp0, hz⟩, u3, rfl⟩
      refine ⟨⟨sm, hr⟩, ⟨F, kvs, hg, hf, h0, hp0, hz⟩, some (.str n), u3, ?_⟩
      rw [show (sts cs).length = cs.length from List.length_map .., Nat.succ_mul]
  . rintro σ G ⟨⟨sm, hr⟩, ⟨F, kvs, hg, hf, h0, hp0, hz⟩, u2, u3, rfl⟩
    refine r_fup (sm _ _ nad ha) ⟨pa.1, λ j p e => by obtain ⟨t, h1, h2⟩ := pa.2 j p e; exact ⟨t, h1, sm _ _ (λ z => by rw [z, hd] at h2; cases h2) h2⟩⟩ g (sm _ _ ncd hc) cn h8 hg hf hz λ kvs' H' s' t' f' => q F kvs' H' (sm.trans s') t' f' (λ n e hb => h0 n e λ hm => hb (inR n hm).2) hp0
def aQ : Sp := λ vs H Q _ => ∃ (a c m : Addr) (xs : List V) (ms : List Int) (ps : List (Str × Str)) (cs : List Str), vs = [.ref a, .ref c, .ref m] /\ H a = some (.lst xs) /\ PairsAt H xs ps /\ Good ps /\ H c = some (.lst (sts cs)) /\ Nms cs /\ cs.length <= 8 /\ H m = some (.lst (ms.map V.int)) /\ ms.length = (au ps).length * cs.length /\ (∀ m ∈ ms, 0 <= m) ∧
  ∀ p N kvs H', Same H H' -> H p = none -> H' p = some (.dT kvs) -> FilD kvs (plc ps cs) (λ x y => A.cI ("all" : Str) cs (A.upT cs N ps) (x, y)) -> (∀ n e, av ps n ≠ [] -> N n e = 0) -> (∀ n e, 0 <= N n e) -> Q (.ref p) H'
theorem kD {a c m : Addr} {xs : List V} {ms : List Int} {ps : List (Str × Str)} {cs : List Str} {H : Hp} {D : Ends} (ha : H a = some (.lst xs)) (pa : PairsAt H xs ps) (g : Good ps) (hc : H c = some (.lst (sts cs))) (cn : Nms cs) (h8 : cs.length <= 8) (hm : H m = some (.lst (ms.map V.int))) (lm : ms.length = (au ps).length * cs.length) (hm0 : ∀ m ∈ ms, 0 <= m)
    (q : ∀ p N kvs H', Same H H' -> H p = none -> H' p = some (.dT kvs) -> FilD kvs (plc ps cs) (λ x y => A.cI ("all" : Str) cs (A.upT cs N ps) (x, y)) -> (∀ n e, av ps n ≠ [] -> N n e = 0) -> (∀ n e, 0 <= N n e) -> D.rt (.ref p) H') :
    fY D [some (.ref a), some (.ref c), some (.ref m), none, none, none, none, none, none, none, none] H := by
  have hs := sz
  have g2 := g.many
  refine .inr (af λ d G1 n1 s1 t1 => ?_)
  refine ap ⟨a, c, xs, ps, cs, rfl, s1 _ _ ha, pa.same s1, g2, s1 _ _ hc, h8, λ pp zs G2 s2 n2 t2 pz => ?_⟩
  have ln : (plc ps cs).length <= 225 := gi g h8
  have npd : pp ≠ d := λ z => by rw [z, t1] at n2; cases n2
  have pz : PairsAt G2 zs (plc ps cs) := pz
  have s12 := s1.trans s2
  refine aj t2 (ar (xs := zs) (λ i σ G => (Same H G /\ PairsAt G zs (plc ps cs) /\ G pp = some (.lst zs)) /\ (∃ kvs, G d = some (.dT kvs) /\ FilD kvs ((plc ps cs).take i) (λ _ _ => 0) /\ kvs.length <= i) /\ ∃ u, σ = [some (.ref a), some (.ref c), some (.ref m), some (.ref d), u, none, none, none, none, none, none])
    ⟨⟨s12, pz, t2⟩, ⟨[], s2 _ _ t1, λ p hp => by simp at hp, Nat.le_refl _⟩, _, rfl⟩ (λ i σ G _ h => h.1.2.2) ?_ ?_)
  . rintro i y σ G hy ⟨⟨sm, pz, hp⟩, ⟨kvs, hg, hf, hz⟩, u, rfl⟩
    obtain ⟨r, t, hr, rfl, ht⟩ := pz.at hy
    have hi := (List.getElem?_eq_some_iff.mp hr).1
    refine bY hg ht (by omega) ⟨⟨sm.put n1, ⟨pz.1, λ j p e => ?_⟩, by rw [a4 npd]; exact hp⟩, ⟨_, a5, λ p hp => ?_, Nat.le_trans (iF ..) (by omega)⟩, _, rfl⟩
    . obtain ⟨t', h1, h2⟩ := pz.2 j p e
      exact ⟨t', h1, by rw [a4 (λ z => by rw [z, hg] at h2; cases h2)]; exact h2⟩
    . rw [fC]
      by_cases e : p = r
      . subst e
        rw [if_pos rfl]
      . rw [if_neg λ z => e (by obtain ⟨z1, z2⟩ := cr z; rw [<- Prod.eta p, z1, z2])]
        rw [ab hr] at hp
        rcases List.mem_append.mp hp with hp | hp
        . exact hf p hp
        . exact (e (List.mem_singleton.mp hp)).elim
  . rintro σ G ⟨⟨sm, pz, hp⟩, ⟨kvs, hg, hf, hz⟩, u, rfl⟩
    rw [pz.1, List.take_length] at hf
    have hz : kvs.length <= 225 := by rw [pz.1] at hz; omega
    exact r_frows (sm _ _ ha) (pa.same sm) g (sm _ _ hc) cn h8 (sm _ _ hm) lm hm0 hg hf hz λ N kvs' H' s' t' f' hN hN0 => q d N kvs' H' (gj n1 sm s') n1 t' f' hN hN0
end S3
end Tv
namespace Tv
open PySem PySem.Spec PyProof.Rows L2
namespace S5
open Nu S3
theorem comp_rng {n : Nat} {tn : List Str} {fr : List (Str × Nat)} {g : TG} {tt : TT} {te : TE} {σ : St} {H : Hp} {Q : VK} (f : V -> Option V) (hz : n < sizeLine)
    (turn : ∀ (i : Nat), i < n -> ∀ (G : Hp) (k : Option V -> Hp -> Prop), Same H G -> k (f (.int i)) G -> g (.int i) (inn tn fr σ) G λ σ2 G2 => tt σ2 G2 λ b G3 => br b (te σ2 G3 λ y G4 => k (some y) G4) (k none G3))
    (fin : ∀ p G, H p = none -> Same H G -> G p = some (.lst (((List.range n).map λ i => V.int (i : Nat)).filterMap f)) -> Q (.ref p) G) : bF (Itr 0 n) tn fr g tt te σ H Q := by
  refine o5 (xs := (List.range n).map λ i => V.int (i : Nat)) f (by simpa using hz) (λ G sm => ?_) (λ i x hx G k sm q => ?_) fin
  . rw [List.length_map, List.length_range]
    refine ⟨λ i hi => hi, Nat.le_refl _, ?_⟩
    rintro i x G' hi ⟨rfl, rfl⟩
    refine ⟨rfl, ?_⟩
    rw [List.getElem?_map, List.getElem?_range hi]
    simp
  . rw [List.getElem?_map] at hx
    cases e : (List.range n)[i]? with
    | none => rw [e] at hx; cases hx
    | some j =>
      rw [e] at hx
      cases hx
      obtain ⟨h1, h2⟩ := List.getElem?_eq_some_iff.mp e
      rw [List.getElem_range] at h2
      subst h2
      exact turn i (by simpa using h1) G k sm q
section
variable {K : PySem.W.Frag}
def cf (K : PySem.W.Frag) : Sp := λ vs H Q _ => ∃ (a pp : Addr) (ns : List Int) (k : Int) (zs : List V) (P : List (Str × Str)), vs = [.ref a, .ref pp, .int k] /\ SqL K H a (ns.map V.int) /\ 0 <= k /\ H pp = some (.lst zs) /\ PairsAt H zs P /\ P.length <= 225 ∧
  ∀ p ws L H', Same H H' -> H p = none -> H' p = some (.lst ws) -> PairsAt H' ws L -> L.length <= 225 -> Q (.ref p) H'
def tk_fin : TS :=
  (sIf (ptG (gv 8))
      (cj (cW "append" (gv 5) (a3 (tOp aw (gv 1) (gv 6)) a8)))
      ay)
def gz (K : PySem.W.Frag) : TS :=
  (ad (ah (am (a9 K) [] E0 (a3 (gv 0) (a3 (gv 2) a8))) (a6 3))
  (ad (ah (tOp bh (gv 3) (tC (.int 8))) (a6 4))
  (ad (ah (aH a8) (a6 5))
  (ad (aN (dL (a3 (tCB fk (a3 (gv 1) a8)) a8)) (a6 6)
    (ad (ah (tOp aU (tOp d6 (tOp aT (tOp aT (tOp aU (tOp bh (gv 3) (tC (.int 8))) (tOp jS (tC (.int 10)) (tC (.int 30)))) (tOp d6 (tC (.int 7)) (gv 6))) (tC (.int 1))) (tOp aT (tC (.int 48271)) (tOp d6 (tOp d6 (tC (.int 2)) (gv 6)) (gv 6)))) (tC (.int 2147483647))) (a6 7))
    (ad (ah (tOp ltG (tOp aU (tOp aU (tOp d6 (gv 7) (gv 7)) (tC (.int 2147483629))) (tC (.int 4))) (tOp aU (gv 3) (tC (.int 4)))) (a6 8))
    (ad (sIf (bT (tOp eqG (tOp aU (tOp bh (gv 3) (tC (.int 4))) (tC (.int 2))) (tC (.int 1))))
      (ad (ah (tOp eqG (tOp aU (gv 4) (tC (.int 2))) (tC (.int 1))) (a6 8))
      (ah (tOp bh (gv 4) (tC (.int 2))) (a6 4)))
      ay)
    tk_fin))))
  (aD (gv 5))))))
theorem lS {a pp : Addr} {ns : List Int} {k : Int} {zs : List V} {P : List (Str × Str)} {H : Hp} {D : Ends} (hS : SqL K H a (ns.map V.int)) (hk : 0 <= k) (hp : H pp = some (.lst zs)) (pz : PairsAt H zs P) (hP : P.length <= 225)
    (q : ∀ p ws L H', Same H H' -> H p = none -> H' p = some (.lst ws) -> PairsAt H' ws L -> L.length <= 225 -> D.rt (.ref p) H') : gz K D [some (.ref a), some (.ref pp), some (.int k), none, none, none, none, none, none] H := by
  have hs := sz
  have lz : zs.length = P.length := pz.1
  refine ⟨a, ns, k, rfl, hS, hk, ⟨by decide, by decide⟩, few rfl, af λ p G1 n1 s1 t1 => ?_⟩
  generalize aO ns k = way
  refine ap (cY (s1 _ _ hp) ⟨⟨by omega, by omega⟩, ?_⟩)
  refine bA (λ i σ G => Same H G /\ (∃ ws L, G p = some (.lst ws) /\ PairsAt G ws L /\ L.length <= i) /\ ∃ l u v w, σ = [some (.ref a), some (.ref pp), some (.int k), some (.int way), some (.int l), some (.ref p), u, v, w])
    ⟨s1, ⟨[], [], t1, .nil, Nat.le_refl _⟩, _, _, _, _, rfl⟩ ?_ ?_
  . rintro i σ G hi ⟨sm, ⟨ws, L, hg, pw, lw⟩, l, u, v, w, rfl⟩
    have hi : i < P.length := by rw [<- lz]; simpa using hi
    have fin : ∀ (n l : Int) (b : Bool) (D' : Ends), (D'.nx = λ σ G => Same H G /\ (∃ ws L, G p = some (.lst ws) /\ PairsAt G ws L /\ L.length <= i + 1) /\ ∃ l u v w, σ = [some (.ref a), some (.ref pp), some (.int k), some (.int way), some (.int l), some (.ref p), u, v, w]) →
        tk_fin D' [some (.ref a), some (.ref pp), some (.int k), some (.int way), some (.int l), some (.ref p), some (.int (0 + i)), some (.int n), some (.bl b)] G := by
      intro n l b D' hD
      obtain ⟨r, hr⟩ : ∃ r, P[i]? = some r := ⟨P[i], by simp [hi]⟩
      obtain ⟨t, h1, h2⟩ := pz.2 i r hr
      refine aR (λ _ => ?_) (λ _ => ?_)
      . refine cO hg (bg (sm _ _ hp) (v := .ref t) (by rw [Int.zero_add]; exact bm h1) (bB hg (by rw [pw.1]; omega) ?_))
        rw [hD]
        exact ⟨sm.put n1, ⟨_, L ++ [r], a5, (pw.snoc (sm _ _ h2)).put hg, by simp; omega⟩, _, _, _, _, rfl⟩
      . show D'.nx _ _
        rw [hD]
        exact ⟨sm, ⟨ws, L, hg, pw, by omega⟩, _, _, _, _, rfl⟩
    have hj : (0 : Int) + i <= 225 := by omega
    have hjj : (0 : Int) <= 2 * (0 + (i : Int)) * (0 + (i : Int)) /\ 2 * (0 + (i : Int)) * (0 + (i : Int)) <= 2 * 225 * 225 := by
      have h0 : (0 : Int) <= 0 + (i : Int) := by omega
      exact ⟨Int.mul_nonneg (by omega) h0, Int.mul_le_mul (by omega) hj h0 (by decide)⟩
    refine ⟨⟨by decide, by decide⟩, ⟨by decide, by decide, by decide⟩, by decide, aB (by omega) (by omega), aB (by omega) (by omega), aB (by omega) (by omega), aB (by omega) (by omega), by decide, ?_⟩
    generalize hn : (_ : Int) % 2147483647 = n
    have n0 : 0 <= n /\ n < 2147483647 := by rw [<- hn]; exact ⟨Int.emod_nonneg _ (by decide), Int.emod_lt_of_pos _ (by decide)⟩
    refine ⟨aB n0.1 (by omega), by decide, by decide, by decide, ⟨by decide, by decide⟩, by decide, ?_⟩
    refine aR (λ _ => ⟨by decide, ⟨by decide, by decide⟩, fin _ _ _ _ rfl⟩) (λ _ => fin _ _ _ _ rfl)
  . rintro σ G ⟨sm, ⟨ws, L, hg, pw, lw⟩, l, u, v, w, rfl⟩
    exact q p ws L G sm n1 hg pw (by omega)
def cg (K : PySem.W.Frag) : Sp := λ vs H Q _ => ∃ (a pl pc m : Addr) (ns : List Int) (xs : List V) (ms : List Int) (ps : List (Str × Str)) (cs : List Str), vs = [.ref a, .ref pl, .ref pc, .ref m] /\ SqL K H a (ns.map V.int) /\ H pl = some (.lst xs) /\ PairsAt H xs ps /\ Good ps /\ H pc = some (.lst (sts cs)) /\ Nms cs /\ cs.length <= 8 /\ H m = some (.lst (ms.map V.int)) /\ ms.length = (au ps).length * cs.length /\ (∀ m ∈ ms, 0 <= m) ∧
  ∀ p N kvs H', Same H H' -> H p = none -> H' p = some (.dT kvs) -> FilD kvs (plc ps cs) (λ x y => A.cI ("all" : Str) cs (A.upT cs N ps) (x, y)) -> (∀ n e, av ps n ≠ [] -> N n e = 0) -> (∀ n e, 0 <= N n e) -> Q (.ref p) H'
def to_fin : TS :=
  (ad (ah (tOp aw (gv 3) (gv 6)) (a6 9))
    (cj (cW "append" (gv 5) (a3 (tOp aw (aH (a3 (gv 9) (a3 (tOp aU (tOp aT (gv 9) (tC (.int 1))) (tOp aT (tOp jS (tC (.int 10)) (tC (.int 18))) (tC (.int 1)))) (a3 (tOp bh (gv 9) (tC (.int 2))) (a3 (tOp aU (tOp d6 (gv 9) (tC (.int 48271))) (tOp aT (tOp jS (tC (.int 10)) (tC (.int 18))) (tC (.int 1)))) a8))))) (gv 8)) a8))))
def gA (K : PySem.W.Frag) : TS :=
  (ad (ah (aZ (dL (a3 (tC (.int 3)) a8)) ["_law_j"] [("_law_script", 0)] (a6 0) gF (tOp bh (am (a9 K) [] E0 (a3 (gv 1) (a3 (tOp aT (tC (.int 60)) (gv 0)) a8))) (tC (.int 2)))) (a6 4))
  (ad (ah (aH a8) (a6 5))
  (ad (aN (dL (a3 (tCB fk (a3 (gv 3) a8)) a8)) (a6 6)
    (ad (ah (tOp aU (tOp d6 (tOp aT (tOp aT (tOp aU (tOp aw (gv 3) (gv 6)) (tC (.int 1000003))) (gv 6)) (tOp aU (tOp aw (gv 4) (tC (.int 0))) (tOp jS (tC (.int 10)) (tC (.int 30))))) (tC (.int 48271))) (tC (.int 2147483647))) (a6 7))
    (ad (ah (tOp aU (tOp aU (tOp d6 (gv 7) (gv 7)) (tC (.int 2147483629))) (tC (.int 4))) (a6 8))
    (ad (sIf (bT (tOp eqG (tOp aU (am (a9 K) [] E0 (a3 (gv 0) (a3 (tC (.int 60)) a8))) (tC (.int 2))) (tC (.int 1))))
      (ad (ah (tOp aU (tOp aw (gv 4) (tOp aU (gv 6) (tC (.int 3)))) (tC (.int 4))) (a6 8))
      (ah (tOp bh (tOp aw (gv 4) (tOp aU (gv 6) (tC (.int 3)))) (tC (.int 4))) (dS (gv 4) (tOp aU (gv 6) (tC (.int 3))) bV)))
      ay)
    to_fin))))
  (aD (am aQ [] E0 (a3 (gv 1) (a3 (gv 2) (a3 (gv 5) a8))))))))
theorem lT {a pl pc m : Addr} {ns : List Int} {xs : List V} {ms : List Int} {ps : List (Str × Str)} {cs : List Str} {H : Hp} {D : Ends} (hS : SqL K H a (ns.map V.int)) (hl : H pl = some (.lst xs)) (pa : PairsAt H xs ps) (g : Good ps) (hc : H pc = some (.lst (sts cs))) (cn : Nms cs) (h8 : cs.length <= 8) (hm : H m = some (.lst (ms.map V.int))) (lm : ms.length = (au ps).length * cs.length) (hm0 : ∀ m ∈ ms, 0 <= m)
    (q : ∀ p N kvs H', Same H H' -> H p = none -> H' p = some (.dT kvs) -> FilD kvs (plc ps cs) (λ x y => A.cI ("all" : Str) cs (A.upT cs N ps) (x, y)) -> (∀ n e, av ps n ≠ [] -> N n e = 0) -> (∀ n e, 0 <= N n e) -> D.rt (.ref p) H') :
    gA K D [some (.ref a), some (.ref pl), some (.ref pc), some (.ref m), none, none, none, none, none, none] H := by
  have hs := sz
  have g2 := g.many
  have lr := fS (ps := ps)
  have mm : (au ps).length * cs.length <= 24 * 8 := Nat.mul_le_mul (by omega) h8
  refine bI ⟨⟨by decide, by decide⟩, comp_rng (n := 3) (λ v => match v with
    | .int j => some (.int (aO ns (60 + j) / 2))
    | _ => none) (by omega) ?_ ?_⟩
  . intro i hi G k sm hk
    exact bO rfl ⟨a, ns, _, rfl, sm.seq hS, by omega, ⟨by decide, by decide⟩, hk⟩
  intro pe G1 n1 s1 t1
  have t1 : G1 pe = some (.lst (([aO ns (60 + (0 : Nat)) / 2, aO ns (60 + (1 : Nat)) / 2, aO ns (60 + (2 : Nat)) / 2] : List Int).map V.int)) := t1
  generalize hl3 : ([aO ns (60 + (0 : Nat)) / 2, aO ns (60 + (1 : Nat)) / 2, aO ns (60 + (2 : Nat)) / 2] : List Int) = ls at t1
  have ll : ls.length = 3 := by rw [<- hl3]; rfl
  clear hl3
  refine ⟨few rfl, af λ p G2 n2 s2 t2 => ?_⟩
  have np : H p = none := bK s1 n2
  have npe : pe ≠ p := λ z => by rw [z, n2] at t1; cases t1
  have nme : m ≠ pe := λ z => by rw [z, n1] at hm; cases hm
  have nmp : m ≠ p := λ z => by rw [z, np] at hm; cases hm
  refine ap (cY ((s1.trans s2) _ _ hm) ⟨⟨by rw [List.length_map]; omega, by rw [List.length_map]; omega⟩, ?_⟩)
  refine bA (λ i σ G => Same H G /\ (∃ ls : List Int, ls.length = 3 /\ G pe = some (.lst (ls.map V.int))) /\ (∃ os : List Int, G p = some (.lst (os.map V.int)) /\ os.length = i /\ ∀ o ∈ os, 0 <= o) /\ ∃ u v w x, σ = [some (.ref a), some (.ref pl), some (.ref pc), some (.ref m), some (.ref pe), some (.ref p), u, v, w, x])
    ⟨s1.trans s2, ⟨ls, ll, s2 _ _ t1⟩, ⟨[], t2, rfl, λ o ho => by cases ho⟩, _, _, _, _, rfl⟩ ?_ ?_
  . rintro i σ G hi ⟨sm, ⟨ls, ll, he⟩, ⟨os, hg, lo, h0⟩, u, v, w, x, rfl⟩
    have hi : i < ms.length := by simpa using hi
    have hmi : (ms.map V.int)[i]? = some (.int ms[i]) := by rw [List.getElem?_map, List.getElem?_eq_getElem hi]; rfl
    have h1 : 0 <= ms[i] := hm0 _ (List.getElem_mem _)
    have fin : ∀ (G' : Hp) (n dg : Int) (D' : Ends), Same H G' -> (∃ ls : List Int, ls.length = 3 /\ G' pe = some (.lst (ls.map V.int))) -> G' p = some (.lst (os.map V.int)) -> 0 <= dg -> dg < 4 →
        (D'.nx = λ σ G => Same H G /\ (∃ ls : List Int, ls.length = 3 /\ G pe = some (.lst (ls.map V.int))) /\ (∃ os : List Int, G p = some (.lst (os.map V.int)) /\ os.length = i + 1 /\ ∀ o ∈ os, 0 <= o) /\ ∃ u v w x, σ = [some (.ref a), some (.ref pl), some (.ref pc), some (.ref m), some (.ref pe), some (.ref p), u, v, w, x]) →
        to_fin D' [some (.ref a), some (.ref pl), some (.ref pc), some (.ref m), some (.ref pe), some (.ref p), some (.int (0 + i)), some (.int n), some (.int dg), x] G' := by
      intro G' n dg D' sm' he' hg' d0 d4 hD
      refine bg (sm' _ _ hm) (v := .int ms[i]) (by rw [Int.zero_add]; exact bm hmi) (cO hg' ⟨⟨by decide, by decide, by decide⟩, by decide, ⟨by decide, by decide⟩, aB (by decide) (by decide), ⟨by decide, by decide, by decide⟩, by decide, few rfl, af λ pt G3 n3 s3 t3 => ?_⟩)
      obtain ⟨j, rfl⟩ : ∃ j : Nat, dg = j := ⟨dg.toNat, by omega⟩
      have val : ∃ o : Int, ([V.int ms[i], V.int ((ms[i] + 1) % (10 ^ (18 : Int).toNat + 1)), V.int (ms[i] / 2), V.int (ms[i] * 48271 % (10 ^ (18 : Int).toNat + 1))] : List V)[j]? = some (.int o) /\ 0 <= o := by
        have hj : j = 0 \/ j = 1 \/ j = 2 \/ j = 3 := by omega
        rcases hj with rfl | rfl | rfl | rfl
        . exact ⟨_, rfl, h1⟩
        . exact ⟨_, rfl, Int.emod_nonneg _ (by decide)⟩
        . exact ⟨_, rfl, by omega⟩
        . exact ⟨_, rfl, Int.emod_nonneg _ (by decide)⟩
      obtain ⟨o, ho, o0⟩ := val
      refine bg t3 (v := .int o) (bm ho) (bB (s3 _ _ hg') (by rw [List.length_map]; omega) ?_)
      rw [hD]
      obtain ⟨ls', ll', he'⟩ := he'
      refine ⟨(sm'.trans s3).put np, ⟨ls', ll', by rw [a4 npe]; exact s3 _ _ he'⟩, ⟨os ++ [o], by rw [a5, List.map_append]; rfl, by simp [lo], λ z hz => ?_⟩, _, _, _, _, rfl⟩
      rcases List.mem_append.mp hz with hz | hz
      . exact h0 z hz
      . rw [List.mem_singleton.mp hz]
        exact o0
    have hl0 : (ls.map V.int)[0]? = some (.int ls[0]) := by rw [List.getElem?_map, List.getElem?_eq_getElem (by omega)]; rfl
    refine bg (sm _ _ hm) (v := .int ms[i]) (by rw [Int.zero_add]; exact bm hmi) ⟨by decide, bg he (v := .int ls[0]) (bm (j := 0) hl0) ⟨⟨by decide, by decide, by decide⟩, by decide, aB (by decide) (by decide), by decide, ?_⟩⟩
    generalize hn : (_ : Int) % 2147483647 = n
    have n0 : 0 <= n /\ n < 2147483647 := by rw [<- hn]; exact ⟨Int.emod_nonneg _ (by decide), Int.emod_lt_of_pos _ (by decide)⟩
    refine ⟨aB n0.1 (by omega), by decide, by decide, a, ns, 60, rfl, sm.seq hS, by decide, by decide, ?_⟩
    have r3 : (0 : Int) <= (0 + (i : Int)) % 3 /\ (0 + (i : Int)) % 3 < 3 := ⟨Int.emod_nonneg _ (by decide), Int.emod_lt_of_pos _ (by decide)⟩
    refine aR (λ _ => ?_) (λ _ => fin G _ _ _ sm ⟨ls, ll, he⟩ hg (Int.emod_nonneg _ (by decide)) (Int.emod_lt_of_pos _ (by decide)) rfl)
    refine ⟨by decide, ?_⟩
    obtain ⟨j, hj⟩ : ∃ j : Nat, (0 + (i : Int)) % 3 = j := ⟨((0 + (i : Int)) % 3).toNat, by omega⟩
    rw [hj] at r3 ⊢
    have hjl : j < ls.length := by omega
    have hlj : (ls.map V.int)[j]? = some (.int ls[j]) := by rw [List.getElem?_map, List.getElem?_eq_getElem hjl]; rfl
    refine bg he (v := .int ls[j]) (bm hlj) ⟨by decide, by decide, bg he (v := .int ls[j]) (by rw [hj]; exact bm hlj) ⟨⟨by decide, by decide⟩, by decide, mK he (j := j) ?_ ?_⟩⟩
    . rw [hj]
      unfold ixN
      rw [List.length_map, if_pos (by omega), if_pos (by omega)]
      simp
    . refine fin _ _ _ _ (sm.put n1) ⟨ls.set j (ls[j] / 4), by simpa using ll, by rw [a5, List.map_set]⟩ (by rw [a4 npe.symm]; exact hg) (Int.emod_nonneg _ (by decide)) (Int.emod_lt_of_pos _ (by decide)) rfl
  . rintro σ G ⟨sm, ⟨ls, ll, he⟩, ⟨os, hg, lo, h0⟩, u, v, w, x, rfl⟩
    refine ⟨pl, pc, p, xs, os, ps, cs, rfl, sm _ _ hl, pa.same sm, g, sm _ _ hc, cn, h8, hg, ?_, h0, λ p' N kvs H' s' n' t' f' hN hN0 => q p' N kvs H' (sm.trans s') (bK sm n') t' f' hN hN0⟩
    rw [<- lm, lo]
    simp
end
end S5
end Tv
namespace Tv
open PySem PySem.Spec PyProof.Rows L2
namespace S3
open Nu
def nz (f : Str -> Str -> Int) (P : List (Str × Str)) : List (Str × Str) := P.filter λ p => !(f p.1 p.2 == 0)
theorem mU (f : Str -> Str -> Int) (P : List (Str × Str)) : kvL f P = (nz f P).map λ p => (plK p.1 p.2, .int (f p.1 p.2)) := by
  unfold kvL nz
  induction P with
  | nil => rfl
  | cons p r ih =>
    rw [List.filterMap_cons, List.filter_cons]
    by_cases h : f p.1 p.2 = 0
    . simp only [h, if_true, Option.map_none, beq_self_eq_true, Bool.not_true]
      exact ih
    . have hb : (!(f p.1 p.2 == 0)) = true := by simpa using h
      rw [if_neg h, if_pos hb, List.map_cons, <- ih]
      rfl
theorem nz_val {f : Str -> Str -> Int} {P : List (Str × Str)} {p : Str × Str} (hp : p ∈ nz f P) : ak (kvL f P) (plK p.1 p.2) = some (.int (f p.1 p.2)) := by
  rw [mU]
  generalize nz f P = L at hp
  induction L with
  | nil => cases hp
  | cons x r ih =>
    rw [List.map_cons]
    by_cases e : plK x.1 x.2 = plK p.1 p.2
    . rw [aJ (p := (plK x.1 x.2, .int (f x.1 x.2))) e]
      obtain ⟨h1, h2⟩ := cr e
      rw [h1, h2]
    . rw [az (p := (plK x.1 x.2, .int (f x.1 x.2))) e]
      rcases List.mem_cons.mp hp with rfl | hp
      . exact (e rfl).elim
      . exact ih hp
theorem IsSm.all {ps : List (Str × Str)} {cs : List Str} {M : List (A.Sm Str)} (h : ∀ one ∈ M, one ∈ smL ps cs) : ∀ one ∈ M, A.IsSm ("all" : Str) ps cs one := λ one ho => mem_smL.mp (h one ho)
theorem pl_mem {ps : List (Str × Str)} {cs : List Str} {p : Str × Str} (h : p ∈ plc ps cs) : (p.1 = "all" \/ p.1 ∈ ps.map (·.1)) /\ (p.2 = "all" \/ p.2 ∈ cs) := by
  obtain ⟨h1, h2⟩ := mem_pl.mp (show (p.1, p.2) ∈ _ from h)
  refine ⟨List.mem_cons.mp h1, ?_⟩
  rcases List.mem_append.mp h2 with h | h
  . exact .inr h
  . exact .inl (List.mem_singleton.mp h)
section
variable {K : PySem.W.Frag} {cl : Addr}
end
end S3
end Tv
namespace Tv
open PySem PySem.Spec PyProof.Rows L2
namespace S5
open Nu S3
theorem loop_itq {a : Addr} {o : Obj} {kvs : List (List Key × V)} {g : TG} {tb : TS} {D : Ends} {σ : St} {H : Hp} (Pv : Nat -> St -> Hp -> Prop) (h0 : Pv 0 σ H) (hl : ∀ i σ H, i <= kvs.length -> Pv i σ H -> H a = some (.frz o (.dT kvs)))
    (hs : ∀ i k v t p σ H G, kvs[i]? = some (k, v) -> Pv i σ H -> H t = some (.tup (k.map kV)) -> H p = none -> Same H G -> G p = some (.tup [.ref t, v]) -> g (.ref p) σ G λ σ2 H2 => tb { D with nx := Pv (i + 1), ct := Pv (i + 1), bk := D.nx } σ2 H2) (hd : ∀ σ H, Pv kvs.length σ H -> D.nx σ H) : bQ (Itq a o kvs) g tb D σ H := by
  unfold bQ
  refine ⟨λ i m σ H => m = kvs.length - i /\ i <= kvs.length /\ Pv i σ H, ⟨_, rfl, Nat.zero_le _, h0⟩, ?_⟩
  rintro i m σ H ⟨rfl, hi, p⟩
  have q := hl i σ H hi p
  by_cases hlt : i < kvs.length
  . refine .inr ⟨⟨q, hlt⟩, Pv (i + 1), λ σ' H' h => ⟨_, by omega, rfl, hlt, h⟩, ?_⟩
    rintro x H' ⟨k, v, t, p', hx, rfl, ht, hp, rfl⟩
    exact hs i k v t p' σ H _ hx p ht hp (bw hp) a5
  . have e : i = kvs.length := by omega
    subst e
    exact .inl ⟨⟨q, Nat.le_refl _⟩, hd σ H p⟩
theorem inD_i {neg : Bool} {d p : Addr} {a b : Str} {kvs : List (List Key × V)} {H : Hp} {Q : VK} (h : H d = some (.dT kvs)) (hp : H p = some (.tup [.str a, .str b])) (q : Q (.bl (neg ^^ (ak kvs (plK a b)).isSome)) H) : inG neg (.ref p) (.ref d) H Q := by
  unfold inG
  simp only [h, kr h hp]
  exact q
theorem itemsQ_i {a : Addr} {kvs : List (List Key × V)} {H : Hp} {R : It -> Hp -> Th -> Prop} (h : H a = some (.dT kvs)) (q : ∀ o, R (Itq a o kvs) (upd H a (.frz o (.dT kvs))) (some (a, .dT kvs))) : cX (.ref a) H R := by
  unfold cX
  simp only [h]
  exact q
def lU (kn : List (List Key × V)) (q : Str × Str) : Int := match ak kn (plK q.1 q.2) with
  | some (.int v) => v
  | _ => 0
def Agr (f : Str -> Str -> Int) (P : List (Str × Str)) (kn : List (List Key × V)) (T : Str × Str -> Int) : Prop := (∀ q ∈ P, 0 <= T q) /\ A.sg P (λ q => f q.1 q.2 * T q) = 0 /\ ∀ q ∈ P, ∀ v, ak kn (plK q.1 q.2) = some v -> v = .int (T q)
def lV (f : Str -> Str -> Int) (P : List (Str × Str)) (kn : List (List Key × V)) (p : Str × Str) (l : Int) (v : V) : Prop := v = .non \/ ∃ r, v = .int r /\ ∀ T, Agr f P kn T -> (l = 1 -> T p <= r) /\ (l = -1 -> r <= T p)
theorem sh_ok {f : Str -> Str -> Int} {P : List (Str × Str)} {kn : List (List Key × V)} {p : Str × Str} {l : Int} (hd : P.Nodup) (hp : p ∈ P) (hf : f p.1 p.2 = 1 \/ f p.1 p.2 = -1) (hk : ak kn (plK p.1 p.2) = none)
    (ho : ∀ q ∈ nz f P, (ak kn (plK q.1 q.2)).isSome = false -> q ≠ p -> f q.1 q.2 = f p.1 p.2 * l) : lV f P kn p l (.int (-(f p.1 p.2) * A.sg (nz f P) λ q => if (ak kn (plK q.1 q.2)).isSome = true then lU kn q * f q.1 q.2 else 0)) := .inr ⟨_, rfl, λ T ⟨h1, h2, h3⟩ => by
  have e : (A.sg (nz f P) λ q => if (ak kn (plK q.1 q.2)).isSome = true then lU kn q * f q.1 q.2 else 0) = A.sg P λ q => if (ak kn (plK q.1 q.2)).isSome = true then f q.1 q.2 * T q else 0 := by
    rw [<- A.qj P (λ p => !(f p.1 p.2 == 0)) (λ q => if (ak kn (plK q.1 q.2)).isSome = true then f q.1 q.2 * T q else 0) λ q _ h => by
      have h : f q.1 q.2 = 0 := by simpa using h
      rw [h, Int.zero_mul]
      split <;> rfl]
    refine A.ba λ q hq => ?_
    have hqP : q ∈ P := (List.mem_filter.mp hq).1
    cases hv : ak kn (plK q.1 q.2) with
    | none => rfl
    | some v =>
      have := h3 q hqP v hv
      subst this
      unfold lU
      rw [hv]
      show T q * f q.1 q.2 = f q.1 q.2 * T q
      exact Int.mul_comm _ _
  rw [e]
  exact A.mS (f := λ q => f q.1 q.2) (kn := λ q => (ak kn (plK q.1 q.2)).isSome) hd h2 h1 hp hf (by rw [hk]; rfl) λ q hq hne hkq => by
    by_cases z : f q.1 q.2 = 0
    . exact .inl z
    . exact .inr (ho q (List.mem_filter.mpr ⟨hq, by simpa using z⟩) hkq hne)⟩
end S5
end Tv
namespace Tv
open PySem PySem.Spec PyProof.Rows L2
namespace S5
open Nu S3
section
variable {cl : Addr}
def cu (cl : Addr) : Sp := λ vs H Q _ => ∃ (x pn pt pl : Addr) (ws : List V) (ps : List (Str × Str)) (cs : List Str) (M : List (A.Sm Str)) (kn : List (List Key × V)) (p : Str × Str) (l : Int), vs = [.ref x, .ref pn, .ref pt, .ref pl, .int l] /\ HouseAt cl H x ps cs /\ H pn = some (.dT kn) /\ eC kn /\ H pt = some (.tup [.str p.1, .str p.2]) /\ p ∈ plc ps cs /\ H pl = some (.lst ws) /\ TupsAt H ws (M.map enc) /\ (∀ one ∈ M, one ∈ smL ps cs) /\ M.Nodup /\ M.length <= 300 /\ (l = 1 \/ l = -1) ∧
  ∀ v H', Same H H' -> lV (d5 ps cs M) (plc ps cs) kn p l v -> Q v H'
def ts_body : TS :=
  (sIf (bT (tOp (inG false) (gv 8) (gv 1)))
      (tAug 7 (tOp d6 (tOp aw (gv 1) (gv 8)) (gv 9)) (ipG .Add))
      (sIf (e9 (bT (tOp neG (gv 8) (gv 2))) (bT (tOp neG (gv 9) (tOp d6 (gv 6) (gv 4)))))
        (aD (tC .non))
        ay))
def oE (cl : Addr) : TS :=
  (ad (ah (am (fW cl) [] E0 (a3 (gv 0) (a3 (gv 3) a8))) (a6 5))
  (ad (sIf (mt (bT (tOp (inG false) (gv 2) (gv 1))) (bT (tOp (inG true) (gv 2) (gv 5))))
    (aD (tC .non))
    ay)
  (ad (ah (tOp aw (gv 5) (gv 2)) (a6 6))
  (ad (ah (tC (.int 0)) (a6 7))
  (ad (aN (iOf cX (gv 5)) (cJ 2 (b5 (a6 8) (b5 (a6 9) fB))) ts_body)
  (aD (tOp d6 (tUn i7 (gv 6)) (gv 7))))))))
theorem kn_int {kn : List (List Key × V)} (hi : eC kn) {q : Str × Str} {v : V} (h : ak kn (plK q.1 q.2) = some v) : v = .int (lU kn q) := by
  have hm := valV_in h
  unfold ak at h
  obtain ⟨kv, h1, h2⟩ := Option.map_eq_some_iff.mp h
  obtain ⟨i, hi'⟩ := hi kv (List.mem_of_find?_eq_some h1)
  have e : v = .int i := by rw [<- h2, hi']
  subst e
  unfold lU ak
  rw [h1]
  show V.int i = V.int (match some kv.2 with | some (.int v) => v | _ => 0)
  rw [hi']
theorem rd_pl {n : Nat} {H : Hp} {t : Addr} {q : Str × Str} (h : H t = some (.tup [.str q.1, .str q.2])) : rdD (n + 1) H (.ref t) = some (ca [q.1, q.2]) := eB (l := [q.1, q.2]) n h
theorem tup_eqv (p q : Str × Str) : PyData.eqv (ca [p.1, p.2]) (ca [q.1, q.2]) = decide (p = q) := by
  show PyData.eqv (.tuple [.str p.1, .str p.2]) (.tuple [.str q.1, .str q.2]) = _
  rw [PyData.eqv]
  have := lH [p.1, p.2] [q.1, q.2]
  rw [show ([p.1, p.2].map PyData.str) = [.str p.1, .str p.2] from rfl, show ([q.1, q.2].map PyData.str) = [.str q.1, .str q.2] from rfl] at this
  rw [this]
  by_cases e : p = q
  . subst e; simp
  . have : ¬ ([p.1, p.2] = [q.1, q.2]) := λ z => e (by cases p; cases q; simp at z; simp [z])
    rw [decide_eq_false e, decide_eq_false this]
theorem r_shown {x pn pt pl : Addr} {ws : List V} {ps : List (Str × Str)} {cs : List Str} {M : List (A.Sm Str)} {kn : List (List Key × V)} {p : Str × Str} {l : Int} {H : Hp} {D : Ends} (hh : HouseAt cl H x ps cs) (hn : H pn = some (.dT kn)) (hi : eC kn) (ht : H pt = some (.tup [.str p.1, .str p.2])) (hp : p ∈ plc ps cs) (hl : H pl = some (.lst ws)) (tw : TupsAt H ws (M.map enc)) (isM : ∀ one ∈ M, one ∈ smL ps cs) (nd : M.Nodup) (lM : M.length <= 300) (hlk : l = 1 \/ l = -1)
    (q : ∀ v H', Same H H' -> lV (d5 ps cs M) (plc ps cs) kn p l v -> D.rt v H') : oE cl D [some (.ref x), some (.ref pn), some (.ref pt), some (.ref pl), some (.int l), none, none, none, none, none] H := by
  have hs := sz
  have g := hh.good
  have cn := hh.nms
  refine ⟨x, pl, ws, ps, cs, M, rfl, hh, hl, tw, IsSm.all isM, lM, λ pc G1 s1 n1 t1 => ?_⟩
  have small := λ (r : Str × Str) (hr : r ∈ plc ps cs) => A.qk (Good.gd g) (fV cn) (pl_mem hr).1 (pl_mem hr).2 (IsSm.all isM) nd
  have hd : (plc ps cs).Nodup := lQ g cn
  generalize hP : plc ps cs = P at *
  have t1 : G1 pc = some (.dT (kvL (d5 ps cs M) P)) := by rw [<- hP]; exact t1
  have small : ∀ r ∈ P, d5 ps cs M r.1 r.2 = 0 \/ d5 ps cs M r.1 r.2 = 1 \/ d5 ps cs M r.1 r.2 = -1 := small
  generalize d5 ps cs M = f at *
  have ncn : pc ≠ pn := λ z => by rw [z, hn] at n1; cases n1
  refine inD_i (s1 _ _ hn) (s1 _ _ ht) (aR (λ b => bO rfl (q .non G1 s1 (.inl rfl))) (λ b => ?_))
  have hkn : ak kn (plK p.1 p.2) = none := by
    cases e : ak kn (plK p.1 p.2) with
    | none => rfl
    | some v => rw [e] at b; cases b
  refine inD_i t1 (s1 _ _ ht) (aR (λ b => q .non G1 s1 (.inl rfl)) (λ b => ?_))
  have hpn : p ∈ nz f P := by
    by_cases z : f p.1 p.2 = 0
    . have out : ak (kvL f P) (plK p.1 p.2) = none := iQ λ kv hk e => by
        obtain ⟨r, hr, h0, rfl⟩ := oy hk
        obtain ⟨e1, e2⟩ := cr e
        rw [e1, e2] at h0
        exact h0 z
      rw [out] at b
      cases b
    . exact List.mem_filter.mpr ⟨hp, by simpa using z⟩
  have own : f p.1 p.2 = 1 \/ f p.1 p.2 = -1 := by
    have h0 : f p.1 p.2 ≠ 0 := by simpa using (List.mem_filter.mp hpn).2
    rcases small p hp with h | h | h
    . exact (h0 h).elim
    . exact .inl h
    . exact .inr h
  refine b7 (.inl t1) (s1 _ _ ht) (nz_val hpn) ?_
  generalize ho : f p.1 p.2 = ow at *
  have lk : (kvL f P).length = (nz f P).length := by rw [mU, List.length_map]
  have hcm : ∀ k : Int, nK ow k := λ k => .inl (.inl ⟨by rcases own with h | h <;> rw [h] <;> decide, by rcases own with h | h <;> rw [h] <;> decide⟩)
  refine ap (itemsQ_i t1 λ o => loop_itq (λ i σ G => (Same H G /\ G pc = some (.frz o (.dT (kvL f P)))) /\ (∀ r ∈ (nz f P).take i, (ak kn (plK r.1 r.2)).isSome = false -> r ≠ p -> f r.1 r.2 = ow * l) /\ ∃ u v, σ = [some (.ref x), some (.ref pn), some (.ref pt), some (.ref pl), some (.int l), some (.ref pc), some (.int ow), some (.int (A.sg ((nz f P).take i) λ r => if (ak kn (plK r.1 r.2)).isSome = true then lU kn r * f r.1 r.2 else 0)), u, v])
    ⟨⟨s1.put n1, a5⟩, λ r hr => by simp at hr, _, _, rfl⟩ (λ i σ G _ h => h.1.2) ?_ ?_)
  . rintro i k v t p' σ G G' hk ⟨⟨sm, hg⟩, hall, u, v', rfl⟩ htt hp' s' t'
    rw [mU, List.getElem?_map] at hk
    obtain ⟨r, hr, e⟩ : ∃ r, (nz f P)[i]? = some r /\ (plK r.1 r.2, V.int (f r.1 r.2)) = (k, v) := by
      cases h : (nz f P)[i]? with
      | none => rw [h] at hk; cases hk
      | some o => rw [h] at hk; exact ⟨o, rfl, by simpa using hk⟩
    cases e
    have ht2 : G' t = some (.tup [.str r.1, .str r.2]) := s' _ _ htt
    have S := sm.trans s'
    refine ⟨p', _, rfl, .inl t', rfl, _, _, rfl, _, _, rfl, rfl, ?_⟩
    refine inD_i (S _ _ hn) ht2 (aR (λ b => ?_) (λ b => ?_))
    . cases hv : ak kn (plK r.1 r.2) with
      | none => rw [hv] at b; cases b
      | some v =>
        have := kn_int hi hv
        subst this
        refine ⟨_, rfl, b7 (.inl (S _ _ hn)) ht2 hv ⟨.inl (.inr ?_), ⟨S, s' _ _ hg⟩, λ z hz hzk hzp => ?_, some (.ref t), some (.int (f r.1 r.2)), ?_⟩⟩
        . have hrP : r ∈ P := (List.mem_filter.mp (List.mem_of_getElem? hr)).1
          rcases small r hrP with h | h | h <;> rw [h] <;> decide
        . rw [ab hr] at hz
          rcases List.mem_append.mp hz with hz | hz
          . exact hall z hz hzk hzp
          . rw [List.mem_singleton.mp hz, hv] at hzk
            cases hzk
        . rw [ab hr, A.eR]
          simp only [A.sg, hv, Option.isSome_some, if_true, Int.add_zero]
          rfl
    . have hv : (ak kn (plK r.1 r.2)).isSome = false := by simpa using b
      have add : ∀ D' : Ends, (r ≠ p -> f r.1 r.2 = ow * l) -> (D'.nx = λ σ G => (Same H G /\ G pc = some (.frz o (.dT (kvL f P)))) /\ (∀ r ∈ (nz f P).take (i + 1), (ak kn (plK r.1 r.2)).isSome = false -> r ≠ p -> f r.1 r.2 = ow * l) /\ ∃ u v, σ = [some (.ref x), some (.ref pn), some (.ref pt), some (.ref pl), some (.int l), some (.ref pc), some (.int ow), some (.int (A.sg ((nz f P).take (i + 1)) λ r => if (ak kn (plK r.1 r.2)).isSome = true then lU kn r * f r.1 r.2 else 0)), u, v]) →
          D'.nx [some (.ref x), some (.ref pn), some (.ref pt), some (.ref pl), some (.int l), some (.ref pc), some (.int ow), some (.int (A.sg ((nz f P).take i) λ r => if (ak kn (plK r.1 r.2)).isSome = true then lU kn r * f r.1 r.2 else 0)), some (.ref t), some (.int (f r.1 r.2))] G' := by
        intro D' hc hD
        rw [hD]
        refine ⟨⟨S, s' _ _ hg⟩, λ z hz hzk hzp => ?_, some (.ref t), some (.int (f r.1 r.2)), ?_⟩
        . rw [ab hr] at hz
          rcases List.mem_append.mp hz with hz | hz
          . exact hall z hz hzk hzp
          . have := List.mem_singleton.mp hz
            subst this
            exact hc hzp
        . rw [ab hr, A.eR]
          simp only [A.sg, hv, Bool.false_eq_true, if_false, Int.add_zero]
      refine eq_i (rd_pl ht2) (rd_pl (S _ _ ht)) ?_
      rw [tup_eqv]
      by_cases e : r = p
      . refine bb (by rw [decide_eq_true e]; rfl) (bb rfl (add _ (λ z => (z e).elim) rfl))
      . refine bO (by rw [decide_eq_false e]; rfl) ⟨hcm l, aR (λ b => ?_) (λ b => ?_)⟩
        . exact ⟨⟨o, s' _ _ hg⟩, q .non _ (S.put n1) (.inl rfl)⟩
        . have b : (!(f r.1 r.2 == ow * l)) = false := b
          have b : f r.1 r.2 = ow * l := by simpa using b
          exact add _ (λ _ => b) rfl
  . rintro σ G ⟨⟨sm, hg⟩, hall, u, v, rfl⟩
    rw [lk, List.take_length] at hall
    refine ⟨⟨o, hg⟩, ⟨.inl (.inl ⟨by rcases own with h | h <;> rw [h] <;> decide, by rcases own with h | h <;> rw [h] <;> decide⟩), ?_⟩⟩
    rw [lk, List.take_length]
    refine q _ _ (sm.put n1) ?_
    have fin := sh_ok (f := f) (l := l) hd hp (by rw [ho]; exact own) hkn (by rw [ho]; exact hall)
    rw [ho] at fin
    exact fin
end
end S5
end Tv
namespace Tv
open PySem PySem.Spec PyProof.Rows L2
namespace S5
open Nu S3
section
variable {cl : Addr}
def gB (cl : Addr) (l : Int) : Sp := λ vs H Q _ => ∃ (x pn pt pl : Addr) (ws : List V) (ps : List (Str × Str)) (cs : List Str) (M : List (A.Sm Str)) (kn : List (List Key × V)) (p : Str × Str), vs = [.ref x, .ref pn, .ref pt, .ref pl] /\ HouseAt cl H x ps cs /\ H pn = some (.dT kn) /\ eC kn /\ H pt = some (.tup [.str p.1, .str p.2]) /\ p ∈ plc ps cs /\ H pl = some (.lst ws) /\ TupsAt H ws (M.map enc) /\ (∀ one ∈ M, one ∈ smL ps cs) /\ M.Nodup /\ M.length <= 300 /\ M ≠ [] ∧
  ∀ v H', Same H H' -> lV (d5 ps cs M) (plc ps cs) kn p l v -> Q v H'
def jF (cl : Addr) : TS :=
  (ad (sIf (fA (ptG (gv 3)))
    (aD (cW "get" (gv 1) (a3 (gv 2) a8)))
    ay)
  (aD (am (cu cl) [] E0 (a3 (gv 0) (a3 (gv 1) (a3 (gv 2) (a3 (gv 3) (a3 (tC (.int 1)) a8))))))))
def iR (cl : Addr) : TS :=
  (ad (sIf (fA (ptG (gv 3)))
    (aD (cW "get" (gv 1) (a3 (gv 2) (a3 (tC (.int 0)) a8))))
    ay)
  (aD (am (cu cl) [] E0 (a3 (gv 0) (a3 (gv 1) (a3 (gv 2) (a3 (gv 3) (a3 (tUn i7 (tC (.int 1))) a8))))))))
theorem ws_ne {H : Hp} {ws : List V} {M : List (A.Sm Str)} (tw : TupsAt H ws (M.map enc)) (h : M ≠ []) : (!ws.isEmpty) = true := by
  cases ws with
  | nil =>
    have := tw.1
    cases M with
    | nil => exact (h rfl).elim
    | cons => simp at this
  | cons => rfl
theorem qp {x pn pt pl : Addr} {ws : List V} {ps : List (Str × Str)} {cs : List Str} {M : List (A.Sm Str)} {kn : List (List Key × V)} {p : Str × Str} {H : Hp} {D : Ends} (hh : HouseAt cl H x ps cs) (hn : H pn = some (.dT kn)) (hi : eC kn) (ht : H pt = some (.tup [.str p.1, .str p.2])) (hp : p ∈ plc ps cs) (hl : H pl = some (.lst ws)) (tw : TupsAt H ws (M.map enc)) (isM : ∀ one ∈ M, one ∈ smL ps cs) (nd : M.Nodup) (lM : M.length <= 300) (ne : M ≠ [])
    (q : ∀ v H', Same H H' -> lV (d5 ps cs M) (plc ps cs) kn p 1 v -> D.rt v H') : jF cl D [some (.ref x), some (.ref pn), some (.ref pt), some (.ref pl)] H := by
  refine truL_i hl (bb (by rw [ws_ne tw ne]; rfl) ?_)
  exact ⟨x, pn, pt, pl, ws, ps, cs, M, kn, p, 1, rfl, hh, hn, hi, ht, hp, hl, tw, isM, nd, lM, .inl rfl, q⟩
theorem mV {x pn pt pl : Addr} {ws : List V} {ps : List (Str × Str)} {cs : List Str} {M : List (A.Sm Str)} {kn : List (List Key × V)} {p : Str × Str} {H : Hp} {D : Ends} (hh : HouseAt cl H x ps cs) (hn : H pn = some (.dT kn)) (hi : eC kn) (ht : H pt = some (.tup [.str p.1, .str p.2])) (hp : p ∈ plc ps cs) (hl : H pl = some (.lst ws)) (tw : TupsAt H ws (M.map enc)) (isM : ∀ one ∈ M, one ∈ smL ps cs) (nd : M.Nodup) (lM : M.length <= 300) (ne : M ≠ [])
    (q : ∀ v H', Same H H' -> lV (d5 ps cs M) (plc ps cs) kn p (-1) v -> D.rt v H') : iR cl D [some (.ref x), some (.ref pn), some (.ref pt), some (.ref pl)] H := by
  refine truL_i hl (bb (by rw [ws_ne tw ne]; rfl) ?_)
  exact ⟨x, pn, pt, pl, ws, ps, cs, M, kn, p, -1, rfl, hh, hn, hi, ht, hp, hl, tw, isM, nd, lM, .inr rfl, q⟩
end
end S5
end Tv
namespace Tv
open PySem PySem.Spec PyProof.Rows L2
namespace S5
open Nu S3
section
variable {cl : Addr}
def tt_one : TS :=
  (ad (sIf (e9 (bT (tOp (isG true) (gv 5) (tC .non))) (bT (tOp gtG (tOp aw (gv 7) (gv 3)) (gv 5))))
      (aD (tC (.bl false)))
      ay)
    (sIf (e9 (bT (tOp (isG true) (gv 6) (tC .non))) (bT (tOp ltG (tOp aw (gv 7) (gv 3)) (gv 6))))
      (aD (tC (.bl false)))
      ay))
def iS (cl : Addr) : TS :=
  (ad (ah (am (gB cl 1) [] E0 (a3 (gv 0) (a3 (gv 1) (a3 (gv 3) (a3 (gv 4) a8))))) (a6 5))
  (ad (ah (am (gB cl (-1)) [] E0 (a3 (gv 0) (a3 (gv 1) (a3 (gv 3) (a3 (gv 4) a8))))) (a6 6))
  (ad (aN (iOf aq (gv 2)) (a6 7) tt_one)
  (aD (tC (.bl true))))))
theorem r_tt_one {D : Ends} {H : Hp} {c0 c1 c2 c4 : Option V} {pt d : Addr} {p : Str × Str} {P : List (Str × Str)} {kd kn : List (List Key × V)} {f : Str -> Str -> Int} {T : Str × Str -> Int} {hi lo : V} (hd : H d = some (.dT kd)) (fil : FilD kd P λ a b => T (a, b)) (hp : p ∈ P) (ag : Agr f P kn T) (ht : H pt = some (.tup [.str p.1, .str p.2])) (h1 : lV f P kn p 1 hi) (h2 : lV f P kn p (-1) lo)
    (q : D.nx [c0, c1, c2, some (.ref pt), c4, some hi, some lo, some (.ref d)] H) : tt_one D [c0, c1, c2, some (.ref pt), c4, some hi, some lo, some (.ref d)] H := by
  have hv : ak kd (plK p.1 p.2) = some (.int (T p)) := fil p hp
  have low : (sIf (e9 (bT (tOp (isG true) (gv 6) (tC .non))) (bT (tOp ltG (tOp aw (gv 7) (gv 3)) (gv 6)))) (aD (tC (.bl false))) ay) D [c0, c1, c2, some (.ref pt), c4, some hi, some lo, some (.ref d)] H := by
    rcases h2 with rfl | ⟨r, rfl, h⟩
    . exact bb rfl (bb rfl q)
    . have := (h T ag).2 rfl
      exact bO rfl (b7 (.inl hd) ht hv (ff (λ z => by omega) λ _ => q))
  rcases h1 with rfl | ⟨r, rfl, h⟩
  . exact bb rfl (bb rfl low)
  . have := (h T ag).1 rfl
    exact bO rfl (b7 (.inl hd) ht hv (ff (λ z => by omega) λ _ => low))
end
end S5
end Tv
namespace Tv
open PySem PySem.Spec PyProof.Rows L2
namespace S5
open Nu S3
section
variable {cl : Addr}
def TabAt (H : Hp) (P : List (Str × Str)) (f : Str -> Str -> Int) (kn : List (List Key × V)) (x : V) : Prop := ∃ d kd T, x = .ref d /\ H d = some (.dT kd) /\ FilD kd P (λ a b => T (a, b)) /\ Agr f P kn T
def cS (cl : Addr) : Sp := λ vs H Q _ => ∃ (x pn pt pl tl : Addr) (ws xs : List V) (ps : List (Str × Str)) (cs : List Str) (M : List (A.Sm Str)) (kn : List (List Key × V)) (p : Str × Str), vs = [.ref x, .ref pn, .ref tl, .ref pt, .ref pl] /\ HouseAt cl H x ps cs /\ H pn = some (.dT kn) /\ eC kn /\ H pt = some (.tup [.str p.1, .str p.2]) /\ p ∈ plc ps cs /\ H pl = some (.lst ws) /\ TupsAt H ws (M.map enc) /\ (∀ one ∈ M, one ∈ smL ps cs) /\ M.Nodup /\ M.length <= 300 /\ M ≠ [] /\ H tl = some (.lst xs) /\ (∀ x ∈ xs, TabAt H (plc ps cs) (d5 ps cs M) kn x) ∧
  ∀ H', Same H H' -> Q (.bl true) H'
theorem mW {x pn pt pl tl : Addr} {ws xs : List V} {ps : List (Str × Str)} {cs : List Str} {M : List (A.Sm Str)} {kn : List (List Key × V)} {p : Str × Str} {H : Hp} {D : Ends} {c5 c6 c7 : Option V} (hh : HouseAt cl H x ps cs) (hn : H pn = some (.dT kn)) (hi : eC kn) (ht : H pt = some (.tup [.str p.1, .str p.2])) (hp : p ∈ plc ps cs) (hl : H pl = some (.lst ws)) (tw : TupsAt H ws (M.map enc)) (isM : ∀ one ∈ M, one ∈ smL ps cs) (nd : M.Nodup) (lM : M.length <= 300) (ne : M ≠ []) (hx : H tl = some (.lst xs)) (hT : ∀ x ∈ xs, TabAt H (plc ps cs) (d5 ps cs M) kn x)
    (q : ∀ H', Same H H' -> D.rt (.bl true) H') : iS cl D [some (.ref x), some (.ref pn), some (.ref tl), some (.ref pt), some (.ref pl), c5, c6, c7] H := by
  refine ⟨x, pn, pt, pl, ws, ps, cs, M, kn, p, rfl, hh, hn, hi, ht, hp, hl, tw, isM, nd, lM, ne, λ hi' G1 s1 o1 => ?_⟩
  refine ⟨x, pn, pt, pl, ws, ps, cs, M, kn, p, rfl, hh.same s1, s1 _ _ hn, hi, s1 _ _ ht, hp, s1 _ _ hl, tw.same s1, isM, nd, lM, ne, λ lo' G2 s2 o2 => ?_⟩
  have s12 := s1.trans s2
  refine ap (aj (s12 _ _ hx) (ar (xs := xs) (λ i σ G => Same H G /\ ∃ v, σ = [some (.ref x), some (.ref pn), some (.ref tl), some (.ref pt), some (.ref pl), some hi', some lo', v])
    ⟨s12, _, rfl⟩ (λ i σ G _ h => h.1 _ _ hx) ?_ ?_))
  . rintro i y σ G hy ⟨sm, v, rfl⟩
    obtain ⟨d, kd, T, rfl, hd, fil, ag⟩ := hT y (List.mem_of_getElem? hy)
    exact r_tt_one (sm _ _ hd) fil hp ag (sm _ _ ht) o1 o2 ⟨sm, _, rfl⟩
  . rintro σ G ⟨sm, v, rfl⟩
    exact q G sm
end
end S5
end Tv
namespace Tv
open PySem PySem.Spec PyProof.Rows L2
namespace A
section
variable {S : Type} [BEq S] [LawfulBEq S] [DecidableEq S] {al : S} {ps : List (S × S)} {cs : List S}
theorem own_is (g : Gd al ps) {a b : S} (ha : a = al \/ a ∈ ps.map (·.1)) (hb : b = al \/ b ∈ cs) : IsSm al ps cs (cH ps a b) := by
  unfold cH
  split
  . rename_i h
    rcases ha with rfl | ha
    . exact (g.al_above h).elim
    . exact .ac a (.inr ⟨ha, h⟩)
  . rename_i h
    exact .dn a b ha h hb
theorem up_is (g : Gd al ps) {a b : S} (ha : a = al \/ a ∈ ps.map (·.1)) (hb : b = al \/ b ∈ cs) : IsSm al ps cs (upS al ps a b) := by
  rcases fU g ha with rfl | ⟨k, hk⟩
  . rw [gg g]
    exact .ac a (.inl rfl)
  . rw [gf g hk]
    exact .dn k b (g.above_in hk) (λ e => by
      have := mem_bel.mpr hk
      rw [e] at this
      cases this) hb
theorem own_up (g : Gd al ps) {a b : S} (ha : a = al \/ a ∈ ps.map (·.1)) : cH ps a b ≠ upS al ps a b := λ e => by
  unfold cH at e
  rcases fU g ha with rfl | ⟨k, hk⟩
  . rw [gg g, if_neg g.al_above] at e
    cases e
  . rw [gf g hk] at e
    split at e
    . cases e
    . cases e
      exact g.not_self hk
theorem oF {a b : S} : ∀ {l : List ((S × S) × Int)}, (l.map (·.1)).Nodup -> tot l a b ≠ 0 -> ∃ e ∈ l, e.1 = (a, b) /\ e.2 = tot l a b
  | [], _, h => (h rfl).elim
  | x :: r, nd, h => by
    rw [List.map_cons, List.nodup_cons] at nd
    have e : tot (x :: r) a b = (if x.1 = (a, b) then x.2 else 0) + tot r a b := rfl
    by_cases hx : x.1 = (a, b)
    . have z : tot r a b = 0 := bR λ y hy => if_neg λ (w : y.1 = (a, b)) => nd.1 (List.mem_map.mpr ⟨y, hy, by rw [w, hx]⟩)
      refine ⟨x, by simp, hx, ?_⟩
      rw [e, z, if_pos hx]
      omega
    . rw [e, if_neg hx] at h
      obtain ⟨y, h1, h2, h3⟩ := oF nd.2 (show tot r a b ≠ 0 by omega)
      exact ⟨y, by simp [h1], h2, by rw [e, if_neg hx, h3]; omega⟩
end
end A
namespace S5
open Nu S3
theorem qq {ps : List (Str × Str)} {cs : List Str} (g : Good ps) (cn : Nms cs) {p : Str × Str} (hp : p ∈ plc ps cs) : (∃ e ∈ (smL ps cs).flatMap (giv ps cs), e.1 = p /\ e.2 = -1) /\ ∃ e ∈ (smL ps cs).flatMap (giv ps cs), e.1 = p /\ e.2 ≠ -1 := by
  have hb : (p.1 = "all" \/ p.1 ∈ ps.map (·.1)) /\ (p.2 = "all" \/ p.2 ∈ cs) := by
    obtain ⟨x, hx, hy⟩ := List.mem_flatMap.mp hp
    obtain ⟨y, hz, rfl⟩ := List.mem_map.mp hy
    refine ⟨by simpa [aa] using hx, ?_⟩
    rcases List.mem_append.mp hz with h | h
    . exact .inr h
    . exact .inl (List.mem_singleton.mp h)
  have gd := Good.gd g
  have i1 := A.own_is (cs := cs) gd hb.1 hb.2
  have i2 := A.up_is (cs := cs) gd hb.1 hb.2
  have ne := A.own_up (b := p.2) gd hb.1
  have t1 := A.iM gd (fV cn) hb.1 hb.2 i1
  have t2 := A.iM gd (fV cn) hb.1 hb.2 i2
  rw [if_pos rfl, if_neg ne] at t1
  rw [if_pos rfl, if_neg (Ne.symm ne)] at t2
  have at' : ∀ {one : A.Sm Str}, A.IsSm ("all" : Str) ps cs one -> A.tot (giv ps cs one) p.1 p.2 ≠ 0 -> ∃ e ∈ (smL ps cs).flatMap (giv ps cs), e.1 = p /\ e.2 = A.tot (giv ps cs one) p.1 p.2 := λ h z => by
    obtain ⟨e, h1, h2, h3⟩ := A.oF (giv_nd g cn) z
    exact ⟨e, List.mem_flatMap.mpr ⟨_, mem_smL.mpr h, h1⟩, h2, h3⟩
  by_cases hal : p.2 = "all"
  . rw [if_pos hal] at t1 t2
    obtain ⟨e, h1, h2, h3⟩ := at' i1 (by show A.tot (A.dW _ _ _ _) _ _ ≠ 0; rw [t1]; decide)
    obtain ⟨f, f1, f2, f3⟩ := at' i2 (by show A.tot (A.dW _ _ _ _) _ _ ≠ 0; rw [t2]; decide)
    exact ⟨⟨e, h1, h2, h3.trans t1⟩, f, f1, f2, by rw [f3]; show A.tot (A.dW _ _ _ _) _ _ ≠ _; rw [t2]; decide⟩
  . rw [if_neg hal] at t1 t2
    obtain ⟨e, h1, h2, h3⟩ := at' i1 (by show A.tot (A.dW _ _ _ _) _ _ ≠ 0; rw [t1]; decide)
    obtain ⟨f, f1, f2, f3⟩ := at' i2 (by show A.tot (A.dW _ _ _ _) _ _ ≠ 0; rw [t2]; decide)
    exact ⟨⟨f, f1, f2, f3.trans t2⟩, e, h1, h2, by rw [h3]; show A.tot (A.dW _ _ _ _) _ _ ≠ _; rw [t1]; decide⟩
def ek (P : List (Str × Str)) (ls : List Addr) : List (List Key × V) := (P.zip ls).map λ q => (plK q.1.1 q.1.2, V.ref q.2)
theorem mX : ∀ {P : List (Str × Str)} {ls : List Addr} {i : Nat} {p : Str × Str} {l : Addr}, P.Nodup -> P[i]? = some p -> ls[i]? = some l -> ak (ek P ls) (plK p.1 p.2) = some (.ref l)
  | [], _, _, _, _, _, h, _ => by simp at h
  | _ :: _, [], _, _, _, _, _, h => by simp at h
  | x :: r, m :: ls, 0, p, l, nd, h, k => by
    simp at h k
    subst h k
    exact aJ rfl
  | x :: r, m :: ls, i + 1, p, l, nd, h, k => by
    have h : r[i]? = some p := by simpa using h
    have k : ls[i]? = some l := by simpa using k
    rw [List.nodup_cons] at nd
    show ak ((plK x.1 x.2, V.ref m) :: ek r ls) _ = _
    rw [az (λ e => ?_)]
    . exact mX nd.2 h k
    . obtain ⟨e1, e2⟩ := cr e
      exact nd.1 (by rw [show x = p from Prod.ext e1 e2]; exact List.mem_of_getElem? h)
theorem oG : ∀ {P : List (Str × Str)} {ls : List Addr} {p : Str × Str}, p ∉ P -> ak (ek P ls) (plK p.1 p.2) = none
  | [], _, _, _ => rfl
  | _ :: _, [], _, _ => rfl
  | x :: r, m :: ls, p, h => by
    show ak ((plK x.1 x.2, V.ref m) :: ek r ls) _ = _
    rw [az (λ e => ?_)]
    . exact oG λ z => h (by simp [z])
    . obtain ⟨e1, e2⟩ := cr e
      exact h (by rw [show x = p from Prod.ext e1 e2]; simp)
theorem ek_snoc {P : List (Str × Str)} {ls : List Addr} {p : Str × Str} {l : Addr} (h : P.length = ls.length) : ek (P ++ [p]) (ls ++ [l]) = ek P ls ++ [(plK p.1 p.2, .ref l)] := by
  unfold ek
  rw [List.zip_append h, List.map_append]
  rfl
def EI (G : Hp) (P : List (Str × Str)) (ls : List Addr) (zs : List V) (E : List ((Str × Str) × Int)) : Prop := ∀ (k : Nat) p l, P[k]? = some p -> ls[k]? = some l -> ∃ x0 x1, G l = some (.lst [x0, x1]) /\ (x0 = .non \/ x0 ∈ zs) /\ (x1 = .non \/ x1 ∈ zs) /\ ∀ e ∈ E, e.1 = p -> (e.2 = -1 -> x1 ≠ .non) /\ (e.2 ≠ -1 -> x0 ≠ .non)
theorem EI.put {G : Hp} {P : List (Str × Str)} {ls : List Addr} {zs : List V} {E : List ((Str × Str) × Int)} (h : EI G P ls zs E) (ndP : P.Nodup) (ndl : ls.Nodup) {k : Nat} {p : Str × Str} {l : Addr} {x0 x1 y : V} (hp : P[k]? = some p) (hl : ls[k]? = some l) (hg : G l = some (.lst [x0, x1])) (hy : y ∈ zs) (ny : y ≠ .non) (s : Int) :
    EI (upd G l (.lst (if s = -1 then [x0, y] else [y, x1]))) P ls zs (E ++ [(p, s)]) := by
  intro k' p' l' hp' hl'
  obtain ⟨y0, y1, h1, h2, h3, h4⟩ := h k' p' l' hp' hl'
  by_cases e : k' = k
  . subst e
    rw [hp] at hp'
    rw [hl] at hl'
    cases hp'
    cases hl'
    rw [hg] at h1
    cases h1
    refine ⟨if s = -1 then x0 else y, if s = -1 then y else x1, ?_, ?_, ?_, λ e he e1 => ?_⟩
    . rw [a5]
      split <;> rfl
    . split
      . exact h2
      . exact .inr hy
    . split
      . exact .inr hy
      . exact h3
    . rcases List.mem_append.mp he with he | he
      . have := h4 e he e1
        by_cases z : s = -1
        . rw [if_pos z, if_pos z]
          exact ⟨λ _ => ny, this.2⟩
        . rw [if_neg z, if_neg z]
          exact ⟨this.1, λ _ => ny⟩
      . cases List.mem_singleton.mp he
        refine ⟨λ z => ?_, λ z => ?_⟩
        . have z : s = -1 := z
          rw [if_pos z]
          exact ny
        . have z : s ≠ -1 := z
          rw [if_neg z]
          exact ny
  . have kl := (List.getElem?_eq_some_iff.mp hl).1
    have kp := (List.getElem?_eq_some_iff.mp hp).1
    have nl : l' ≠ l := λ z => e ((List.getElem?_inj (l := ls) kl ndl).mp (by rw [hl, hl', z])).symm
    have np : p' ≠ p := λ z => e ((List.getElem?_inj (l := P) kp ndP).mp (by rw [hp, hp', z])).symm
    refine ⟨y0, y1, by rw [a4 nl]; exact h1, h2, h3, λ e he e1 => ?_⟩
    rcases List.mem_append.mp he with he | he
    . exact h4 e he e1
    . cases List.mem_singleton.mp he
      exact (np e1.symm).elim
theorem EI.same {G G' : Hp} {P : List (Str × Str)} {ls : List Addr} {zs : List V} {E : List ((Str × Str) × Int)} (h : EI G P ls zs E) (s : Same G G') : EI G' P ls zs E := λ k p l hp hl => by
  obtain ⟨y0, y1, h1, h2, h3, h4⟩ := h k p l hp hl
  exact ⟨y0, y1, s _ _ h1, h2, h3, h4⟩
theorem EI.upd {G : Hp} {P : List (Str × Str)} {ls : List Addr} {zs : List V} {E : List ((Str × Str) × Int)} {b : Addr} {o : HO} (h : EI G P ls zs E) (hb : ∀ l ∈ ls, l ≠ b) : EI (upd G b o) P ls zs E := λ k p l hp hl => by
  obtain ⟨y0, y1, h1, h2, h3, h4⟩ := h k p l hp hl
  exact ⟨y0, y1, by rw [a4 (hb l (List.mem_of_getElem? hl))]; exact h1, h2, h3, h4⟩
end S5
end Tv
namespace Tv
open PySem PySem.Spec PyProof.Rows L2
namespace S5
open Nu S3
def EndsD (H : Hp) (S : List (A.Sm Str)) (kvs : List (List Key × V)) : Prop := kvs.length <= 225 /\ ∀ (i : Nat) kv, kvs[i]? = some kv -> ∃ (q : Str × Str) (l t0 t1 : Addr) (o0 o1 : A.Sm Str), kv = (plK q.1 q.2, .ref l) /\ ak kvs (plK q.1 q.2) = some (.ref l) /\ H l = some (.lst [.ref t0, .ref t1]) /\ H t0 = some (.tup (sts (enc o0))) /\ H t1 = some (.tup (sts (enc o1))) /\ o0 ∈ S /\ o1 ∈ S
theorem EndsD.same {H G : Hp} {S : List (A.Sm Str)} {kvs : List (List Key × V)} (h : EndsD H S kvs) (s : Same H G) : EndsD G S kvs := ⟨h.1, λ i kv e => by
  obtain ⟨q, l, t0, t1, o0, o1, h1, h2, h3, h4, h5, h6, h7⟩ := h.2 i kv e
  exact ⟨q, l, t0, t1, o0, o1, h1, h2, s _ _ h3, s _ _ h4, s _ _ h5, h6, h7⟩⟩
theorem TupsAt.putD {H : Hp} {xs : List V} {ls : List (List Str)} {l : Addr} {o : HO} {d : List (List Key × V)} (h : TupsAt H xs ls) (hl : H l = some (.dT d)) : TupsAt (upd H l o) xs ls := ⟨h.1, λ i q e => by
  obtain ⟨t, e1, e2⟩ := h.2 i q e
  refine ⟨t, e1, ?_⟩
  rw [a4 λ z => by rw [z, hl] at e2; cases e2]
  exact e2⟩
theorem TupsAt.putF {H : Hp} {xs : List V} {ls : List (List Str)} {l : Addr} {o : HO} {b : Obj} {d : List (List Key × V)} (h : TupsAt H xs ls) (hl : H l = some (.frz b (.dT d))) : TupsAt (upd H l o) xs ls := ⟨h.1, λ i q e => by
  obtain ⟨t, e1, e2⟩ := h.2 i q e
  refine ⟨t, e1, ?_⟩
  rw [a4 λ z => by rw [z, hl] at e2; cases e2]
  exact e2⟩
theorem PairsAt.putD {H : Hp} {xs : List V} {ps : List (Str × Str)} {l : Addr} {o : HO} {d : List (List Key × V)} (h : PairsAt H xs ps) (hl : H l = some (.dT d)) : PairsAt (upd H l o) xs ps := ⟨h.1, λ i q e => by
  obtain ⟨t, e1, e2⟩ := h.2 i q e
  refine ⟨t, e1, ?_⟩
  rw [a4 λ z => by rw [z, hl] at e2; cases e2]
  exact e2⟩
def cT : Sp := λ vs H Q _ => ∃ (a c : Addr) (xs : List V) (ps : List (Str × Str)) (cs : List Str), vs = [.ref a, .ref c] /\ H a = some (.lst xs) /\ PairsAt H xs ps /\ Good ps /\ H c = some (.lst (sts cs)) /\ Nms cs /\ cs.length <= 8 ∧
  ∀ p kvs H', Same H H' -> H p = none -> H' p = some (.dT kvs) -> EndsD H' (smL ps cs) kvs -> Q (.ref p) H'
def te_in : TS :=
  (aN (iOf aq (gv 5)) (a6 3)
      (ah (gv 4) (dS (tOp aw (gv 2) (gv 3)) (tCB mD (a3 (tOp eqG (tOp aw (gv 5) (gv 3)) (tUn i7 (tC (.int 1)))) a8)) bV)))
def te_two : TS :=
  (ad (aN (iOf aq (am S.b9 [] E0 (a3 (gv 0) (a3 (gv 1) a8)))) (a6 4)
    (ad (ah (am ce [] E0 (a3 (gv 0) (a3 (gv 1) (a3 (gv 4) a8)))) (a6 5))
    te_in))
  (aD (gv 2)))
def iT : TS :=
  (ad (ah fK (a6 2))
  (ad (aN (iOf aq (am ax [] E0 (a3 (gv 0) (a3 (gv 1) a8)))) (a6 3)
    (ah (aH (a3 (tC .non) (a3 (tC .non) a8))) (dS (gv 2) (gv 3) bV)))
  te_two))
theorem ends_two {a c pc : Addr} {xs : List V} {ps : List (Str × Str)} {cs : List Str} {ls : List Addr} {u v w : Option V} {H0 H : Hp} {D : Ends} (sm : Same H0 H) (ha : H0 a = some (.lst xs)) (pa : PairsAt H0 xs ps) (g : Good ps) (hc : H0 c = some (.lst (sts cs))) (cn : Nms cs) (h8 : cs.length <= 8) (nc : H0 pc = none) (hp : H pc = some (.dT (ek (plc ps cs) ls))) (ll : ls.length = (plc ps cs).length) (nl : ls.Nodup) (hl : ∀ l ∈ ls, H0 l = none /\ H l = some (.lst [.non, .non]))
    (q : ∀ p kvs H', Same H0 H' -> H0 p = none -> H' p = some (.dT kvs) -> EndsD H' (smL ps cs) kvs -> D.rt (.ref p) H') : te_two D [some (.ref a), some (.ref c), some (.ref pc), u, v, w] H := by
  have hs := sz
  have P225 : (plc ps cs).length <= 225 := gi g h8
  have ndP : (plc ps cs).Nodup := lQ g cn
  refine ap ⟨a, c, xs, ps, cs, rfl, sm _ _ ha, pa.same sm, g, sm _ _ hc, h8, λ pz zs G1 s1 n1 t1 tz => ?_⟩
  rw [gh] at tz
  have S1 := sm.trans s1
  have nz : ∀ l ∈ ls, l ≠ pz := λ l h e => by
    have := (hl l h).2
    rw [e, n1] at this
    cases this
  have npz : pz ≠ pc := λ e => by rw [e, hp] at n1; cases n1
  have zn : ∀ {G : Hp}, TupsAt G zs ((smL ps cs).map enc) -> ∀ z ∈ zs, z ≠ V.non := λ tz z hz e => by
    obtain ⟨i, hi⟩ := List.mem_iff_getElem?.mp hz
    obtain ⟨_, t, _, e2, _⟩ := tz.at hi
    rw [e] at e2
    cases e2
  refine aj t1 (ar (xs := zs) (λ i σ G => Same H0 G /\ G pz = some (.lst zs) /\ TupsAt G zs ((smL ps cs).map enc) /\ G pc = some (.dT (ek (plc ps cs) ls)) /\ EI G (plc ps cs) ls zs (((smL ps cs).take i).flatMap (giv ps cs)) /\ ∃ u v w, σ = [some (.ref a), some (.ref c), some (.ref pc), u, v, w])
    ⟨S1, t1, tz, s1 _ _ hp, λ k p l _ h => ⟨_, _, s1 _ _ (hl l (List.mem_of_getElem? h)).2, .inl rfl, .inl rfl, λ e he => by simp at he⟩, _, _, _, rfl⟩ (λ i σ G _ h => h.2.1) ?_ ?_)
  . rintro i y σ G hy ⟨sm2, hz, tz, hg, ei, u, v, w, rfl⟩
    obtain ⟨e, t, he, rfl, ht⟩ := tz.at hy
    rw [List.getElem?_map] at he
    obtain ⟨one, ho, rfl⟩ : ∃ one, (smL ps cs)[i]? = some one /\ enc one = e := by
      cases h : (smL ps cs)[i]? with
      | none => rw [h] at he; cases he
      | some o => rw [h] at he; exact ⟨o, rfl, by simpa using he⟩
    have h1 := mem_smL.mp (List.mem_of_getElem? ho)
    refine ⟨a, c, t, xs, ps, cs, one, rfl, sm2 _ _ ha, pa.same sm2, g, sm2 _ _ hc, cn, h8, ht, h1, λ pg G2 s2 n2 t2 => ?_⟩
    have lg := oz (one := one) g h8
    have nd := giv_nd (one := one) g cn
    have gin : ∀ x ∈ giv ps cs one, x.1 ∈ plc ps cs := λ x hx => by
      have := A.kz (Good.gd g) h1 hx
      refine List.mem_flatMap.mpr ⟨x.1.1, by simpa [aa] using this.1, List.mem_map.mpr ⟨x.1.2, ?_, rfl⟩⟩
      rcases this.2 with h | h
      . simp [h]
      . simp [h]
    generalize hgl : giv ps cs one = gl at *
    have npg : pc ≠ pg := λ z => by rw [<- z, hg] at n2; cases n2
    have nzg : pz ≠ pg := λ z => by rw [<- z, hz] at n2; cases n2
    have nlg : ∀ l ∈ ls, l ≠ pg := λ l h e => by
      obtain ⟨k, hk⟩ := List.mem_iff_getElem?.mp h
      have hkl := (List.getElem?_eq_some_iff.mp hk).1
      obtain ⟨_, _, h1, _⟩ := ei k (plc ps cs)[k] l (by simp) hk
      rw [e, n2] at h1
      cases h1
    refine ap (Nu.oh t2 λ o => oi (λ j σ G' => Same H0 G' /\ G' pg = some (.frz o (.dT (gl.map gkv))) /\ G' pz = some (.lst zs) /\ TupsAt G' zs ((smL ps cs).map enc) /\ G' pc = some (.dT (ek (plc ps cs) ls)) /\ EI G' (plc ps cs) ls zs (((smL ps cs).take i).flatMap (giv ps cs) ++ gl.take j) /\ ∃ w, σ = [some (.ref a), some (.ref c), some (.ref pc), w, some (.ref t), some (.ref pg)])
      ⟨(sm2.trans s2).put (bK sm2 n2), a5, by rw [a4 nzg]; exact s2 _ _ hz, S5.TupsAt.putD (tz.same s2) t2, by rw [a4 npg]; exact s2 _ _ hg, by simpa using (ei.same s2).upd nlg, _, rfl⟩ (λ i σ G _ h => h.2.1) ?_ ?_)
    . rintro j k v t' σ G' hj ⟨sm', hpg, hz', tz', hg', ei', w, rfl⟩ ht'
      rw [List.getElem?_map] at hj
      obtain ⟨p, hpj, e⟩ : ∃ p, gl[j]? = some p /\ gkv p = (k, v) := by
        cases h : gl[j]? with
        | none => rw [h] at hj; cases hj
        | some o => rw [h] at hj; exact ⟨o, rfl, by simpa using hj⟩
      unfold gkv at e
      cases e
      have hb : G' t' = some (.tup [.str p.1.1, .str p.1.2]) := ht'
      obtain ⟨m, hm⟩ := List.mem_iff_getElem?.mp (gin p (List.mem_of_getElem? hpj))
      have hml := (List.getElem?_eq_some_iff.mp hm).1
      obtain ⟨l, hlm⟩ : ∃ l, ls[m]? = some l := ⟨ls[m], by simp⟩
      obtain ⟨x0, x1, e1, _⟩ := ei' m p.1 l hm hlm
      have lz := nz l (List.mem_of_getElem? hlm)
      have lg' := nlg l (List.mem_of_getElem? hlm)
      have ein := ei'.put ndP nl hm hlm e1 (List.mem_of_getElem? hy) (λ e => by cases e) p.2
      have lpc : pc ≠ l := λ z => by rw [z, e1] at hg'; cases hg'
      have fin : ∀ o', EI (upd G' l o') (plc ps cs) ls zs (((smL ps cs).take i).flatMap (giv ps cs) ++ gl.take j ++ [(p.1, p.2)]) -> (λ (σ : St) (G' : Hp) => Same H0 G' /\ G' pg = some (.frz o (.dT (gl.map gkv))) /\ G' pz = some (.lst zs) /\ TupsAt G' zs ((smL ps cs).map enc) /\ G' pc = some (.dT (ek (plc ps cs) ls)) /\ EI G' (plc ps cs) ls zs (((smL ps cs).take i).flatMap (giv ps cs) ++ gl.take (j + 1)) /\ ∃ w, σ = [some (.ref a), some (.ref c), some (.ref pc), w, some (.ref t), some (.ref pg)]) [some (.ref a), some (.ref c), some (.ref pc), some (.ref t'), some (.ref t), some (.ref pg)] (upd G' l o') := λ o' he =>
        ⟨sm'.put (hl l (List.mem_of_getElem? hlm)).1, by rw [a4 (Ne.symm lg')]; exact hpg, by rw [a4 (Ne.symm lz)]; exact hz', tz'.put e1, by rw [a4 lpc]; exact hg', by rw [ab hpj, <- List.append_assoc]; exact he, _, rfl⟩
      refine b7 (.inl hg') hb (mX ndP hm hlm) (b7 (.inr ⟨o, hpg⟩) hb (giv_val nd hpj) ?_)
      by_cases z : p.2 = -1
      . rw [z, if_pos rfl] at ein
        rw [z]
        exact mK e1 (j := 1) (by rfl) (fin _ (by rw [z]; exact ein))
      . rw [if_neg z] at ein
        have b : (p.2 == (-1 : Int)) = false := beq_eq_false_iff_ne.mpr z
        refine mK e1 (i := if (p.2 == (-1 : Int)) = true then 1 else 0) (j := 0) ?_ (fin _ ein)
        rw [b]
        rfl
    . rintro σ G' ⟨sm', hpg, hz', tz', hg', ei', w, rfl⟩
      rw [List.length_map, List.take_length] at ei'
      refine ⟨⟨o, hpg⟩, sm'.put (bK sm2 n2), by rw [a4 nzg]; exact hz', S5.TupsAt.putF tz' hpg, by rw [a4 npg]; exact hg', ?_, _, _, _, rfl⟩
      rw [ab ho, List.flatMap_append, List.flatMap_singleton, hgl]
      exact ei'.upd nlg
  . rintro σ G ⟨sm2, hz, tz, hg, ei, u, v, w, rfl⟩
    rw [tz.1, List.length_map, List.take_length] at ei
    refine q pc _ G sm2 nc hg ⟨by unfold ek; rw [List.length_map, List.length_zip]; omega, λ i kv hi => ?_⟩
    unfold ek at hi
    rw [List.getElem?_map] at hi
    obtain ⟨⟨p, l⟩, h1, rfl⟩ : ∃ r, ((plc ps cs).zip ls)[i]? = some r /\ (plK r.1.1 r.1.2, V.ref r.2) = kv := by
      cases h : ((plc ps cs).zip ls)[i]? with
      | none => rw [h] at hi; cases hi
      | some o => rw [h] at hi; exact ⟨o, rfl, by simpa using hi⟩
    obtain ⟨h1, h2⟩ := List.getElem?_zip_eq_some.mp h1
    obtain ⟨x0, x1, e1, e2, e3, e4⟩ := ei i p l h1 h2
    obtain ⟨⟨f, f1, f2, f3⟩, e, d1, d2, d3⟩ := qq g cn (List.mem_of_getElem? h1)
    have z1 := (e4 f f1 f2).1 f3
    have z0 := (e4 e d1 d2).2 d3
    have m0 := e2.resolve_left z0
    have m1 := e3.resolve_left z1
    have pick : ∀ x ∈ zs, ∃ t o, x = V.ref t /\ G t = some (.tup (sts (enc o))) /\ o ∈ smL ps cs := λ x hx => by
      obtain ⟨i, hi⟩ := List.mem_iff_getElem?.mp hx
      obtain ⟨r, t, h1, h2, h3⟩ := tz.at hi
      rw [List.getElem?_map] at h1
      cases h : (smL ps cs)[i]? with
      | none => rw [h] at h1; cases h1
      | some o =>
        rw [h] at h1
        cases h1
        exact ⟨t, o, h2, h3, List.mem_of_getElem? h⟩
    obtain ⟨t0, o0, rfl, a1, a2⟩ := pick x0 m0
    obtain ⟨t1, o1, rfl, b1, b2⟩ := pick x1 m1
    exact ⟨p, l, t0, t1, o0, o1, rfl, mX ndP h1 h2, e1, a1, b1, a2, b2⟩
theorem mY {a c : Addr} {xs : List V} {ps : List (Str × Str)} {cs : List Str} {H : Hp} {D : Ends} (ha : H a = some (.lst xs)) (pa : PairsAt H xs ps) (g : Good ps) (hc : H c = some (.lst (sts cs))) (cn : Nms cs) (h8 : cs.length <= 8)
    (q : ∀ p kvs H', Same H H' -> H p = none -> H' p = some (.dT kvs) -> EndsD H' (smL ps cs) kvs -> D.rt (.ref p) H') : iT D [some (.ref a), some (.ref c), none, none, none, none] H := by
  have hs := sz
  have P225 : (plc ps cs).length <= 225 := gi g h8
  have ndP : (plc ps cs).Nodup := lQ g cn
  refine .inr (af λ pc G1 n1 s1 t1 => ?_)
  refine ap ⟨a, c, xs, ps, cs, rfl, s1 _ _ ha, pa.same s1, g.many, s1 _ _ hc, h8, λ pp zp G2 s2 n2 t2 pp' => ?_⟩
  have npp : pp ≠ pc := λ e => by rw [e, t1] at n2; cases n2
  refine aj t2 (ar (xs := zp) (λ i σ G => Same H G /\ G pp = some (.lst zp) /\ PairsAt G zp (plc ps cs) /\ (∃ ls : List Addr, ls.length = i /\ G pc = some (.dT (ek ((plc ps cs).take i) ls)) /\ ls.Nodup /\ ∀ l ∈ ls, H l = none /\ G l = some (.lst [.non, .non])) /\ ∃ u, σ = [some (.ref a), some (.ref c), some (.ref pc), u, none, none])
    ⟨s1.trans s2, t2, pp', ⟨[], rfl, s2 _ _ t1, List.nodup_nil, λ l h => by cases h⟩, _, rfl⟩ (λ i σ G _ h => h.2.1) ?_ ?_)
  . rintro i y σ G hy ⟨sm, hz, pz, ⟨ls, ll, hg, nl, hl⟩, u, rfl⟩
    obtain ⟨r, t, hr, rfl, ht⟩ := pz.at hy
    have hil := (List.getElem?_eq_some_iff.mp hr).1
    refine ⟨few rfl, af λ l G3 n3 s3 t3 => ?_⟩
    have lt : ((plc ps cs).take i).length = ls.length := by rw [List.length_take]; omega
    have nr : r ∉ (plc ps cs).take i := fN ndP hr
    have lpc : l ≠ pc := λ e => by rw [e, hg] at n3; cases n3
    refine bY (s3 _ _ hg) (s3 _ _ ht) (by unfold ek; rw [List.length_map, List.length_zip]; omega) ?_
    rw [cm _ (oG nr), <- ek_snoc lt, <- ab hr]
    refine ⟨(sm.trans s3).put n1, by rw [a4 npp]; exact s3 _ _ hz, S5.PairsAt.putD (pz.same s3) (s3 _ _ hg), ⟨ls ++ [l], by simp [ll], a5, ?_, λ m hm => ?_⟩, _, rfl⟩
    . refine List.nodup_append.mpr ⟨nl, by simp, λ x hx y hy e => ?_⟩
      rw [List.mem_singleton.mp hy] at e
      have := (hl x hx).2
      rw [e, n3] at this
      cases this
    . rcases List.mem_append.mp hm with hm | hm
      . refine ⟨(hl m hm).1, ?_⟩
        rw [a4 λ e => by have := (hl m hm).2; rw [e, hg] at this; cases this]
        exact s3 _ _ (hl m hm).2
      . rw [List.mem_singleton.mp hm]
        exact ⟨bK sm n3, by rw [a4 lpc]; exact t3⟩
  . rintro σ G ⟨sm, hz, pz, ⟨ls, ll, hg, nl, hl⟩, u, rfl⟩
    have e : zp.length = (plc ps cs).length := pz.1
    rw [e, List.take_length] at hg
    exact ends_two sm ha pa g hc cn h8 n1 hg (by rw [ll, e]) nl hl q
end S5
end Tv
namespace Tv
open PySem PySem.Spec PyProof.Rows L2
namespace S5
open Nu S3
theorem EndsD.frz {H G : Hp} {S : List (A.Sm Str)} {kvs d : List (List Key × V)} {a : Addr} {f : HO} (h : EndsD H S kvs) (ha : H a = some (.dT d)) (s : Same (upd H a f) G) : EndsD G S kvs := ⟨h.1, λ i kv e => by
  obtain ⟨q, l, t0, t1, o0, o1, h1, h2, h3, h4, h5, h6, h7⟩ := h.2 i kv e
  exact ⟨q, l, t0, t1, o0, o1, h1, h2, s _ _ (by rw [a4 λ z => by rw [z, ha] at h3; cases h3]; exact h3), s _ _ (by rw [a4 λ z => by rw [z, ha] at h4; cases h4]; exact h4), s _ _ (by rw [a4 λ z => by rw [z, ha] at h5; cases h5]; exact h5), h6, h7⟩⟩
theorem oH {H : Hp} {t : Addr} {M : List (A.Sm Str)} {o : A.Sm Str} (ht : H t = some (.tup (sts (enc o)))) (h : (((M.map enc).map ca).any λ e => PyData.eqv e (ca (enc o))) = false) : o ∉ M := λ m => by
  have : (((M.map enc).map ca).any λ e => PyData.eqv e (ca (enc o))) = true := List.any_eq_true.mpr ⟨ca (enc o), List.mem_map.mpr ⟨_, List.mem_map.mpr ⟨o, m, rfl⟩, rfl⟩, i5 7 (.ref t) _ (eB 6 ht)⟩
  rw [h] at this
  cases this
theorem kE {H : Hp} {t : Addr} {p : Str × Str} (h : H t = some (.tup [.str p.1, .str p.2])) : rdD 7 H (.ref t) = some (pairD p) := eB (l := [p.1, p.2]) 6 h
def oI (m n : Nat) : TS :=
  (sIf (e9 (bT (tOp (inG true) (gv 8) (gv 3))) (e9 (bT (tOp (inG false) (gv m) (gv 5))) (bT (tOp (inG true) (gv n) (gv 5)))))
        (cj (cW "append" (gv 7) (a3 (gv n) a8)))
        ay)
def tc_in : TS := (aN (iOf aq (gv 2)) (a6 8)
      (ad (ah (tOp aw (gv 2) (gv 8)) (nJ 2 (b5 (a6 9) (b5 (a6 10) fB))))
      (ad (oI 9 10) (oI 10 9))))
def tc_fin (K : PySem.W.Frag) : TS := (sIf (bT (tOp neG (gv 7) (aH a8)))
      (cj (cW "append" (gv 5) (a3 (tOp aw (gv 7) (tOp aU (am (a9 K) [] E0 (a3 (gv 0) (a3 (tOp aT (tOp aT (gv 4) (tC (.int 1))) (gv 6)) a8))) (tCB fk (a3 (gv 7) a8)))) a8)))
      ay)
def gC (K : PySem.W.Frag) : TS :=
  (ad (ah (aH (a3 (tOp aw (gv 1) (tOp aU (tOp bh (am (a9 K) [] E0 (a3 (gv 0) (a3 (gv 4) a8))) (tC (.int 5))) (tCB fk (a3 (gv 1) a8)))) a8)) (a6 5))
  (ad (aN (dL (a3 (tOp aU (am (a9 K) [] E0 (a3 (gv 0) (a3 (gv 4) a8))) (tC (.int 5))) a8)) (a6 6)
    (ad (ah (aH a8) (a6 7))
    (ad tc_in
    (tc_fin K))))
  (aD (gv 5))))
section
variable {K : PySem.W.Frag} {c0 c1 c2 c4 c6 : Option V} {pk pch pn tp t0 t1 : Addr} {ws ys nl : List V} {KN : List (Str × Str)} {M N : List (A.Sm Str)} {p : Str × Str} {o0 o1 : A.Sm Str} {H : Hp} {D : Ends}
theorem r_if_a (hk : H pk = some (.lst ws)) (pw : PairsAt H ws KN) (hc : H pch = some (.lst ys)) (ty : TupsAt H ys (M.map enc)) (hn : H pn = some (.lst nl)) (ln : nl.length < sizeLine) (htp : H tp = some (.tup [.str p.1, .str p.2])) (h0 : H t0 = some (.tup (sts (enc o0)))) (h1 : H t1 = some (.tup (sts (enc o1))))
    (q1 : D.nx [c0, c1, c2, some (.ref pk), c4, some (.ref pch), c6, some (.ref pn), some (.ref tp), some (.ref t0), some (.ref t1)] H)
    (q2 : o1 ∉ M -> D.nx [c0, c1, c2, some (.ref pk), c4, some (.ref pch), c6, some (.ref pn), some (.ref tp), some (.ref t0), some (.ref t1)] (upd H pn (.lst (nl ++ [.ref t1])))) :
    oI 9 10 D [c0, c1, c2, some (.ref pk), c4, some (.ref pch), c6, some (.ref pn), some (.ref tp), some (.ref t0), some (.ref t1)] H := by
  refine fL hk (pw.rd 5) (kE htp) (aR (λ _ => ?_) (λ _ => bb rfl q1))
  refine fL hc (ty.rd 6) (eB 6 h0) (aR (λ _ => ?_) (λ _ => bb rfl q1))
  refine fL hc (ty.rd 6) (eB 6 h1) (aR (λ b => ?_) (λ _ => q1))
  refine cO hn (bB hn ln (q2 (oH h1 ?_)))
  have b : (true ^^ (((M.map enc).map ca).any λ e => PyData.eqv e (ca (enc o1)))) = true := b
  simpa using b
theorem r_if_b (hk : H pk = some (.lst ws)) (pw : PairsAt H ws KN) (hc : H pch = some (.lst ys)) (ty : TupsAt H ys (M.map enc)) (hn : H pn = some (.lst nl)) (ln : nl.length < sizeLine) (htp : H tp = some (.tup [.str p.1, .str p.2])) (h0 : H t0 = some (.tup (sts (enc o0)))) (h1 : H t1 = some (.tup (sts (enc o1))))
    (q1 : D.nx [c0, c1, c2, some (.ref pk), c4, some (.ref pch), c6, some (.ref pn), some (.ref tp), some (.ref t0), some (.ref t1)] H)
    (q2 : o0 ∉ M -> D.nx [c0, c1, c2, some (.ref pk), c4, some (.ref pch), c6, some (.ref pn), some (.ref tp), some (.ref t0), some (.ref t1)] (upd H pn (.lst (nl ++ [.ref t0])))) :
    oI 10 9 D [c0, c1, c2, some (.ref pk), c4, some (.ref pch), c6, some (.ref pn), some (.ref tp), some (.ref t0), some (.ref t1)] H := by
  refine fL hk (pw.rd 5) (kE htp) (aR (λ _ => ?_) (λ _ => bb rfl q1))
  refine fL hc (ty.rd 6) (eB 6 h1) (aR (λ _ => ?_) (λ _ => bb rfl q1))
  refine fL hc (ty.rd 6) (eB 6 h0) (aR (λ b => ?_) (λ _ => q1))
  refine cO hn (bB hn ln (q2 (oH h0 ?_)))
  have b : (true ^^ (((M.map enc).map ca).any λ e => PyData.eqv e (ca (enc o0)))) = true := b
  simpa using b
theorem r_near {pe : Addr} {kvs : List (List Key × V)} {S : List (A.Sm Str)} {u8 u9 u10 : Option V} {G0 : Hp} (he : G0 pe = some (.dT kvs)) (en : EndsD G0 S kvs) (hk : G0 pk = some (.lst ws)) (pw : PairsAt G0 ws KN) (hc : G0 pch = some (.lst ys)) (ty : TupsAt G0 ys (M.map enc)) (s1 : Same G0 H) (nn : G0 pn = none) (hn : H pn = some (.lst []))
    (q : ∀ (nl : List V) (N : List (A.Sm Str)) u8 u9 u10 H', Same G0 H' -> H' pn = some (.lst nl) -> TupsAt H' nl (N.map enc) -> nl.length <= 450 -> (∀ o ∈ N, o ∈ S /\ o ∉ M) -> D.nx [c0, c1, some (.ref pe), some (.ref pk), c4, some (.ref pch), c6, some (.ref pn), u8, u9, u10] H') :
    tc_in D [c0, c1, some (.ref pe), some (.ref pk), c4, some (.ref pch), c6, some (.ref pn), u8, u9, u10] H := by
  have hs := sz
  have npe : pn ≠ pe := λ z => by rw [z, he] at nn; cases nn
  have lst_ne : ∀ {b : Addr} {xs : List V}, G0 b = some (.lst xs) -> b ≠ pe := λ h z => by rw [z, he] at h; cases h
  refine ap (Nu.oh (s1 _ _ he) λ o => oi (λ i σ G => Same (upd G0 pe (.frz o (.dT kvs))) G /\ (∃ (nl : List V) (N : List (A.Sm Str)), G pn = some (.lst nl) /\ TupsAt G nl (N.map enc) /\ nl.length <= 2 * i /\ ∀ o ∈ N, o ∈ S /\ o ∉ M) /\ ∃ u8 u9 u10, σ = [c0, c1, some (.ref pe), some (.ref pk), c4, some (.ref pch), c6, some (.ref pn), u8, u9, u10])
    ⟨iB s1, ⟨[], [], by rw [a4 npe]; exact hn, .nil, by simp, λ o h => by cases h⟩, _, _, _, rfl⟩ (λ i σ G _ h => h.1 _ _ a5) ?_ ?_)
  . rintro i k v t σ G hi ⟨sm, ⟨nl, N, hg, tn, ln, hN⟩, u8, u9, u10, rfl⟩ ht
    obtain ⟨r, l, t0, t1, o0, o1, e, hv, e1, e2, e3, i0, i1⟩ := (en.frz he sm).2 i _ hi
    cases e
    have hil := (List.getElem?_eq_some_iff.mp hi).1
    have l225 := en.1
    have ht : G t = some (.tup [.str r.1, .str r.2]) := ht
    have hkG : G pk = some (.lst ws) := sm _ _ (by rw [a4 (lst_ne hk)]; exact hk)
    have hcG : G pch = some (.lst ys) := sm _ _ (by rw [a4 (lst_ne hc)]; exact hc)
    have pwG : PairsAt G ws KN := (S5.PairsAt.putD pw he).same sm
    have tyG : TupsAt G ys (M.map enc) := (S5.TupsAt.putD ty he).same sm
    have ncn : pch ≠ pn := λ z => by rw [z, nn] at hc; cases hc
    have nkn : pk ≠ pn := λ z => by rw [z, nn] at hk; cases hk
    refine b7 (.inr ⟨o, sm _ _ a5⟩) ht hv ⟨l, [.ref t0, .ref t1], rfl, .inr (.inl e1), rfl, _, _, rfl, _, _, rfl, rfl, ?_⟩
    have fn : upd G0 pe (.frz o (.dT kvs)) pn = none := by rw [a4 npe]; exact nn
    refine r_if_a hkG pwG hcG tyG hg (by omega) ht e2 e3 ?_ λ m1 => ?_
    . refine r_if_b hkG pwG hcG tyG hg (by omega) ht e2 e3 ⟨sm, ⟨nl, N, hg, tn, by omega, hN⟩, _, _, _, rfl⟩ λ m0 => ⟨sm.put fn, ⟨_, N ++ [o0], a5, ?_, by simp; omega, λ z hz => ?_⟩, _, _, _, rfl⟩
      . rw [List.map_append]
        exact (tn.snoc e2).put hg
      . rcases List.mem_append.mp hz with hz | hz
        . exact hN z hz
        . rw [List.mem_singleton.mp hz]
          exact ⟨i0, m0⟩
    . have w : ∀ {b : Addr} {xs : List V}, G b = some (.tup xs) -> upd G pn (.lst (nl ++ [.ref t1])) b = some (.tup xs) := λ h => by
        rw [a4 λ z => by rw [z, hg] at h; cases h]
        exact h
      refine r_if_b (by rw [a4 nkn]; exact hkG) (pwG.put hg) (by rw [a4 ncn]; exact hcG) (tyG.put hg) a5 (by simp; omega) (w ht) (w e2) (w e3) ⟨sm.put fn, ⟨_, N ++ [o1], a5, ?_, by simp; omega, λ z hz => ?_⟩, _, _, _, rfl⟩ λ m0 => ⟨(sm.put fn).put fn, ⟨_, N ++ [o1] ++ [o0], a5, ?_, by simp; omega, λ z hz => ?_⟩, _, _, _, rfl⟩
      . rw [List.map_append]
        exact (tn.snoc e3).put hg
      . rcases List.mem_append.mp hz with hz | hz
        . exact hN z hz
        . rw [List.mem_singleton.mp hz]
          exact ⟨i1, m1⟩
      . rw [List.map_append, List.map_append]
        exact (((tn.snoc e3).put hg).snoc (w e2)).put a5
      . rcases List.mem_append.mp hz with hz | hz
        . rcases List.mem_append.mp hz with hz | hz
          . exact hN z hz
          . rw [List.mem_singleton.mp hz]
            exact ⟨i1, m1⟩
        . rw [List.mem_singleton.mp hz]
          exact ⟨i0, m0⟩
  . rintro σ G ⟨sm, ⟨nl, N, hg, tn, ln, hN⟩, u8, u9, u10, rfl⟩
    have l225 := en.1
    exact ⟨⟨o, sm _ _ a5⟩, q nl N _ _ _ _ (ge he sm) (by rw [a4 npe]; exact hg) (S5.TupsAt.putF tn (sm _ _ a5)) (by omega) hN⟩
end
end S5
end Tv
namespace Tv
open PySem PySem.Spec PyProof.Rows L2
namespace S5
open Nu S3
section
variable {K : PySem.W.Frag}
def ci (K : PySem.W.Frag) : Sp := λ vs H Q _ => ∃ (a pz pe pk : Addr) (k : Int) (ns : List Int) (zs ws : List V) (kvs : List (List Key × V)) (KN : List (Str × Str)) (S : List (A.Sm Str)), vs = [.ref a, .ref pz, .ref pe, .ref pk, .int k] /\ SqL K H a (ns.map V.int) /\ 0 <= k /\ H pz = some (.lst zs) /\ TupsAt H zs (S.map enc) /\ 1 <= S.length /\ S.length <= 300 /\ H pe = some (.dT kvs) /\ EndsD H S kvs /\ H pk = some (.lst ws) /\ PairsAt H ws KN ∧
  ∀ p (ys : List V) (M : List (A.Sm Str)) H', Same H H' -> H p = none -> H' p = some (.lst ys) -> TupsAt H' ys (M.map enc) -> (∀ o ∈ M, o ∈ S) -> M.Nodup -> M.length <= 300 -> M ≠ [] -> Q (.ref p) H'
theorem lt_eqv (x : List Str) (ls : List (List Str)) : PyData.eqv (.list ((x :: ls).map ca)) (.list []) = false := by
  rw [PyData.eqv]
  rfl
theorem lW {a pz pe pk : Addr} {k : Int} {ns : List Int} {zs ws : List V} {kvs : List (List Key × V)} {KN : List (Str × Str)} {S : List (A.Sm Str)} {H : Hp} {D : Ends} (hS : SqL K H a (ns.map V.int)) (h0 : 0 <= k) (hz : H pz = some (.lst zs)) (tz : TupsAt H zs (S.map enc)) (s1 : 1 <= S.length) (s300 : S.length <= 300) (he : H pe = some (.dT kvs)) (en : EndsD H S kvs) (hk : H pk = some (.lst ws)) (pw : PairsAt H ws KN)
    (q : ∀ p (ys : List V) (M : List (A.Sm Str)) H', Same H H' -> H p = none -> H' p = some (.lst ys) -> TupsAt H' ys (M.map enc) -> (∀ o ∈ M, o ∈ S) -> M.Nodup -> M.length <= 300 -> M ≠ [] -> D.rt (.ref p) H') :
    gC K D [some (.ref a), some (.ref pz), some (.ref pe), some (.ref pk), some (.int k), none, none, none, none, none, none] H := by
  have hs := sz
  have lz : zs.length = S.length := by rw [tz.1, List.length_map]
  have pick : ∀ {L : List (A.Sm Str)} {xs : List V} {G : Hp} {c : Int}, TupsAt G xs (L.map enc) -> 1 <= L.length -> ∃ (t : Addr) (o : A.Sm Str), atI xs (c % (xs.length : Int)) = some (.ref t) /\ G t = some (.tup (sts (enc o))) /\ o ∈ L := λ {L xs G c} tx l1 => by
    have lx : xs.length = L.length := by rw [tx.1, List.length_map]
    have m1 := Int.emod_nonneg c (show ((xs.length : Nat) : Int) ≠ 0 by omega)
    have m2 := Int.emod_lt_of_pos c (show 0 < ((xs.length : Nat) : Int) by omega)
    obtain ⟨j, hj⟩ : ∃ j : Nat, c % ((xs.length : Nat) : Int) = j := ⟨(c % ((xs.length : Nat) : Int)).toNat, by omega⟩
    rw [hj] at m2 ⊢
    have hjl : j < L.length := by omega
    obtain ⟨t, e1, e2⟩ := tx.2 j (enc L[j]) (by rw [List.getElem?_map, List.getElem?_eq_getElem hjl]; rfl)
    exact ⟨t, L[j], bm e1, e2, List.getElem_mem _⟩
  refine ⟨a, ns, k, rfl, hS, h0, ⟨by decide, by decide⟩, cY hz ⟨by omega, ?_⟩⟩
  obtain ⟨t, o, e1, e2, e3⟩ := pick (c := aO ns k / 5) tz s1
  refine bg hz e1 ⟨few rfl, af λ pch G1 n1 u1 t1 => ?_⟩
  refine ap ⟨a, ns, k, rfl, u1.seq hS, h0, by decide, ?_⟩
  have m1 := Int.emod_nonneg (aO ns k) (show (5 : Int) ≠ 0 by decide)
  have m2 := Int.emod_lt_of_pos (aO ns k) (show (0 : Int) < 5 by decide)
  generalize aO ns k % 5 = m at *
  refine ⟨⟨by omega, by omega⟩, ?_⟩
  refine bA (λ i σ G => Same H G /\ (∃ (ys : List V) (M : List (A.Sm Str)), G pch = some (.lst ys) /\ TupsAt G ys (M.map enc) /\ (∀ o ∈ M, o ∈ S) /\ M.Nodup /\ M.length <= i + 1 /\ M ≠ []) /\ ∃ u6 u7 u8 u9 u10, σ = [some (.ref a), some (.ref pz), some (.ref pe), some (.ref pk), some (.int k), some (.ref pch), u6, u7, u8, u9, u10])
    ⟨u1, ⟨[.ref t], [o], t1, TupsAt.one (u1 _ _ e2), λ o' h => by rw [List.mem_singleton.mp h]; exact e3, by simp, by simp, by simp⟩, _, _, _, _, _, rfl⟩ ?_ ?_
  . rintro i σ G hi ⟨sm, ⟨ys, M, hg, ty, hM, nd, lM, ne⟩, u6, u7, u8, u9, u10, rfl⟩
    refine ⟨few rfl, af λ pn G2 n2 u2 t2 => ?_⟩
    refine r_near (G0 := G) (sm _ _ he) (en.same sm) (sm _ _ hk) (pw.same sm) hg ty u2 n2 t2 λ nl N u8 u9 u10 G3 s3 hn tn ln hN => ?_
    refine ⟨few rfl, af λ px G4 n4 s4 t4 => ?_⟩
    have hn4 := s4 _ _ hn
    have tn4 := tn.same s4
    have S4 := sm.trans (s3.trans s4)
    have hg4 := (s3.trans s4) _ _ hg
    refine eq_i (oa 6 hn4 tn4) (show rdD 8 G4 (.ref px) = some (.list []) from oa 6 t4 (ls := []) .nil) ?_
    cases N with
    | nil => exact bb (by rw [show PyData.eqv (.list ((([] : List (A.Sm Str)).map enc).map ca)) (.list []) = true from mL []]; rfl) ⟨S4, ⟨ys, M, hg4, ty.same (s3.trans s4), hM, nd, by omega, ne⟩, _, _, _, _, _, rfl⟩
    | cons n N =>
      refine bO (by rw [List.map_cons, lt_eqv]; rfl) ?_
      refine cO hg4 ⟨a, ns, _, rfl, S4.seq hS, by omega, cY hn4 ⟨?_, ?_⟩⟩
      . have : nl.length = (n :: N).length := by rw [tn.1, List.length_map]
        rw [this, List.length_cons]
        omega
      obtain ⟨t, o, e1, e2, e3⟩ := pick (c := aO ns (k + 1 + (0 + (i : Int)))) tn4 (by simp)
      have := hN o e3
      refine bg hn4 e1 (bB hg4 ?_ ⟨S4.put n1, ⟨_, M ++ [o], a5, ?_, λ o' h => ?_, ?_, by simp; omega, by simp⟩, _, _, _, _, _, rfl⟩)
      . rw [ty.1, List.length_map]
        have := hi
        omega
      . rw [List.map_append]
        exact ((ty.same (s3.trans s4)).snoc e2).put hg4
      . rcases List.mem_append.mp h with h | h
        . exact hM o' h
        . rw [List.mem_singleton.mp h]
          exact this.1
      . refine List.nodup_append.mpr ⟨nd, by simp, λ x hx y hy e => ?_⟩
        rw [List.mem_singleton.mp hy] at e
        exact this.2 (e ▸ hx)
  . rintro σ G ⟨sm, ⟨ys, M, hg, ty, hM, nd, lM, ne⟩, u6, u7, u8, u9, u10, rfl⟩
    exact q pch ys M G sm n1 hg ty hM nd (by omega) ne
end
end S5
end Tv
namespace Tv
open PySem PySem.Spec PyProof.Rows L2
namespace S5
open Nu S3
def PlsIn (H : Hp) (R : Str × Str -> Prop) (xs : List V) : Prop := ∀ x ∈ xs, ∃ (t : Addr) (q : Str × Str), x = V.ref t /\ H t = some (.tup [.str q.1, .str q.2]) /\ R q
theorem PlsIn.same {H G : Hp} {R : Str × Str -> Prop} {xs : List V} (h : PlsIn H R xs) (s : Same H G) : PlsIn G R xs := λ x hx => by
  obtain ⟨t, q, h1, h2, h3⟩ := h x hx
  exact ⟨t, q, h1, s _ _ h2, h3⟩
theorem PlsIn.put {H : Hp} {R : Str × Str -> Prop} {xs ys : List V} {l : Addr} {o : HO} (h : PlsIn H R xs) (hl : H l = some (.lst ys)) : PlsIn (upd H l o) R xs := λ x hx => by
  obtain ⟨t, q, h1, h2, h3⟩ := h x hx
  exact ⟨t, q, h1, by rw [a4 λ z => by rw [z, hl] at h2; cases h2]; exact h2, h3⟩
theorem PlsIn.of {H : Hp} {xs : List V} {ps : List (Str × Str)} (h : PairsAt H xs ps) : PlsIn H (λ q => q ∈ ps) xs := λ x hx => by
  obtain ⟨i, hi⟩ := List.mem_iff_getElem?.mp hx
  obtain ⟨q, t, h1, h2, h3⟩ := h.at hi
  exact ⟨t, q, h2, h3, List.mem_of_getElem? h1⟩
theorem PlsIn.pairs {H : Hp} {R : Str × Str -> Prop} : ∀ {xs : List V}, PlsIn H R xs -> ∃ L, PairsAt H xs L /\ ∀ q ∈ L, R q
  | [], _ => ⟨[], .nil, λ q h => by cases h⟩
  | x :: xs, h => by
    obtain ⟨t, q, h1, h2, h3⟩ := h x (by simp)
    obtain ⟨L, h4, h5⟩ := PlsIn.pairs (xs := xs) λ y hy => h y (by simp [hy])
    subst h1
    refine ⟨q :: L, ⟨by simp [h4.1], λ i r e => ?_⟩, λ r hr => ?_⟩
    . cases i with
      | zero =>
        simp at e
        subst e
        exact ⟨t, rfl, h2⟩
      | succ i => exact h4.2 i r (by simpa using e)
    . rcases List.mem_cons.mp hr with rfl | hr
      . exact h3
      . exact h5 r hr
theorem ints_put {kvs : List (List Key × V)} {k : List Key} {i : Int} (h : eC kvs) : eC (b8 kvs k (.int i)) := by
  unfold b8
  split
  . intro kv hkv
    obtain ⟨x, hx, rfl⟩ := List.mem_map.mp hkv
    split
    . exact ⟨i, rfl⟩
    . exact h x hx
  . intro kv hkv
    rcases List.mem_append.mp hkv with hkv | hkv
    . exact h kv hkv
    . rw [List.mem_singleton.mp hkv]
      exact ⟨i, rfl⟩
theorem kF {xs : List V} {lo hi : Option Int} {x : V} (h : x ∈ iU xs lo hi) : x ∈ xs := by
  unfold iU at h
  exact List.mem_of_mem_drop (List.mem_of_mem_take h)
theorem lX {a : Addr} {ys : List V} {R C : Str × Str -> Prop} {tn : List Str} {fr : List (Str × Nat)} {g : TG} {tt : TT} {te : TE} {σ : St} {H : Hp} {Q : VK} (ha : H a = some (.lst ys)) (hz : ys.length < sizeLine) (hy : PlsIn H R ys)
    (turn : ∀ (t : Addr) (q : Str × Str), H t = some (.tup [.str q.1, .str q.2]) -> R q -> ∀ (G : Hp) (k : VK) (B : Hp -> Prop), Same H G -> (C q -> k (.ref t) G) -> B G -> g (.ref t) (inn tn fr σ) G λ σ2 G2 => tt σ2 G2 λ b G3 => br b (te σ2 G3 k) (B G3))
    (fin : ∀ p zs G, H p = none -> Same H G -> G p = some (.lst zs) -> PlsIn G (λ q => R q /\ C q) zs -> zs.length <= ys.length -> Q (.ref p) G) : bF (gE a) tn fr g tt te σ H Q := by
  unfold bF
  intro p hp
  refine ⟨λ i m G => m = ys.length - i /\ i <= ys.length /\ Same H G /\ ∃ zs, G p = some (.lst zs) /\ PlsIn G (λ q => R q /\ C q) zs /\ zs.length <= i, ⟨_, rfl, Nat.zero_le _, bw hp, [], a5, λ x hx => (by cases hx), Nat.le_refl _⟩, ?_⟩
  rintro i m G ⟨rfl, hi, sm, zs, hg, pz, lz⟩
  have hyG := sm _ _ ha
  by_cases hlt : i < ys.length
  . refine .inr ⟨⟨ys, ys[i], .inl hyG, by simp [hlt]⟩, λ G' => Same H G' /\ ∃ zs, G' p = some (.lst zs) /\ PlsIn G' (λ q => R q /\ C q) zs /\ zs.length <= i + 1, λ G' h => ⟨_, by omega, rfl, hlt, h⟩, λ x G' y => ?_⟩
    obtain ⟨rfl, y⟩ := y
    have hx := y ys (.inl hyG)
    obtain ⟨t, q, rfl, h2, h3⟩ := hy x (List.mem_of_getElem? hx)
    refine turn t q h2 h3 _ _ _ sm (λ hc => ⟨zs, hg, by omega, sm.put hp, _, a5, λ z hz => ?_, by simp; omega⟩) ⟨sm, zs, hg, pz, by omega⟩
    rcases List.mem_append.mp hz with hz | hz
    . exact PlsIn.put pz hg z hz
    . rw [List.mem_singleton.mp hz]
      refine ⟨t, q, rfl, ?_, h3, hc⟩
      have := sm _ _ h2
      rw [a4 λ z => by rw [z, hg] at this; cases this]
      exact this
  . have e : i = ys.length := by omega
    subst e
    exact .inl ⟨⟨ys, .inl hyG, Nat.le_refl _⟩, fin p zs G hp sm hg pz lz⟩
end S5
end Tv
namespace Tv
open PySem PySem.Spec PyProof.Rows L2
namespace S5
open Nu S3
section
variable {K : PySem.W.Frag} {cl : Addr}
def tl_place (cl : Addr) : TS := (sIf (fA (ptG (am (cS cl) [] E0 (a3 (gv 3) (a3 (gv 12) (a3 (aH (a3 (gv 8) (a3 (gv 9) a8))) (a3 (gv 13) (a3 (gv 17) a8))))))))
        (aD (tC (.bl false)))
        ay)
def tl_end (K : PySem.W.Frag) (cl : Addr) : TS :=
  (ad (aN (dL (a3 (tC (.int 3)) a8)) (a6 16)
    (ad (ah (am (ci K) [] E0 (a3 (gv 0) (a3 (gv 5) (a3 (gv 6) (a3 (gv 11) (a3 (tOp aT (tC (.int 42)) (tOp d6 (tC (.int 6)) (gv 16))) a8)))))) (a6 17))
    (aN (iOf aq (tSl slG (gv 15) fE (l6 (tC (.int 16))))) (a6 13)
      (tl_place cl))))
  (aD (tC (.bl true))))
def oJ (K : PySem.W.Frag) (cl : Addr) : TS :=
  (ad (ah (tOp aU (am (a9 K) [] E0 (a3 (gv 0) (a3 (tC (.int 41)) a8))) (tCB fk (a3 (gv 4) a8))) (a6 14))
  (ad (ah (aZ (iOf aq (tOp aT (tSl slG (gv 4) (l6 (gv 14)) fE) (tSl slG (gv 4) fE (l6 (gv 14))))) ["_law_place"] [("_law_known_here", 11)] (a6 0) (bT (tOp (inG true) (gv 0) (gv 1))) (gv 0)) (a6 15))
  (tl_end K cl)))
def tl_num (K : PySem.W.Frag) (cl : Addr) : TS :=
  (ad (ah fK (a6 12))
  (ad (aN (iOf aq (gv 11)) (a6 13)
    (ah (tOp aw (gv 8) (gv 13)) (dS (gv 12) (gv 13) bV)))
  (oJ K cl)))
def lY (K : PySem.W.Frag) (cl : Addr) : TS :=
  (ad (ah (aZ (iOf aq (gv 4)) ["_law_place"] [("_law_left", 10), ("_law_other_here", 9), ("_law_table", 8)] (a6 0) (e9 (bT (tOp eqG (tOp aw (gv 3) (gv 0)) (tOp aw (gv 2) (gv 0)))) (bT (tOp (inG true) (gv 0) (gv 1)))) (gv 0)) (a6 11))
  (tl_num K cl))
def oK (K : PySem.W.Frag) (cl : Addr) : TS :=
  (ad (ah (am (c9 K) [] E0 (a3 (gv 0) a8)) (a6 1))
  (ad (ah (am (bD K) [] E0 (a3 (gv 0) a8)) (a6 2))
  (ad (ah (nB cl (bj cl) [] E0 (a3 (gv 1) (a3 (gv 2) a8))) (a6 3))
  (ad (ah (am ax [] E0 (a3 (gv 1) (a3 (gv 2) a8))) (a6 4))
  (ad (ah (am S.b9 [] E0 (a3 (gv 1) (a3 (gv 2) a8))) (a6 5))
  (ad (ah (am cT [] E0 (a3 (gv 1) (a3 (gv 2) a8))) (a6 6))
  (ad (ah (am (bE K) [] E0 (a3 (gv 0) (a3 (tOp aT (tC (.int 3)) (tCB fk (a3 (gv 1) a8))) (a3 (tOp d6 (tCB fk (a3 (am S.aI [] E0 (a3 (gv 1) a8)) a8)) (tCB fk (a3 (gv 2) a8))) a8)))) (a6 7))
  (ad (ah (am aQ [] E0 (a3 (gv 1) (a3 (gv 2) (a3 (gv 7) a8)))) (a6 8))
  (ad (ah (am (cg K) [] E0 (a3 (gv 0) (a3 (gv 1) (a3 (gv 2) (a3 (gv 7) a8))))) (a6 9))
  (ad (ah (am (cf K) [] E0 (a3 (gv 0) (a3 (gv 4) (a3 (tC (.int 40)) a8)))) (a6 10))
  (lY K cl)))))))))))
structure L52 (K : PySem.W.Frag) (cl : Addr) (H : Hp) (a x pp pd pe pt po : Addr) (ns : List Int) (ps : List (Str × Str)) (cs : List Str) (zp zs : List V) (kvs kt ko : List (List Key × V)) (T U : Str × Str -> Int) : Prop where
  scr : SqL K H a (ns.map V.int)
  hou : HouseAt cl H x ps cs
  pl : H pp = some (.lst zp)
  plp : PairsAt H zp (plc ps cs)
  su : H pd = some (.lst zs)
  sut : TupsAt H zs ((smL ps cs).map enc)
  en : H pe = some (.dT kvs)
  ene : EndsD H (smL ps cs) kvs
  tb : H pt = some (.dT kt)
  tbf : FilD kt (plc ps cs) λ c d => T (c, d)
  ot : H po = some (.dT ko)
  otf : FilD ko (plc ps cs) λ c d => U (c, d)
  t0 : ∀ q ∈ plc ps cs, 0 <= T q
  u0 : ∀ q ∈ plc ps cs, 0 <= U q
  tz : ∀ M, (∀ o ∈ M, o ∈ smL ps cs) -> A.sg (plc ps cs) (λ q => d5 ps cs M q.1 q.2 * T q) = 0
  uz : ∀ M, (∀ o ∈ M, o ∈ smL ps cs) -> A.sg (plc ps cs) (λ q => d5 ps cs M q.1 q.2 * U q) = 0
variable {a x pp pd pe pt po : Addr} {ns : List Int} {ps : List (Str × Str)} {cs : List Str} {zp zs : List V} {kvs kt ko : List (List Key × V)} {T U : Str × Str -> Int}
theorem L52.same {H G : Hp} (h : L52 K cl H a x pp pd pe pt po ns ps cs zp zs kvs kt ko T U) (s : Same H G) : L52 K cl G a x pp pd pe pt po ns ps cs zp zs kvs kt ko T U :=
  ⟨s.seq h.scr, h.hou.same s, s _ _ h.pl, h.plp.same s, s _ _ h.su, h.sut.same s, s _ _ h.en, h.ene.same s, s _ _ h.tb, h.tbf, s _ _ h.ot, h.otf, h.t0, h.u0, h.tz, h.uz⟩
variable {c1 c2 c7 c10 c13 c14 c16 c17 : Option V} {pk pn psm : Addr} {wk ws : List V} {kn : List (List Key × V)} {KN : List (Str × Str)} {H : Hp} {D : Ends}
def NumOk (kn : List (List Key × V)) (T U : Str × Str -> Int) : Prop := eC kn /\ ∀ (q : Str × Str) v, ak kn (plK q.1 q.2) = some v -> v = .int (T q) /\ T q = U q
theorem L52.len {H : Hp} (h : L52 K cl H a x pp pd pe pt po ns ps cs zp zs kvs kt ko T U) : zp.length <= 225 /\ 1 <= zp.length := by
  have e := h.plp.1
  have := gi h.hou.good h.hou.many
  have this : (plc ps cs).length <= 225 := this
  have l : (plc ps cs).length = _ := eO _ _
  rw [List.length_cons, List.length_append, List.length_singleton] at l
  have p1 : 1 <= (plc ps cs).length := by
    rw [l]
    exact Nat.mul_pos (by omega) (by omega)
  omega
theorem r52_end (h : L52 K cl H a x pp pd pe pt po ns ps cs zp zs kvs kt ko T U) (hk : H pk = some (.lst wk)) (pw : PairsAt H wk KN) (hn : H pn = some (.dT kn)) (nk : NumOk kn T U) (hs' : H psm = some (.lst ws)) (pl : PlsIn H (λ q => q ∈ plc ps cs) ws) (q : ∀ H', D.rt (.bl true) H') :
    tl_end K cl D [some (.ref a), c1, c2, some (.ref x), some (.ref pp), some (.ref pd), some (.ref pe), c7, some (.ref pt), some (.ref po), c10, some (.ref pk), some (.ref pn), c13, c14, some (.ref psm), c16, c17] H := by
  have hz := sz
  have sl : 1 <= (smL ps cs).length /\ (smL ps cs).length <= 300 := by
    refine ⟨?_, smL_len h.hou.good h.hou.many⟩
    unfold smL
    rw [List.length_append, List.length_map, List.length_cons]
    omega
  refine ap ⟨⟨by decide, by decide⟩, ?_⟩
  refine bA (λ i σ G => Same H G /\ ∃ u13 u16 u17, σ = [some (.ref a), c1, c2, some (.ref x), some (.ref pp), some (.ref pd), some (.ref pe), c7, some (.ref pt), some (.ref po), c10, some (.ref pk), some (.ref pn), u13, c14, some (.ref psm), u16, u17])
    ⟨Same.refl H, _, _, _, rfl⟩ ?_ ?_
  . rintro i σ G hi ⟨sm, u13, u16, u17, rfl⟩
    have hG := h.same sm
    have hi : i < 3 := by simpa using hi
    refine ⟨aB (by omega) (by omega), ?_⟩
    refine ⟨a, pd, pe, pk, _, ns, zs, wk, kvs, KN, smL ps cs, rfl, hG.scr, by omega, hG.su, hG.sut, sl.1, sl.2, hG.en, hG.ene, sm _ _ hk, pw.same sm, λ pc ys M G1 s1 n1 t1 ty hM nd lM ne => ?_⟩
    have S1 := sm.trans s1
    refine ap (slL_i (S1 _ _ hs') (af λ pj G2 n2 s2 t2 => ?_))
    have S2 := S1.trans s2
    refine aj t2 (ar (xs := iU ws none (some 16)) (λ j σ G' => Same G2 G' /\ ∃ u13, σ = [some (.ref a), c1, c2, some (.ref x), some (.ref pp), some (.ref pd), some (.ref pe), c7, some (.ref pt), some (.ref po), c10, some (.ref pk), some (.ref pn), u13, c14, some (.ref psm), some (.int (0 + i)), some (.ref pc)])
      ⟨Same.refl _, _, rfl⟩ (λ j σ G' _ h => h.1 _ _ t2) ?_ ?_)
    . rintro j y σ G3 hy ⟨s3, u13, rfl⟩
      have S3 := S2.trans s3
      have h3 := h.same S3
      obtain ⟨t, r, rfl, ht, hr⟩ := pl y (kF (List.mem_of_getElem? hy))
      refine ⟨few rfl, af λ pq G4 n4 s4 t4 => ?_⟩
      have S4 := S3.trans s4
      have h4 := h.same S4
      have s14 := s2.trans (s3.trans s4)
      refine ⟨x, pn, t, pc, pq, ys, [.ref pt, .ref po], ps, cs, M, kn, r, rfl, h4.hou, S4 _ _ hn, nk.1, S4 _ _ ht, hr, s14 _ _ t1, ty.same s14, hM, nd, lM, ne, t4, λ z hz => ?_, λ G5 s5 => bb rfl ⟨s3.trans (s4.trans s5), _, rfl⟩⟩
      rcases List.mem_cons.mp hz with rfl | hz
      . exact ⟨pt, kt, T, rfl, h4.tb, h4.tbf, h.t0, h.tz M hM, λ r _ v hv => (nk.2 r v hv).1⟩
      . rw [List.mem_singleton.mp hz]
        exact ⟨po, ko, U, rfl, h4.ot, h4.otf, h.u0, h.uz M hM, λ r _ v hv => by rw [<- (nk.2 r v hv).2]; exact (nk.2 r v hv).1⟩
    . rintro σ G3 ⟨s3, u13, rfl⟩
      exact ⟨S2.trans s3, _, _, _, rfl⟩
  . rintro σ G ⟨sm, u13, u16, u17, rfl⟩
    exact q G
theorem r52_some (h : L52 K cl H a x pp pd pe pt po ns ps cs zp zs kvs kt ko T U) (hk : H pk = some (.lst wk)) (pw : PairsAt H wk KN) (hn : H pn = some (.dT kn)) (nk : NumOk kn T U) (q : ∀ H', D.rt (.bl true) H') :
    oJ K cl D [some (.ref a), c1, c2, some (.ref x), some (.ref pp), some (.ref pd), some (.ref pe), c7, some (.ref pt), some (.ref po), c10, some (.ref pk), some (.ref pn), c13, none, none, none, none] H := by
  have hz := sz
  have ll := h.len
  refine ⟨a, ns, 41, rfl, h.scr, by decide, cY h.pl ⟨by omega, ?_⟩⟩
  refine bI (slL_i h.pl (af λ p1 G1 n1 s1 t1 => slL_i (s1 _ _ h.pl) (af λ p2 G2 n2 s2 t2 => ?_)))
  have z1 := dY zp (some (aO ns 41 % (zp.length : Int))) none
  have z2 := dY zp none (some (aO ns 41 % (zp.length : Int)))
  refine cZ (s2 _ _ t1) t2 (by omega) (af λ p3 G3 n3 s3 t3 => ?_)
  have S3 := s1.trans (s2.trans s3)
  refine aj t3 (lX (R := λ q => q ∈ plc ps cs) (C := λ _ => True) t3 (by rw [List.length_append]; omega) (λ z hz => ?_) (λ t r ht hr G k B sm hk1 hB => ?_) (λ p ws G n s t pz lz => ?_))
  . refine (PlsIn.of h.plp).same S3 z ?_
    rcases List.mem_append.mp hz with hz | hz
    . exact kF hz
    . exact kF hz
  . have S := S3.trans sm
    refine fL (S _ _ hk) ((pw.same S).rd 5) (kE (sm _ _ ht)) (aR (λ _ => hk1 trivial) (λ _ => hB))
  . have S := S3.trans s
    exact r52_end (h.same S) (S _ _ hk) (pw.same S) (S _ _ hn) nk t (λ z hz => by
      obtain ⟨t, r, h1, h2, h3⟩ := pz z hz
      exact ⟨t, r, h1, h2, h3.1⟩) q
theorem r52_num (h : L52 K cl H a x pp pd pe pt po ns ps cs zp zs kvs kt ko T U) (hk : H pk = some (.lst wk)) (pk' : PlsIn H (λ q => q ∈ plc ps cs /\ T q = U q) wk) (lk : wk.length <= 225) (q : ∀ H', D.rt (.bl true) H') :
    tl_num K cl D [some (.ref a), c1, c2, some (.ref x), some (.ref pp), some (.ref pd), some (.ref pe), c7, some (.ref pt), some (.ref po), c10, some (.ref pk), none, none, none, none, none, none] H := by
  have hz := sz
  refine .inr (af λ pn G1 n1 s1 t1 => ?_)
  refine ap (aj (s1 _ _ hk) (ar (xs := wk) (λ i σ G => Same H G /\ (∃ kn, G pn = some (.dT kn) /\ NumOk kn T U /\ kn.length <= i) /\ ∃ u13, σ = [some (.ref a), c1, c2, some (.ref x), some (.ref pp), some (.ref pd), some (.ref pe), c7, some (.ref pt), some (.ref po), c10, some (.ref pk), some (.ref pn), u13, none, none, none, none])
    ⟨s1, ⟨[], t1, ⟨λ kv h => (by cases h), λ q v e => (by cases e)⟩, Nat.le_refl _⟩, _, rfl⟩ (λ i σ G _ h => h.1 _ _ hk) ?_ ?_))
  . rintro i y σ G hy ⟨sm, ⟨kn, hg, nk, ln⟩, u13, rfl⟩
    have hil := (List.getElem?_eq_some_iff.mp hy).1
    obtain ⟨t, r, rfl, ht, hr1, hr2⟩ := pk' y (List.mem_of_getElem? hy)
    have hv : ak kt (plK r.1 r.2) = some (.int (T r)) := h.tbf r hr1
    refine b7 (.inl (sm _ _ h.tb)) (sm _ _ ht) hv (bY hg (sm _ _ ht) (by omega) ⟨sm.put n1, ⟨_, a5, ⟨λ kv hkv => ?_, λ r' v e => ?_⟩, Nat.le_trans (iF ..) (by omega)⟩, _, rfl⟩)
    . exact ints_put nk.1 kv hkv
    . rw [fC] at e
      by_cases z : plK r'.1 r'.2 = plK r.1 r.2
      . rw [if_pos z] at e
        cases e
        obtain ⟨e1, e2⟩ := cr z
        have : r' = r := Prod.ext e1 e2
        rw [this]
        exact ⟨rfl, hr2⟩
      . rw [if_neg z] at e
        exact nk.2 r' v e
  . rintro σ G ⟨sm, ⟨kn, hg, nk, ln⟩, u13, rfl⟩
    obtain ⟨KN, pw, _⟩ := PlsIn.pairs pk'
    exact r52_some (h.same sm) (sm _ _ hk) (pw.same sm) hg nk q
theorem qr {pl' : Addr} {wl : List V} {LK : List (Str × Str)} (h : L52 K cl H a x pp pd pe pt po ns ps cs zp zs kvs kt ko T U) (hl : H pl' = some (.lst wl)) (pw : PairsAt H wl LK) (q : ∀ H', D.rt (.bl true) H') :
    lY K cl D [some (.ref a), c1, c2, some (.ref x), some (.ref pp), some (.ref pd), some (.ref pe), c7, some (.ref pt), some (.ref po), some (.ref pl'), none, none, none, none, none, none, none] H := by
  have hz := sz
  have ll := h.len
  refine bI (aj h.pl (lX (R := λ q => q ∈ plc ps cs) (C := λ q => T q = U q) h.pl (by omega) (PlsIn.of h.plp) (λ t r ht hr G k B sm hk1 hB => ?_) (λ p ws G n s t pz lz => ?_)))
  . have ht' := sm _ _ ht
    have hv : ak kt (plK r.1 r.2) = some (.int (T r)) := h.tbf r hr
    have hu : ak ko (plK r.1 r.2) = some (.int (U r)) := h.otf r hr
    refine b7 (.inl (sm _ _ h.tb)) ht' hv (b7 (.inl (sm _ _ h.ot)) ht' hu (aR (λ b => ?_) (λ _ => bb rfl hB)))
    have b : (T r == U r) = true := b
    exact fL (sm _ _ hl) ((pw.same sm).rd 5) (kE ht') (aR (λ _ => hk1 (eq_of_beq b)) (λ _ => hB))
  . exact r52_num (h.same s) t pz (by omega) q
end
end S5
end Tv
namespace Tv
open PySem PySem.Spec PyProof.Rows L2
namespace S5
open Nu S3
section
variable {K : PySem.W.Frag} {cl : Addr}
theorem r52_law {a : Addr} {ns : List Int} {H : Hp} {D : Ends} (hS : SqL K H a (ns.map V.int)) (q : ∀ H', D.rt (.bl true) H') : oK K cl D [some (.ref a), none, none, none, none, none, none, none, none, none, none, none, none, none, none, none, none, none] H := by
  have hs := sz
  refine ⟨a, ns, rfl, hS, λ pl xs ps G1 s1 n1 t1 pa g => ?_⟩
  refine ⟨a, ns, rfl, s1.seq hS, λ pc cs G2 s2 n2 t2 c1 c8 cn => ?_⟩
  have g2 := g.many
  intro x dx nx ndx _
  refine make_i g cn c1 c8 (s2 _ _ t1) (pa.same s2) t2 nx ndx λ G5 s5 hf => ⟨rfl, ?_⟩
  have hh := hf G5 λ _ _ _ e => e
  have S5 := (s1.trans s2).trans s5
  have ul := (s2.trans s5) _ _ t1
  have uc := s5 _ _ t2
  have pa5 := pa.same (s2.trans s5)
  clear hf
  refine ⟨pl, pc, xs, ps, cs, rfl, ul, pa5, g2, uc, c8, λ pp zp G6 s6 n6 t6 pp' => ?_⟩
  refine ⟨pl, pc, xs, ps, cs, rfl, s6 _ _ ul, pa5.same s6, g, s6 _ _ uc, c8, λ pd zs G7 s7 n7 t7 tz => ?_⟩
  rw [gh] at tz
  have s67 := s6.trans s7
  refine ⟨pl, pc, xs, ps, cs, rfl, s67 _ _ ul, pa5.same s67, g, s67 _ _ uc, cn, c8, λ pe kvs G8 s8 n8 t8 en => ?_⟩
  have s68 := s67.trans s8
  refine cY (s68 _ _ ul) ⟨pl, xs, ps, rfl, s68 _ _ ul, pa5.same s68, g2, λ pr G9 s9 n9 t9 => cY t9 ?_⟩
  have s69 := s68.trans s9
  have lr := fS (ps := ps)
  refine cY (s69 _ _ uc) ⟨aB (by omega) ?_, ?_⟩
  . rw [show (sts cs).length = cs.length from List.length_map ..]
    omega
  rw [show (sts cs).length = cs.length from List.length_map .., show (sts (au ps)).length = (au ps).length from List.length_map ..]
  have lx : xs.length = ps.length := pa.1
  have mm : (au ps).length * cs.length <= 24 * 8 := Nat.mul_le_mul (by omega) c8
  refine ⟨a, ns, _, _, rfl, (S5.trans s69).seq hS, by omega, by omega, by omega, by omega, λ pq ms G10 s10 n10 t10 lms hm0 => ?_⟩
  have s6a := s69.trans s10
  have lms' : ms.length = (au ps).length * cs.length := by
    have : (ms.length : Int) = (((au ps).length * cs.length : Nat) : Int) := by rw [lms]; simp
    omega
  refine ⟨pl, pc, pq, xs, ms, ps, cs, rfl, s6a _ _ ul, pa5.same s6a, g, s6a _ _ uc, cn, c8, t10, lms', hm0, λ pt N kt G11 s11 n11 t11 fil hN hN0 => ?_⟩
  have s6b := s6a.trans s11
  refine ⟨a, pl, pc, pq, ns, xs, ms, ps, cs, rfl, (S5.trans s6b).seq hS, s6b _ _ ul, pa5.same s6b, g, s6b _ _ uc, cn, c8, s11 _ _ t10, lms', hm0, λ po N' ko G12 s12 n12 t12 fil' hN' hN0' => ?_⟩
  have s6c := s6b.trans s12
  have s7c := s7.trans (s8.trans (s9.trans (s10.trans (s11.trans s12))))
  have s8c := s8.trans (s9.trans (s10.trans (s11.trans s12)))
  have s9c := s9.trans (s10.trans (s11.trans s12))
  have ln : (plc ps cs).length <= 225 := gi g c8
  refine ⟨a, pp, ns, 40, zp, plc ps cs, rfl, (S5.trans s6c).seq hS, by decide, s7c _ _ t6, pp'.same s7c, ln, λ pl' wl LK G13 s13 n13 t13 pw _ => ?_⟩
  have tot : ∀ {N : Str -> Str -> Int}, (∀ n e, av ps n ≠ [] -> N n e = 0) -> ∀ M, (∀ o ∈ M, o ∈ smL ps cs) -> A.sg (plc ps cs) (λ q => d5 ps cs M q.1 q.2 * A.cI ("all" : Str) cs (A.upT cs N ps) q) = 0 := λ hN M hM =>
    A.mR (Good.gd g) (fV cn) hN (lQ g cn) (λ a b ha hb => kC ha hb) (IsSm.all hM)
  exact qr (T := A.cI ("all" : Str) cs (A.upT cs N ps)) (U := A.cI ("all" : Str) cs (A.upT cs N' ps)) ⟨(S5.trans (s6c.trans s13)).seq hS, hh.same (s6c.trans s13), (s7c.trans s13) _ _ t6, pp'.same (s7c.trans s13), (s8c.trans s13) _ _ t7, tz.same (s8c.trans s13), (s9c.trans s13) _ _ t8, en.same (s9c.trans s13), (s12.trans s13) _ _ t11, fil, s13 _ _ t12, fil', λ q _ => A.iO (A.eV hN0 ps) q, λ q _ => A.iO (A.eV hN0' ps) q, tot hN, tot hN'⟩ t13 pw q
end
end S5
end Tv
namespace P52
open PySem PySem.Spec PyProof.Rows L2 Tv
def top (i : Nat) : Stmt := PySem.Challenge.pw_tallyveil_k52_whole_shown_is_true.main.body.getD i (.Pass ⟨0, 0, 0, 0⟩)
abbrev fu : Stmt := top 6
theorem sc_name : FnScope ["thing"] ["thing"] (a0 fu) := ⟨rfl, rfl, rfl, by decide +kernel, rfl, by decide +kernel, by decide +kernel⟩
abbrev dw : Stmt := top 12
theorem sc_plain : FnScope ["text"] ["text"] (a0 dw) := ⟨rfl, rfl, rfl, by decide +kernel, rfl, by decide +kernel, by decide +kernel⟩
abbrev dy : Stmt := top 10
theorem sc_cname : FnScope ["thing", "ahead", "name"] ["thing", "ahead"] (a0 dy) := ⟨rfl, rfl, rfl, by decide +kernel, rfl, by decide +kernel, by decide +kernel⟩
abbrev cv : Stmt := top 11
theorem qt : FnScope ["thing", "ahead", "above"] ["thing", "ahead"] (a0 cv) := ⟨rfl, rfl, rfl, by decide +kernel, rfl, by decide +kernel, by decide +kernel⟩
abbrev dz : Stmt := top 9
theorem sc_ccols : FnScope ["columns", "names", "column"] ["columns"] (a0 dz) := ⟨rfl, rfl, rfl, by decide +kernel, rfl, by decide +kernel, by decide +kernel⟩
abbrev cw : Stmt := top 8
theorem qu : FnScope ["parts", "above_of", "part", "name", "above"] ["parts"] (a0 cw) := ⟨rfl, rfl, rfl, by decide +kernel, rfl, by decide +kernel, by decide +kernel⟩
abbrev cx : Stmt := top 13
theorem qv : FnScope ["above_of", "beneath_of", "part", "above"] ["above_of"] (a0 cx) := ⟨rfl, rfl, rfl, by decide +kernel, rfl, by decide +kernel, by decide +kernel⟩
abbrev eF : Stmt := fH (top 7) 0
theorem sc_init : FnScope ["self", "parts", "columns"] ["self", "parts", "columns"] (a0 eF) := ⟨rfl, rfl, rfl, by decide +kernel, rfl, by decide +kernel, by decide +kernel⟩
abbrev bS : Stmt := fH (top 7) 1
theorem qw : FnScope ["self"] ["self"] (a0 bS) := ⟨rfl, rfl, rfl, by decide +kernel, rfl, by decide +kernel, by decide +kernel⟩
abbrev cU : Stmt := fH (top 7) 3
theorem sc_mcols : FnScope ["self"] ["self"] (a0 cU) := ⟨rfl, rfl, rfl, by decide +kernel, rfl, by decide +kernel, by decide +kernel⟩
abbrev eG : Stmt := fH (top 7) 5
theorem sc_mben : FnScope ["self", "part"] ["self", "part"] (a0 eG) := ⟨rfl, rfl, rfl, by decide +kernel, rfl, by decide +kernel, by decide +kernel⟩
abbrev cy : Stmt := top 14
theorem qx : FnScope ["parts", "columns", "pairs", "part", "column"] ["parts", "columns"] (a0 cy) := ⟨rfl, rfl, rfl, by decide +kernel, rfl, by decide +kernel, by decide +kernel⟩
abbrev bv : Stmt := fH (top 7) 6
theorem mZ : FnScope ["self"] ["self"] (a0 bv) := ⟨rfl, rfl, rfl, by decide +kernel, rfl, by decide +kernel, by decide +kernel⟩
abbrev dA : Stmt := top 17
theorem sc_whole : FnScope ["house", "one"] ["house", "one"] (a0 dA) := ⟨rfl, rfl, rfl, by decide +kernel, rfl, by decide +kernel, by decide +kernel⟩
abbrev cz : Stmt := top 18
theorem qy : FnScope ["house", "one"] ["house", "one"] (a0 cz) := ⟨rfl, rfl, rfl, by decide +kernel, rfl, by decide +kernel, by decide +kernel⟩
abbrev fv : Stmt := top 21
theorem sc_sign : FnScope ["one"] ["one"] (a0 fv) := ⟨rfl, rfl, rfl, by decide +kernel, rfl, by decide +kernel, by decide +kernel⟩
abbrev dB : Stmt := top 20
theorem sc_given : FnScope ["house", "one", "sign"] ["house", "one"] (a0 dB) := ⟨rfl, rfl, rfl, by decide +kernel, rfl, by decide +kernel, by decide +kernel⟩
abbrev dC : Stmt := top 19
theorem sc_added : FnScope ["house", "sums", "counts", "one", "place", "count", "told"] ["house", "sums"] (a0 dC) := ⟨rfl, rfl, rfl, by decide +kernel, rfl, by decide +kernel, by decide +kernel⟩
abbrev fw : Stmt := top 27
theorem sc_cell : FnScope ["_law_script", "_law_k"] ["_law_script", "_law_k"] (a0 fw) := ⟨rfl, rfl, rfl, by decide +kernel, rfl, by decide +kernel, by decide +kernel⟩
abbrev cA : Stmt := top 28
theorem qz : FnScope ["_law_cell", "_law_many", "_law_letters", "_law_size", "_law_at", "_law_names_here", "_law_k", "_law_name", "_law_j", "_law_shift"] ["_law_cell", "_law_many"] (a0 cA) := ⟨rfl, rfl, rfl, by decide +kernel, rfl, by decide +kernel, by decide +kernel⟩
abbrev cB : Stmt := top 29
theorem qA : FnScope ["_law_script", "_law_size", "_law_many", "_law_names_here", "_law_found", "_law_k", "_law_cell", "_law_above"] ["_law_script"] (a0 cB) := ⟨rfl, rfl, rfl, by decide +kernel, rfl, by decide +kernel, by decide +kernel⟩
abbrev dD : Stmt := top 30
theorem sc_lcols : FnScope ["_law_script", "_law_size", "_law_many"] ["_law_script"] (a0 dD) := ⟨rfl, rfl, rfl, by decide +kernel, rfl, by decide +kernel, by decide +kernel⟩
abbrev dE : Stmt := top 31
theorem sc_lrows : FnScope ["_law_parts_here", "_law_tops"] ["_law_parts_here"] (a0 dE) := ⟨rfl, rfl, rfl, by decide +kernel, rfl, by decide +kernel, by decide +kernel⟩
abbrev bL : Stmt := top 32
theorem ng : FnScope ["_law_parts_here", "_law_columns_here", "_law_found", "_law_part", "_law_column"] ["_law_parts_here", "_law_columns_here"] (a0 bL) := ⟨rfl, rfl, rfl, by decide +kernel, rfl, by decide +kernel, by decide +kernel⟩
abbrev dF : Stmt := top 33
theorem sc_lsums : FnScope ["_law_parts_here", "_law_columns_here", "_law_rows_here", "_law_found", "_law_part", "_law_column"] ["_law_parts_here", "_law_columns_here"] (a0 dF) := ⟨rfl, rfl, rfl, by decide +kernel, rfl, by decide +kernel, by decide +kernel⟩
abbrev cC : Stmt := top 34
theorem qB : FnScope ["_law_parts_here", "_law_columns_here", "_law_one", "_law_found", "_law_sign", "_law_name", "_law_above", "_law_column"] ["_law_parts_here", "_law_columns_here", "_law_one"] (a0 cC) := ⟨rfl, rfl, rfl, by decide +kernel, rfl, by decide +kernel, by decide +kernel⟩
abbrev bp : Stmt := top 35
theorem lZ : FnScope ["_law_script", "_law_at", "_law_many", "_law_wide", "_law_found", "_law_k", "_law_cell", "_law_turn"] ["_law_script", "_law_at", "_law_many"] (a0 bp) := ⟨rfl, rfl, rfl, by decide +kernel, rfl, by decide +kernel, by decide +kernel⟩
abbrev bM : Stmt := top 36
theorem nh : FnScope ["_law_parts_here", "_law_columns_here", "_law_counts", "_law_numbers", "_law_place", "_law_at", "_law_row", "_law_column", "_law_name", "_law_above", "_law_part"] ["_law_parts_here", "_law_columns_here", "_law_counts"] (a0 bM) := ⟨rfl, rfl, rfl, by decide +kernel, rfl, by decide +kernel, by decide +kernel⟩
abbrev dG : Stmt := top 25
theorem sc_shown : FnScope ["house", "numbers", "place", "sums", "likeness", "counts", "own", "total", "one", "count"] ["house", "numbers", "place", "sums", "likeness"] (a0 dG) := ⟨rfl, rfl, rfl, by decide +kernel, rfl, by decide +kernel, by decide +kernel⟩
abbrev cD : Stmt := top 23
theorem qC : FnScope ["house", "numbers", "place", "sums"] ["house", "numbers", "place", "sums"] (a0 cD) := ⟨rfl, rfl, rfl, by decide +kernel, rfl, by decide +kernel, by decide +kernel⟩
abbrev bN : Stmt := top 24
theorem ni : FnScope ["house", "numbers", "place", "sums"] ["house", "numbers", "place", "sums"] (a0 bN) := ⟨rfl, rfl, rfl, by decide +kernel, rfl, by decide +kernel, by decide +kernel⟩
abbrev dH : Stmt := top 37
theorem sc_lends : FnScope ["_law_parts_here", "_law_columns_here", "_law_found", "_law_place", "_law_one", "_law_given"] ["_law_parts_here", "_law_columns_here"] (a0 dH) := ⟨rfl, rfl, rfl, by decide +kernel, rfl, by decide +kernel, by decide +kernel⟩
abbrev cE : Stmt := top 38
theorem qD : FnScope ["_law_script", "_law_places_here", "_law_at", "_law_way", "_law_left", "_law_some", "_law_j", "_law_number", "_law_chosen"] ["_law_script", "_law_places_here", "_law_at"] (a0 cE) := ⟨rfl, rfl, rfl, by decide +kernel, rfl, by decide +kernel, by decide +kernel⟩
abbrev cF : Stmt := top 39
theorem qE : FnScope ["_law_script", "_law_sums_here", "_law_ends_here", "_law_known_here", "_law_at", "_law_chain_here", "_law_k", "_law_near", "_law_place", "_law_one", "_law_other_here"] ["_law_script", "_law_sums_here", "_law_ends_here", "_law_known_here", "_law_at"] (a0 cF) := ⟨rfl, rfl, rfl, by decide +kernel, rfl, by decide +kernel, by decide +kernel⟩
abbrev cG : Stmt := top 40
theorem qF : FnScope ["_law_script", "_law_parts_here", "_law_columns_here", "_law_counts", "_law_left", "_law_others", "_law_k", "_law_mixed", "_law_digit", "_law_one"] ["_law_script", "_law_parts_here", "_law_columns_here", "_law_counts"] (a0 cG) := ⟨rfl, rfl, rfl, by decide +kernel, rfl, by decide +kernel, by decide +kernel⟩
abbrev dI : Stmt := top 41
theorem sc_ltrue : FnScope ["_law_house", "_law_numbers", "_law_tables", "_law_place", "_law_chain_here", "_law_high", "_law_low", "_law_table"] ["_law_house", "_law_numbers", "_law_tables", "_law_place", "_law_chain_here"] (a0 dI) := ⟨rfl, rfl, rfl, by decide +kernel, rfl, by decide +kernel, by decide +kernel⟩
abbrev eI : Stmt := top 42
theorem sc_law : FnScope ["_law_script", "_law_parts_here", "_law_columns_here", "_law_house", "_law_places_here", "_law_sums_here", "_law_ends_here", "_law_counts", "_law_table", "_law_other_here", "_law_left", "_law_known_here", "_law_numbers", "_law_place", "_law_at", "_law_some", "_law_k", "_law_chain_here"] ["_law_script"] (a0 eI) := ⟨rfl, rfl, rfl, by decide +kernel, rfl, by decide +kernel, by decide +kernel⟩
structure Txt (K : PySem.W.Frag) (mg : Str -> Option Value) (C : Addr) : Prop where
  cl : Cls K C
  mC : mg "House" = some (.ref C)
  f_above_of : NoAttr K C "above_of"
  f_column_names : NoAttr K C "column_names"
  f_beneath_of : NoAttr K C "beneath_of"
  n_isinstance : mg "isinstance" = none
  n_str : mg "str" = none
  n_list : mg "list" = none
  n_tuple : mg "tuple" = none
  n_len : mg "len" = none
  n_all : mg "all" = none
  n_range : mg "range" = none
  n_int : mg "int" = none
  n_reversed : mg "reversed" = none
  n_sum : mg "sum" = none
  g_ALL : ∃ t, mg "ALL" = some (.str "all" t)
  g_DOWN : ∃ t, mg "DOWN" = some (.str "down" t)
def aX (C : Addr) (fns : List (Str × Sp)) (mks mts : List (Str × Addr × Sp)) : Tabs := { fns := fns, mks := mks, mts := mts, fld := [("above_of", C), ("column_names", C), ("beneath_of", C)], glo := [("ALL", .str "all"), ("DOWN", .str "down")], nog := ["isinstance", "str", "list", "tuple", "len", "all", "range", "int", "reversed", "sum"], scr := ["_law_script"] }
section
variable {P : Program} {w : World} {K : PySem.W.Frag} {mg : Str -> Option Value} {base : Heap} {C : Addr}
theorem lib {k : Nat} {fns : List (Str × Sp)} {mks mts : List (Str × Addr × Sp)} (T : Txt K mg C) (h : Ents (FnE P w K mg base CX0 k) fns) (hm : Ents (MkE P w K mg base CX0 k) mks) (ht : Ents (λ m p => p.1 = C /\ MtE P w K mg base CX0 k m p) mts) : Lib P w K mg base CX0 k (aX C fns mks mts) := by
  refine lib_cls T.cl h hm ht (.cons ⟨rfl, T.f_above_of⟩ (.cons ⟨rfl, T.f_column_names⟩ (.cons ⟨rfl, T.f_beneath_of⟩ (.nil)))) (λ x v e => ?_) (λ x hx => ?_)
  . have : Ents (λ x v => ∃ u, mg x = some u /\ RelV v u) [("ALL", V.str "all"), ("DOWN", V.str "down")] := .cons (by obtain ⟨t, h⟩ := T.g_ALL; exact ⟨_, h, _, rfl⟩) (.cons (by obtain ⟨t, h⟩ := T.g_DOWN; exact ⟨_, h, _, rfl⟩) (.nil))
    exact this.get x v e
  . simp only [aX, List.mem_cons, List.not_mem_nil, or_false] at hx
    rcases hx with rfl | rfl | rfl | rfl | rfl | rfl | rfl | rfl | rfl | rfl
    . exact T.n_isinstance
    . exact T.n_str
    . exact T.n_list
    . exact T.n_tuple
    . exact T.n_len
    . exact T.n_all
    . exact T.n_range
    . exact T.n_int
    . exact T.n_reversed
    . exact T.n_sum
theorem w_name : wSs (wp 40) (cfg (aX C [] [] []) K ["thing"] (a0 fu).names E0) (a7 fu) = jx := by kernel_rfl
theorem ok_name {f : Addr} {fd : FuncData} (A : DefAt K mg "is_name" fu ["thing"] f fd) (T : Txt K mg C) : FnE P w K mg base CX0 2 "is_name" (dq) :=
  A.ok (k := 0) 40 sc_name (lib T (.nil) (.nil) (.nil)) (λ vs H Q E h => by obtain ⟨x, S, rfl, _⟩ := h; rfl) w_name (λ vs H Q E h => by obtain ⟨x, S, rfl, hk, hz, q⟩ := h; exact qe hk hz q)
theorem w_plain : wSs (wp 40) (cfg (aX C [] [] []) K ["text"] (a0 dw).names E0) (a7 dw) = fM := by kernel_rfl
theorem ok_plain {f : Addr} {fd : FuncData} (A : DefAt K mg "plain_text" dw ["text"] f fd) (T : Txt K mg C) : FnE P w K mg base CX0 2 "plain_text" (aP) :=
  A.ok (k := 0) 40 sc_plain (lib T (.nil) (.nil) (.nil)) (λ vs H Q E h => by obtain ⟨z, rfl, _⟩ := h; rfl) w_plain (λ vs H Q E h => by obtain ⟨z, rfl, hz, q⟩ := h; exact kh hz q)
theorem w_cname : wSs (wp 40) (cfg (aX C [("is_name", dq), ("plain_text", aP)] [] []) K ["thing", "ahead", "name"] (a0 dy).names E0) (a7 dy) = eh := by kernel_rfl
theorem ok_cname {f : Addr} {fd : FuncData} (A : DefAt K mg "checked_name" dy ["thing", "ahead"] f fd) (T : Txt K mg C) (hname : FnE P w K mg base CX0 2 "is_name" (dq)) (hplain : FnE P w K mg base CX0 2 "plain_text" (aP)) : FnE P w K mg base CX0 4 "checked_name" (aF) :=
  A.ok (k := 2) 40 sc_cname (lib T (.cons (hname.mono (by decide)) (.cons (hplain.mono (by decide)) (.nil))) (.nil) (.nil)) (λ vs H Q E h => by obtain ⟨z, l, ys, rfl, _⟩ := h; rfl) w_cname (λ vs H Q E h => by obtain ⟨z, l, ys, rfl, hl, hz, hn, q⟩ := h; exact iy hl hz hn q)
theorem w_cabove : wSs (wp 40) (cfg (aX C [("plain_text", aP)] [] []) K ["thing", "ahead", "above"] (a0 cv).names E0) (a7 cv) = dO := by kernel_rfl
theorem qG {f : Addr} {fd : FuncData} (A : DefAt K mg "checked_above" cv ["thing", "ahead"] f fd) (T : Txt K mg C) (hplain : FnE P w K mg base CX0 2 "plain_text" (aP)) : FnE P w K mg base CX0 4 "checked_above" (bd) :=
  A.ok (k := 2) 40 qt (lib T (.cons (hplain.mono (by decide)) (.nil)) (.nil) (.nil)) (λ vs H Q E h => by obtain ⟨z, l, ys, rfl, _⟩ := h; rfl) w_cabove (λ vs H Q E h => by obtain ⟨z, l, ys, rfl, hl, hz, hn, q⟩ := h; exact gI hl hz hn q)
theorem w_ccols : wSs (wp 40) (cfg (aX C [("checked_name", aF)] [] []) K ["columns", "names", "column"] (a0 dz).names E0) (a7 dz) = cP := by kernel_rfl
theorem ok_ccols {f : Addr} {fd : FuncData} (A : DefAt K mg "checked_columns" dz ["columns"] f fd) (T : Txt K mg C) (hcname : FnE P w K mg base CX0 4 "checked_name" (aF)) : FnE P w K mg base CX0 6 "checked_columns" (aV) :=
  A.ok (k := 4) 40 sc_ccols (lib T (.cons (hcname.mono (by decide)) (.nil)) (.nil) (.nil)) (λ vs H Q E h => by obtain ⟨c, cs, rfl, _⟩ := h; rfl) w_ccols (λ vs H Q E h => by obtain ⟨c, cs, rfl, hc, hn, h1, h8, q⟩ := h; exact fO hc hn h1 h8 q)
theorem w_cparts : wSs (wp 40) (cfg (aX C [("checked_name", aF), ("checked_above", bd)] [] []) K ["parts", "above_of", "part", "name", "above"] (a0 cw).names E0) (a7 cw) = dP := by kernel_rfl
theorem qH {f : Addr} {fd : FuncData} (A : DefAt K mg "checked_parts" cw ["parts"] f fd) (T : Txt K mg C) (hcname : FnE P w K mg base CX0 4 "checked_name" (aF)) (hcabove : FnE P w K mg base CX0 4 "checked_above" (bd)) : FnE P w K mg base CX0 6 "checked_parts" (be) :=
  A.ok (k := 4) 40 qu (lib T (.cons (hcname.mono (by decide)) (.cons (hcabove.mono (by decide)) (.nil))) (.nil) (.nil)) (λ vs H Q E h => by obtain ⟨p, xs, ps, rfl, _⟩ := h; rfl) w_cparts (λ vs H Q E h => by obtain ⟨p, xs, ps, rfl, hp, pa, g, q⟩ := h; exact gJ hp pa g q)
theorem w_turned : wSs (wp 40) (cfg (aX C [] [] []) K ["above_of", "beneath_of", "part", "above"] (a0 cx).names E0) (a7 cx) = eu := by kernel_rfl
theorem qI {f : Addr} {fd : FuncData} (A : DefAt K mg "turned_about" cx ["above_of"] f fd) (T : Txt K mg C) : FnE P w K mg base CX0 2 "turned_about" (bo) :=
  A.ok (k := 0) 40 qv (lib T (.nil) (.nil) (.nil)) (λ vs H Q E h => by obtain ⟨a, ps, rfl, _⟩ := h; rfl) w_turned (λ vs H Q E h => by obtain ⟨a, ps, rfl, ha, g, q⟩ := h; exact iD ha g q)
theorem w_init : wSs (wp 40) (cfg (aX C [("checked_parts", be), ("checked_columns", aV), ("turned_about", bo)] [] []) K ["self", "parts", "columns"] (a0 eF).names E0) (a7 eF) = fP C := by kernel_rfl
theorem ok_init {f : Addr} {fd : FuncData} (M : Mk K C f) (F : Fun K "__init__" "House.__init__" eF f fd) (b : Binds K fd ["self", "parts", "columns"] []) (T : Txt K mg C) (hcparts : FnE P w K mg base CX0 6 "checked_parts" (be)) (hccols : FnE P w K mg base CX0 6 "checked_columns" (aV)) (hturned : FnE P w K mg base CX0 2 "turned_about" (bo)) : MkE P w K mg base CX0 8 "House" (C, bj C) :=
  MkE.mk (k := 6) M T.mC F b 40 sc_init (lib T (.cons (hcparts.mono (by decide)) (.cons (hccols.mono (by decide)) (.cons (hturned.mono (by decide)) (.nil)))) (.nil) (.nil)) (λ vs H Q E h => by obtain ⟨x, dx, p, c, xs, ps, cs, rfl, _⟩ := h; rfl) w_init (λ vs H Q E h => by obtain ⟨x, dx, p, c, xs, ps, cs, rfl, hx, hp, pa, g, hc, hn, h1, h8, q⟩ := h; exact ki hx hp pa g hc hn h1 h8 q)
theorem w_mparts : wSs (wp 40) (cfg (aX C [] [] []) K ["self"] (a0 bS).names E0) (a7 bS) = f7 C := by kernel_rfl
theorem qJ {f : Addr} {fd : FuncData} (M : Meth K C "parts" f) (F : Fun K "parts" "House.parts" bS f fd) (b : Binds K fd ["self"] []) (T : Txt K mg C) : MtE P w K mg base CX0 2 "parts" (C, fQ C) :=
  MtE.mk (k := 0) M F b 40 qw (lib T (.nil) (.nil) (.nil)) (λ vs H Q E h => by obtain ⟨x, ps, cs, rfl, _⟩ := h; rfl) w_mparts (λ vs H Q E h => by obtain ⟨x, ps, cs, rfl, hh, q⟩ := h; exact j5 hh q)
theorem w_mcols : wSs (wp 40) (cfg (aX C [] [] []) K ["self"] (a0 cU).names E0) (a7 cU) = dQ C := by kernel_rfl
theorem ok_mcols {f : Addr} {fd : FuncData} (M : Meth K C "columns" f) (F : Fun K "columns" "House.columns" cU f fd) (b : Binds K fd ["self"] []) (T : Txt K mg C) : MtE P w K mg base CX0 2 "columns" (C, dt C) :=
  MtE.mk (k := 0) M F b 40 sc_mcols (lib T (.nil) (.nil) (.nil)) (λ vs H Q E h => by obtain ⟨x, ps, cs, rfl, _⟩ := h; rfl) w_mcols (λ vs H Q E h => by obtain ⟨x, ps, cs, rfl, hh, q⟩ := h; exact gK hh q)
theorem w_mben : wSs (wp 40) (cfg (aX C [] [] []) K ["self", "part"] (a0 eG).names E0) (a7 eG) = dR C := by kernel_rfl
theorem ok_mben {f : Addr} {fd : FuncData} (M : Meth K C "beneath" f) (F : Fun K "beneath" "House.beneath" eG f fd) (b : Binds K fd ["self", "part"] []) (T : Txt K mg C) : MtE P w K mg base CX0 2 "beneath" (C, du C) :=
  MtE.mk (k := 0) M F b 40 sc_mben (lib T (.nil) (.nil) (.nil)) (λ vs H Q E h => by obtain ⟨x, ps, cs, k, rfl, _⟩ := h; rfl) w_mben (λ vs H Q E h => by obtain ⟨x, ps, cs, k, rfl, hh, hk, q⟩ := h; exact gL hh hk q)
theorem w_paired : wSs (wp 40) (cfg (aX C [] [] []) K ["parts", "columns", "pairs", "part", "column"] (a0 cy).names E0) (a7 cy) = lF := by kernel_rfl
theorem qK {f : Addr} {fd : FuncData} (A : DefAt K mg "paired" cy ["parts", "columns"] f fd) (T : Txt K mg C) : FnE P w K mg base CX0 2 "paired" (eP) :=
  A.ok (k := 0) 40 qx (lib T (.nil) (.nil) (.nil)) (λ vs H Q E h => by obtain ⟨p, c, xs, ys, rfl, _⟩ := h; rfl) w_paired (λ vs H Q E h => by obtain ⟨p, c, xs, ys, rfl, hp, hc, h1, h2, q⟩ := h; exact r_paired hp hc h1 h2 q)
theorem qL : wSs (wp 40) (cfg (aX C [("paired", eP)] [] [("parts", C, fQ C)]) K ["self"] (a0 bv).names E0) (a7 bv) = eA C := by kernel_rfl
theorem nj {f : Addr} {fd : FuncData} (M : Meth K C "places" f) (F : Fun K "places" "House.places" bv f fd) (b : Binds K fd ["self"] []) (T : Txt K mg C) (hpaired : FnE P w K mg base CX0 2 "paired" (eP)) (hmparts : MtE P w K mg base CX0 2 "parts" (C, fQ C)) : MtE P w K mg base CX0 4 "places" (C, eQ C) :=
  MtE.mk (k := 2) M F b 40 mZ (lib T (.cons (hpaired.mono (by decide)) (.nil)) (.nil) (.cons (⟨rfl, hmparts.mono (by decide)⟩) (.nil))) (λ vs H Q E h => by obtain ⟨x, ps, cs, rfl, _⟩ := h; rfl) qL (λ vs H Q E h => by obtain ⟨x, ps, cs, rfl, hh, q⟩ := h; exact iE hh q)
theorem w_whole : wSs (wp 40) (cfg (aX C [] [] []) K ["house", "one"] (a0 dA).names E0) (a7 dA) = iH := by kernel_rfl
theorem ok_whole {f : Addr} {fd : FuncData} (A : DefAt K mg "whole_of" dA ["house", "one"] f fd) (T : Txt K mg C) : FnE P w K mg base CX0 2 "whole_of" (cQ) :=
  A.ok (k := 0) 40 sc_whole (lib T (.nil) (.nil) (.nil)) (λ vs H Q E h => by obtain ⟨x, t, ps, l, rfl, _⟩ := h; rfl) w_whole (λ vs H Q E h => by obtain ⟨x, t, ps, l, rfl, ht, hl, q⟩ := h; exact mO ht hl q)
theorem w_others : wSs (wp 40) (cfg (aX C [] [] [("beneath", C, du C), ("columns", C, dt C)]) K ["house", "one"] (a0 cz).names E0) (a7 cz) = gu C := by kernel_rfl
theorem qM {f : Addr} {fd : FuncData} (A : DefAt K mg "others_of" cz ["house", "one"] f fd) (T : Txt K mg C) (hmben : MtE P w K mg base CX0 2 "beneath" (C, du C)) (hmcols : MtE P w K mg base CX0 2 "columns" (C, dt C)) : FnE P w K mg base CX0 4 "others_of" (cb C) :=
  A.ok (k := 2) 40 qy (lib T (.nil) (.nil) (.cons (⟨rfl, hmben.mono (by decide)⟩) (.cons (⟨rfl, hmcols.mono (by decide)⟩) (.nil)))) (λ vs H Q E h => by obtain ⟨x, t, ps, cs, l, rfl, _⟩ := h; rfl) w_others (λ vs H Q E h => by obtain ⟨x, t, ps, cs, l, rfl, hh, ht, hl, q⟩ := h; exact lJ hh ht hl q)
theorem w_sign : wSs (wp 40) (cfg (aX C [] [] []) K ["one"] (a0 fv).names E0) (a7 fv) = S3.jE := by kernel_rfl
theorem ok_sign {f : Addr} {fd : FuncData} (A : DefAt K mg "sign_of" fv ["one"] f fd) (T : Txt K mg C) : FnE P w K mg base CX0 2 "sign_of" (S3.dv) :=
  A.ok (k := 0) 40 sc_sign (lib T (.nil) (.nil) (.nil)) (λ vs H Q E h => by obtain ⟨t, one, rfl, _⟩ := h; rfl) w_sign (λ vs H Q E h => by obtain ⟨t, one, rfl, ht, q⟩ := h; exact S3.qo ht q)
theorem w_given : wSs (wp 40) (cfg (aX C [("sign_of", S3.dv), ("whole_of", cQ), ("others_of", cb C)] [] []) K ["house", "one", "sign"] (a0 dB).names E0) (a7 dB) = S3.iP C := by kernel_rfl
theorem ok_given {f : Addr} {fd : FuncData} (A : DefAt K mg "given_by" dB ["house", "one"] f fd) (T : Txt K mg C) (hsign : FnE P w K mg base CX0 2 "sign_of" (S3.dv)) (hwhole : FnE P w K mg base CX0 2 "whole_of" (cQ)) (hothers : FnE P w K mg base CX0 4 "others_of" (cb C)) : FnE P w K mg base CX0 6 "given_by" (S3.cR C) :=
  A.ok (k := 4) 40 sc_given (lib T (.cons (hsign.mono (by decide)) (.cons (hwhole.mono (by decide)) (.cons (hothers.mono (by decide)) (.nil)))) (.nil) (.nil)) (λ vs H Q E h => by obtain ⟨x, t, ps, cs, one, rfl, _⟩ := h; rfl) w_given (λ vs H Q E h => by obtain ⟨x, t, ps, cs, one, rfl, hh, ht, h1, q⟩ := h; exact S3.mT hh ht h1 q)
theorem w_added : wSs (wp 40) (cfg (aX C [("given_by", S3.cR C)] [] [("places", C, eQ C)]) K ["house", "sums", "counts", "one", "place", "count", "told"] (a0 dC).names E0) (a7 dC) = S3.oA C := by kernel_rfl
theorem ok_added {f : Addr} {fd : FuncData} (A : DefAt K mg "added" dC ["house", "sums"] f fd) (T : Txt K mg C) (hgiven : FnE P w K mg base CX0 6 "given_by" (S3.cR C)) (hmplaces : MtE P w K mg base CX0 4 "places" (C, eQ C)) : FnE P w K mg base CX0 8 "added" (S3.fW C) :=
  A.ok (k := 6) 40 sc_added (lib T (.cons (hgiven.mono (by decide)) (.nil)) (.nil) (.cons (⟨rfl, hmplaces.mono (by decide)⟩) (.nil))) (λ vs H Q E h => by obtain ⟨x, l, zs, ps, cs, L, rfl, _⟩ := h; rfl) w_added (λ vs H Q E h => by obtain ⟨x, l, zs, ps, cs, L, rfl, hh, hl, tz, hL, hn, q⟩ := h; exact S3.r_added hh hl tz hL hn q)
theorem w_cell : wSs (wp 40) (cfg (aX C [] [] []) K ["_law_script", "_law_k"] (a0 fw).names E0) (a7 fw) = eZ K := by kernel_rfl
theorem ok_cell {f : Addr} {fd : FuncData} (A : DefAt K mg "_law_cell_at" fw ["_law_script", "_law_k"] f fd) (T : Txt K mg C) : FnE P w K mg base CX0 2 "_law_cell_at" (a9 K) :=
  A.ok (k := 0) 40 sc_cell (lib T (.nil) (.nil) (.nil)) (λ vs H Q E h => by obtain ⟨a, ns, k, rfl, _⟩ := h; rfl) w_cell (λ vs H Q E h => by obtain ⟨a, ns, k, rfl, hS, hk, q⟩ := h; exact j4 hS hk q)
theorem w_lnames : wSs (wp 40) (cfg (aX C [] [] []) K ["_law_cell", "_law_many", "_law_letters", "_law_size", "_law_at", "_law_names_here", "_law_k", "_law_name", "_law_j", "_law_shift"] (a0 cA).names E0) (a7 cA) = S.gw := by kernel_rfl
theorem qN {f : Addr} {fd : FuncData} (A : DefAt K mg "_law_names" cA ["_law_cell", "_law_many"] f fd) (T : Txt K mg C) : FnE P w K mg base CX0 2 "_law_names" (aW) :=
  A.ok (k := 0) 40 qz (lib T (.nil) (.nil) (.nil)) (λ vs H Q E h => by obtain ⟨c, m, rfl, _⟩ := h; rfl) w_lnames (λ vs H Q E h => by obtain ⟨c, m, rfl, h0, h24, q⟩ := h; exact S.lK h0 h24 q)
theorem w_lparts : wSs (wp 40) (cfg (aX C [("_law_cell_at", a9 K), ("_law_names", aW)] [] []) K ["_law_script", "_law_size", "_law_many", "_law_names_here", "_law_found", "_law_k", "_law_cell", "_law_above"] (a0 cB).names E0) (a7 cB) = S.gx K := by kernel_rfl
theorem qO {f : Addr} {fd : FuncData} (A : DefAt K mg "_law_parts" cB ["_law_script"] f fd) (T : Txt K mg C) (hcell : FnE P w K mg base CX0 2 "_law_cell_at" (a9 K)) (hlnames : FnE P w K mg base CX0 2 "_law_names" (aW)) : FnE P w K mg base CX0 4 "_law_parts" (c9 K) :=
  A.ok (k := 2) 40 qA (lib T (.cons (hcell.mono (by decide)) (.cons (hlnames.mono (by decide)) (.nil))) (.nil) (.nil)) (λ vs H Q E h => by obtain ⟨a, ns, rfl, _⟩ := h; rfl) w_lparts (λ vs H Q E h => by obtain ⟨a, ns, rfl, hS, q⟩ := h; exact S.lL hS q)
theorem w_lcols : wSs (wp 40) (cfg (aX C [("_law_cell_at", a9 K), ("_law_names", aW)] [] []) K ["_law_script", "_law_size", "_law_many"] (a0 dD).names E0) (a7 dD) = S.f8 K := by kernel_rfl
theorem ok_lcols {f : Addr} {fd : FuncData} (A : DefAt K mg "_law_columns" dD ["_law_script"] f fd) (T : Txt K mg C) (hcell : FnE P w K mg base CX0 2 "_law_cell_at" (a9 K)) (hlnames : FnE P w K mg base CX0 2 "_law_names" (aW)) : FnE P w K mg base CX0 4 "_law_columns" (bD K) :=
  A.ok (k := 2) 40 sc_lcols (lib T (.cons (hcell.mono (by decide)) (.cons (hlnames.mono (by decide)) (.nil))) (.nil) (.nil)) (λ vs H Q E h => by obtain ⟨a, ns, rfl, _⟩ := h; rfl) w_lcols (λ vs H Q E h => by obtain ⟨a, ns, rfl, hS, q⟩ := h; exact S.j6 hS q)
theorem w_lrows : wSs (wp 40) (cfg (aX C [] [] []) K ["_law_parts_here", "_law_tops"] (a0 dE).names E0) (a7 dE) = S.iI := by kernel_rfl
theorem ok_lrows {f : Addr} {fd : FuncData} (A : DefAt K mg "_law_rows" dE ["_law_parts_here"] f fd) (T : Txt K mg C) : FnE P w K mg base CX0 2 "_law_rows" (S.aI) :=
  A.ok (k := 0) 40 sc_lrows (lib T (.nil) (.nil) (.nil)) (λ vs H Q E h => by obtain ⟨a, xs, ps, rfl, _⟩ := h; rfl) w_lrows (λ vs H Q E h => by obtain ⟨a, xs, ps, rfl, ha, pa, hl, q⟩ := h; exact S.mP ha pa hl q)
theorem qP : wSs (wp 40) (cfg (aX C [] [] []) K ["_law_parts_here", "_law_columns_here", "_law_found", "_law_part", "_law_column"] (a0 bL).names E0) (a7 bL) = S3.fX := by kernel_rfl
theorem nq {f : Addr} {fd : FuncData} (A : DefAt K mg "_law_places" bL ["_law_parts_here", "_law_columns_here"] f fd) (T : Txt K mg C) : FnE P w K mg base CX0 2 "_law_places" (S3.ax) :=
  A.ok (k := 0) 40 ng (lib T (.nil) (.nil) (.nil)) (λ vs H Q E h => by obtain ⟨a, c, xs, ps, cs, rfl, _⟩ := h; rfl) qP (λ vs H Q E h => by obtain ⟨a, c, xs, ps, cs, rfl, ha, pa, h24, hc, h8, q⟩ := h; exact S3.kA ha pa h24 hc h8 q)
theorem w_lsums : wSs (wp 40) (cfg (aX C [("_law_rows", S.aI)] [] []) K ["_law_parts_here", "_law_columns_here", "_law_rows_here", "_law_found", "_law_part", "_law_column"] (a0 dF).names E0) (a7 dF) = S.iJ := by kernel_rfl
theorem ok_lsums {f : Addr} {fd : FuncData} (A : DefAt K mg "_law_sums" dF ["_law_parts_here", "_law_columns_here"] f fd) (T : Txt K mg C) (hlrows : FnE P w K mg base CX0 2 "_law_rows" (S.aI)) : FnE P w K mg base CX0 4 "_law_sums" (S.b9) :=
  A.ok (k := 2) 40 sc_lsums (lib T (.cons (hlrows.mono (by decide)) (.nil)) (.nil) (.nil)) (λ vs H Q E h => by obtain ⟨a, c, xs, ps, cs, rfl, _⟩ := h; rfl) w_lsums (λ vs H Q E h => by obtain ⟨a, c, xs, ps, cs, rfl, ha, pa, g, hc, h8, q⟩ := h; exact S.mQ ha pa g hc h8 q)
theorem w_lgives : wSs (wp 40) (cfg (aX C [] [] []) K ["_law_parts_here", "_law_columns_here", "_law_one", "_law_found", "_law_sign", "_law_name", "_law_above", "_law_column"] (a0 cC).names E0) (a7 cC) = S3.gy := by kernel_rfl
theorem qQ {f : Addr} {fd : FuncData} (A : DefAt K mg "_law_gives" cC ["_law_parts_here", "_law_columns_here", "_law_one"] f fd) (T : Txt K mg C) : FnE P w K mg base CX0 2 "_law_gives" (S3.ce) :=
  A.ok (k := 0) 40 qB (lib T (.nil) (.nil) (.nil)) (λ vs H Q E h => by obtain ⟨a, c, t, xs, ps, cs, one, rfl, _⟩ := h; rfl) w_lgives (λ vs H Q E h => by obtain ⟨a, c, t, xs, ps, cs, one, rfl, ha, pa, g, hc, cn, h8, ht, _, q⟩ := h; exact S3.lR ha pa g hc cn h8 ht q)
theorem nu : wSs (wp 40) (cfg (aX C [("_law_cell_at", a9 K)] [] []) K ["_law_script", "_law_at", "_law_many", "_law_wide", "_law_found", "_law_k", "_law_cell", "_law_turn"] (a0 bp).names E0) (a7 bp) = S3.f9 K := by kernel_rfl
theorem m3 {f : Addr} {fd : FuncData} (A : DefAt K mg "_law_counted" bp ["_law_script", "_law_at", "_law_many"] f fd) (T : Txt K mg C) (hcell : FnE P w K mg base CX0 2 "_law_cell_at" (a9 K)) : FnE P w K mg base CX0 4 "_law_counted" (S3.bE K) :=
  A.ok (k := 2) 40 lZ (lib T (.cons (hcell.mono (by decide)) (.nil)) (.nil) (.nil)) (λ vs H Q E h => by obtain ⟨a, ns, x, y, rfl, _⟩ := h; rfl) nu (λ vs H Q E h => by obtain ⟨a, ns, x, y, rfl, hS, h0, h1, h2, h3, q⟩ := h; exact S3.j7 hS h0 h1 h2 h3 q)
theorem qR : wSs (wp 40) (cfg (aX C [("_law_places", S3.ax), ("_law_rows", S.aI)] [] []) K ["_law_parts_here", "_law_columns_here", "_law_counts", "_law_numbers", "_law_place", "_law_at", "_law_row", "_law_column", "_law_name", "_law_above", "_law_part"] (a0 bM).names E0) (a7 bM) = S3.fY := by kernel_rfl
theorem nv {f : Addr} {fd : FuncData} (A : DefAt K mg "_law_filled" bM ["_law_parts_here", "_law_columns_here", "_law_counts"] f fd) (T : Txt K mg C) (hlplaces : FnE P w K mg base CX0 2 "_law_places" (S3.ax)) (hlrows : FnE P w K mg base CX0 2 "_law_rows" (S.aI)) : FnE P w K mg base CX0 4 "_law_filled" (S3.aQ) :=
  A.ok (k := 2) 40 nh (lib T (.cons (hlplaces.mono (by decide)) (.cons (hlrows.mono (by decide)) (.nil))) (.nil) (.nil)) (λ vs H Q E h => by obtain ⟨a, c, m, xs, ms, ps, cs, rfl, _⟩ := h; rfl) qR (λ vs H Q E h => by obtain ⟨a, c, m, xs, ms, ps, cs, rfl, ha, pa, g, hc, cn, h8, hm, lm, hm0, q⟩ := h; exact S3.kD ha pa g hc cn h8 hm lm hm0 q)
theorem w_shown : wSs (wp 40) (cfg (aX C [("added", S3.fW C)] [] []) K ["house", "numbers", "place", "sums", "likeness", "counts", "own", "total", "one", "count"] (a0 dG).names E0) (a7 dG) = S5.oE C := by kernel_rfl
theorem ok_shown {f : Addr} {fd : FuncData} (A : DefAt K mg "shown" dG ["house", "numbers", "place", "sums", "likeness"] f fd) (T : Txt K mg C) (hadded : FnE P w K mg base CX0 8 "added" (S3.fW C)) : FnE P w K mg base CX0 10 "shown" (S5.cu C) :=
  A.ok (k := 8) 40 sc_shown (lib T (.cons (hadded.mono (by decide)) (.nil)) (.nil) (.nil)) (λ vs H Q E h => by obtain ⟨x, pn, pt, pl, ws, ps, cs, M, kn, p, l, rfl, _⟩ := h; rfl) w_shown (λ vs H Q E h => by obtain ⟨x, pn, pt, pl, ws, ps, cs, M, kn, p, l, rfl, hh, hn, hi, ht, hp, hl, tw, isM, nd, lM, hlk, q⟩ := h; exact S5.r_shown hh hn hi ht hp hl tw isM nd lM hlk q)
theorem w_atmost : wSs (wp 40) (cfg (aX C [("shown", S5.cu C)] [] []) K ["house", "numbers", "place", "sums"] (a0 cD).names E0) (a7 cD) = S5.jF C := by kernel_rfl
theorem qS {f : Addr} {fd : FuncData} (A : DefAt K mg "at_most" cD ["house", "numbers", "place", "sums"] f fd) (T : Txt K mg C) (hshown : FnE P w K mg base CX0 10 "shown" (S5.cu C)) : FnE P w K mg base CX0 12 "at_most" (S5.gB C 1) :=
  A.ok (k := 10) 40 qC (lib T (.cons (hshown.mono (by decide)) (.nil)) (.nil) (.nil)) (λ vs H Q E h => by obtain ⟨x, pn, pt, pl, ws, ps, cs, M, kn, p, rfl, _⟩ := h; rfl) w_atmost (λ vs H Q E h => by obtain ⟨x, pn, pt, pl, ws, ps, cs, M, kn, p, rfl, hh, hn, hi, ht, hp, hl, tw, isM, nd, lM, ne, q⟩ := h; exact S5.qp hh hn hi ht hp hl tw isM nd lM ne q)
theorem qT : wSs (wp 40) (cfg (aX C [("shown", S5.cu C)] [] []) K ["house", "numbers", "place", "sums"] (a0 bN).names E0) (a7 bN) = S5.iR C := by kernel_rfl
theorem nw {f : Addr} {fd : FuncData} (A : DefAt K mg "at_least" bN ["house", "numbers", "place", "sums"] f fd) (T : Txt K mg C) (hshown : FnE P w K mg base CX0 10 "shown" (S5.cu C)) : FnE P w K mg base CX0 12 "at_least" (S5.gB C (-1)) :=
  A.ok (k := 10) 40 ni (lib T (.cons (hshown.mono (by decide)) (.nil)) (.nil) (.nil)) (λ vs H Q E h => by obtain ⟨x, pn, pt, pl, ws, ps, cs, M, kn, p, rfl, _⟩ := h; rfl) qT (λ vs H Q E h => by obtain ⟨x, pn, pt, pl, ws, ps, cs, M, kn, p, rfl, hh, hn, hi, ht, hp, hl, tw, isM, nd, lM, ne, q⟩ := h; exact S5.mV hh hn hi ht hp hl tw isM nd lM ne q)
theorem w_lends : wSs (wp 40) (cfg (aX C [("_law_places", S3.ax), ("_law_sums", S.b9), ("_law_gives", S3.ce)] [] []) K ["_law_parts_here", "_law_columns_here", "_law_found", "_law_place", "_law_one", "_law_given"] (a0 dH).names E0) (a7 dH) = S5.iT := by kernel_rfl
theorem ok_lends {f : Addr} {fd : FuncData} (A : DefAt K mg "_law_ends" dH ["_law_parts_here", "_law_columns_here"] f fd) (T : Txt K mg C) (hlplaces : FnE P w K mg base CX0 2 "_law_places" (S3.ax)) (hlsums : FnE P w K mg base CX0 4 "_law_sums" (S.b9)) (hlgives : FnE P w K mg base CX0 2 "_law_gives" (S3.ce)) : FnE P w K mg base CX0 6 "_law_ends" (S5.cT) :=
  A.ok (k := 4) 40 sc_lends (lib T (.cons (hlplaces.mono (by decide)) (.cons (hlsums.mono (by decide)) (.cons (hlgives.mono (by decide)) (.nil)))) (.nil) (.nil)) (λ vs H Q E h => by obtain ⟨a, c, xs, ps, cs, rfl, _⟩ := h; rfl) w_lends (λ vs H Q E h => by obtain ⟨a, c, xs, ps, cs, rfl, ha, pa, g, hc, cn, h8, q⟩ := h; exact S5.mY ha pa g hc cn h8 q)
theorem w_lknown : wSs (wp 40) (cfg (aX C [("_law_cell_at", a9 K)] [] []) K ["_law_script", "_law_places_here", "_law_at", "_law_way", "_law_left", "_law_some", "_law_j", "_law_number", "_law_chosen"] (a0 cE).names E0) (a7 cE) = S5.gz K := by kernel_rfl
theorem qU {f : Addr} {fd : FuncData} (A : DefAt K mg "_law_known" cE ["_law_script", "_law_places_here", "_law_at"] f fd) (T : Txt K mg C) (hcell : FnE P w K mg base CX0 2 "_law_cell_at" (a9 K)) : FnE P w K mg base CX0 4 "_law_known" (S5.cf K) :=
  A.ok (k := 2) 40 qD (lib T (.cons (hcell.mono (by decide)) (.nil)) (.nil) (.nil)) (λ vs H Q E h => by obtain ⟨a, pp, ns, k, zs, P, rfl, _⟩ := h; rfl) w_lknown (λ vs H Q E h => by obtain ⟨a, pp, ns, k, zs, P, rfl, hS, hk, hp, pz, hP, q⟩ := h; exact S5.lS hS hk hp pz hP q)
theorem w_lchain : wSs (wp 40) (cfg (aX C [("_law_cell_at", a9 K)] [] []) K ["_law_script", "_law_sums_here", "_law_ends_here", "_law_known_here", "_law_at", "_law_chain_here", "_law_k", "_law_near", "_law_place", "_law_one", "_law_other_here"] (a0 cF).names E0) (a7 cF) = S5.gC K := by kernel_rfl
theorem qV {f : Addr} {fd : FuncData} (A : DefAt K mg "_law_chain" cF ["_law_script", "_law_sums_here", "_law_ends_here", "_law_known_here", "_law_at"] f fd) (T : Txt K mg C) (hcell : FnE P w K mg base CX0 2 "_law_cell_at" (a9 K)) : FnE P w K mg base CX0 4 "_law_chain" (S5.ci K) :=
  A.ok (k := 2) 40 qE (lib T (.cons (hcell.mono (by decide)) (.nil)) (.nil) (.nil)) (λ vs H Q E h => by obtain ⟨a, pz, pe, pk, k, ns, zs, ws, kvs, KN, S, rfl, _⟩ := h; rfl) w_lchain (λ vs H Q E h => by obtain ⟨a, pz, pe, pk, k, ns, zs, ws, kvs, KN, S, rfl, hS, h0, hz, tz, s1, s300, he, en, hk, pw, q⟩ := h; exact S5.lW hS h0 hz tz s1 s300 he en hk pw q)
theorem w_lother : wSs (wp 40) (cfg (aX C [("_law_cell_at", a9 K), ("_law_filled", S3.aQ)] [] []) K ["_law_script", "_law_parts_here", "_law_columns_here", "_law_counts", "_law_left", "_law_others", "_law_k", "_law_mixed", "_law_digit", "_law_one"] (a0 cG).names E0) (a7 cG) = S5.gA K := by kernel_rfl
theorem qW {f : Addr} {fd : FuncData} (A : DefAt K mg "_law_other" cG ["_law_script", "_law_parts_here", "_law_columns_here", "_law_counts"] f fd) (T : Txt K mg C) (hcell : FnE P w K mg base CX0 2 "_law_cell_at" (a9 K)) (hlfilled : FnE P w K mg base CX0 4 "_law_filled" (S3.aQ)) : FnE P w K mg base CX0 6 "_law_other" (S5.cg K) :=
  A.ok (k := 4) 40 qF (lib T (.cons (hcell.mono (by decide)) (.cons (hlfilled.mono (by decide)) (.nil))) (.nil) (.nil)) (λ vs H Q E h => by obtain ⟨a, pl, pc, m, ns, xs, ms, ps, cs, rfl, _⟩ := h; rfl) w_lother (λ vs H Q E h => by obtain ⟨a, pl, pc, m, ns, xs, ms, ps, cs, rfl, hS, hl, pa, g, hc, cn, h8, hm, lm, hm0, q⟩ := h; exact S5.lT hS hl pa g hc cn h8 hm lm hm0 q)
theorem w_ltrue : wSs (wp 40) (cfg (aX C [("at_most", S5.gB C 1), ("at_least", S5.gB C (-1))] [] []) K ["_law_house", "_law_numbers", "_law_tables", "_law_place", "_law_chain_here", "_law_high", "_law_low", "_law_table"] (a0 dI).names E0) (a7 dI) = S5.iS C := by kernel_rfl
theorem ok_ltrue {f : Addr} {fd : FuncData} (A : DefAt K mg "_law_true" dI ["_law_house", "_law_numbers", "_law_tables", "_law_place", "_law_chain_here"] f fd) (T : Txt K mg C) (hatmost : FnE P w K mg base CX0 12 "at_most" (S5.gB C 1)) (hatleast : FnE P w K mg base CX0 12 "at_least" (S5.gB C (-1))) : FnE P w K mg base CX0 14 "_law_true" (S5.cS C) :=
  A.ok (k := 12) 40 sc_ltrue (lib T (.cons (hatmost.mono (by decide)) (.cons (hatleast.mono (by decide)) (.nil))) (.nil) (.nil)) (λ vs H Q E h => by obtain ⟨x, pn, pt, pl, tl, ws, xs, ps, cs, M, kn, p, rfl, _⟩ := h; rfl) w_ltrue (λ vs H Q E h => by obtain ⟨x, pn, pt, pl, tl, ws, xs, ps, cs, M, kn, p, rfl, hh, hn, hi, ht, hp, hl, tw, isM, nd, lM, ne, hx, hT, q⟩ := h; exact S5.mW hh hn hi ht hp hl tw isM nd lM ne hx hT q)
theorem w_law : wSs (wp 40) (cfg (aX C [("_law_parts", c9 K), ("_law_columns", bD K), ("_law_places", S3.ax), ("_law_sums", S.b9), ("_law_ends", S5.cT), ("_law_counted", S3.bE K), ("_law_rows", S.aI), ("_law_filled", S3.aQ), ("_law_other", S5.cg K), ("_law_known", S5.cf K), ("_law_cell_at", a9 K), ("_law_chain", S5.ci K), ("_law_true", S5.cS C)] [("House", C, bj C)] []) K ["_law_script", "_law_parts_here", "_law_columns_here", "_law_house", "_law_places_here", "_law_sums_here", "_law_ends_here", "_law_counts", "_law_table", "_law_other_here", "_law_left", "_law_known_here", "_law_numbers", "_law_place", "_law_at", "_law_some", "_law_k", "_law_chain_here"] (a0 eI).names E0) (a7 eI) = S5.oK K C := by kernel_rfl
theorem ok_law {f : Addr} {fd : FuncData} (F : Fun K "law" "law" eI f fd) (T : Txt K mg C) (hlparts : FnE P w K mg base CX0 4 "_law_parts" (c9 K)) (hlcols : FnE P w K mg base CX0 4 "_law_columns" (bD K)) (hinit : MkE P w K mg base CX0 8 "House" (C, bj C)) (hlplaces : FnE P w K mg base CX0 2 "_law_places" (S3.ax)) (hlsums : FnE P w K mg base CX0 4 "_law_sums" (S.b9)) (hlends : FnE P w K mg base CX0 6 "_law_ends" (S5.cT)) (hlcounted : FnE P w K mg base CX0 4 "_law_counted" (S3.bE K)) (hlrows : FnE P w K mg base CX0 2 "_law_rows" (S.aI)) (hlfilled : FnE P w K mg base CX0 4 "_law_filled" (S3.aQ)) (hlother : FnE P w K mg base CX0 6 "_law_other" (S5.cg K)) (hlknown : FnE P w K mg base CX0 4 "_law_known" (S5.cf K)) (hcell : FnE P w K mg base CX0 2 "_law_cell_at" (a9 K)) (hlchain : FnE P w K mg base CX0 4 "_law_chain" (S5.ci K)) (hltrue : FnE P w K mg base CX0 14 "_law_true" (S5.cS C)) : FnOk P w K mg base CX0 16 f fd ["_law_script"] (o3 K) :=
  nY (k := 14) 40 F sc_law (lib T (.cons (hlparts.mono (by decide)) (.cons (hlcols.mono (by decide)) (.cons (hlplaces.mono (by decide)) (.cons (hlsums.mono (by decide)) (.cons (hlends.mono (by decide)) (.cons (hlcounted.mono (by decide)) (.cons (hlrows.mono (by decide)) (.cons (hlfilled.mono (by decide)) (.cons (hlother.mono (by decide)) (.cons (hlknown.mono (by decide)) (.cons (hcell.mono (by decide)) (.cons (hlchain.mono (by decide)) (.cons (hltrue.mono (by decide)) (.nil)))))))))))))) (.cons (hinit.mono (by decide)) (.nil)) (.nil)) (λ vs H Q E h => by obtain ⟨a, ns, rfl, _⟩ := h; rfl) w_law (λ vs H Q E h => by obtain ⟨a, ns, rfl, hS, hl, q⟩ := h; exact S5.r52_law hS q)
end
theorem all_mk {l : PySem.W.OpenLaw} {w : World} {K : PySem.W.Frag} {h : Heap} {mg : Str -> Option Value} {fa C : Addr} (X : K.In h) (G : h.Ns mainGlobals mg) (hfa : mg "law" = some (.ref fa))
    {fname : Addr} {ocname : Value} {odname anname : Option Addr} {slname : Array (Option Value)} {kVname dcname pmname cdname ctname : Value}
    {fplain : Addr} {ocplain : Value} {odplain anplain : Option Addr} {slplain : Array (Option Value)} {kVplain dcplain pmplain cdplain ctplain : Value}
    {fcname : Addr} {occname : Value} {odcname ancname : Option Addr} {slcname : Array (Option Value)} {kVcname dccname pmcname cdcname ctcname : Value}
    {fcabove : Addr} {occabove : Value} {odcabove ancabove : Option Addr} {slcabove : Array (Option Value)} {kVcabove dccabove pmcabove cdcabove ctcabove : Value}
    {fccols : Addr} {occcols : Value} {odccols anccols : Option Addr} {slccols : Array (Option Value)} {kVccols dcccols pmccols cdccols ctccols : Value}
    {fcparts : Addr} {occparts : Value} {odcparts ancparts : Option Addr} {slcparts : Array (Option Value)} {kVcparts dccparts pmcparts cdcparts ctcparts : Value}
    {fturned : Addr} {octurned : Value} {odturned anturned : Option Addr} {slturned : Array (Option Value)} {kVturned dcturned pmturned cdturned ctturned : Value}
    {finit : Addr} {ocinit : Value} {odinit aninit : Option Addr} {slinit : Array (Option Value)} {kVinit dcinit pminit cdinit ctinit : Value}
    {fmparts : Addr} {ocmparts : Value} {odmparts anmparts : Option Addr} {slmparts : Array (Option Value)} {kVmparts dcmparts pmmparts cdmparts ctmparts : Value}
    {fmcols : Addr} {ocmcols : Value} {odmcols anmcols : Option Addr} {slmcols : Array (Option Value)} {kVmcols dcmcols pmmcols cdmcols ctmcols : Value}
    {fmben : Addr} {ocmben : Value} {odmben anmben : Option Addr} {slmben : Array (Option Value)} {kVmben dcmben pmmben cdmben ctmben : Value}
    {fpaired : Addr} {ocpaired : Value} {odpaired anpaired : Option Addr} {slpaired : Array (Option Value)} {kVpaired dcpaired pmpaired cdpaired ctpaired : Value}
    {fmplaces : Addr} {ocmplaces : Value} {odmplaces anmplaces : Option Addr} {slmplaces : Array (Option Value)} {kVmplaces dcmplaces pmmplaces cdmplaces ctmplaces : Value}
    {fwhole : Addr} {ocwhole : Value} {odwhole anwhole : Option Addr} {slwhole : Array (Option Value)} {kVwhole dcwhole pmwhole cdwhole ctwhole : Value}
    {fothers : Addr} {ocothers : Value} {odothers anothers : Option Addr} {slothers : Array (Option Value)} {kVothers dcothers pmothers cdothers ctothers : Value}
    {fsign : Addr} {ocsign : Value} {odsign ansign : Option Addr} {slsign : Array (Option Value)} {kVsign dcsign pmsign cdsign ctsign : Value}
    {fgiven : Addr} {ocgiven : Value} {odgiven angiven : Option Addr} {slgiven : Array (Option Value)} {kVgiven dcgiven pmgiven cdgiven ctgiven : Value}
    {fadded : Addr} {ocadded : Value} {odadded anadded : Option Addr} {sladded : Array (Option Value)} {kVadded dcadded pmadded cdadded ctadded : Value}
    {fcell : Addr} {occell : Value} {odcell ancell : Option Addr} {slcell : Array (Option Value)} {kVcell dccell pmcell cdcell ctcell : Value}
    {flnames : Addr} {oclnames : Value} {odlnames anlnames : Option Addr} {sllnames : Array (Option Value)} {kVlnames dclnames pmlnames cdlnames ctlnames : Value}
    {flparts : Addr} {oclparts : Value} {odlparts anlparts : Option Addr} {sllparts : Array (Option Value)} {kVlparts dclparts pmlparts cdlparts ctlparts : Value}
    {flcols : Addr} {oclcols : Value} {odlcols anlcols : Option Addr} {sllcols : Array (Option Value)} {kVlcols dclcols pmlcols cdlcols ctlcols : Value}
    {flrows : Addr} {oclrows : Value} {odlrows anlrows : Option Addr} {sllrows : Array (Option Value)} {kVlrows dclrows pmlrows cdlrows ctlrows : Value}
    {flplaces : Addr} {oclplaces : Value} {odlplaces anlplaces : Option Addr} {sllplaces : Array (Option Value)} {kVlplaces dclplaces pmlplaces cdlplaces ctlplaces : Value}
    {flsums : Addr} {oclsums : Value} {odlsums anlsums : Option Addr} {sllsums : Array (Option Value)} {kVlsums dclsums pmlsums cdlsums ctlsums : Value}
    {flgives : Addr} {oclgives : Value} {odlgives anlgives : Option Addr} {sllgives : Array (Option Value)} {kVlgives dclgives pmlgives cdlgives ctlgives : Value}
    {flcounted : Addr} {oclcounted : Value} {odlcounted anlcounted : Option Addr} {sllcounted : Array (Option Value)} {kVlcounted dclcounted pmlcounted cdlcounted ctlcounted : Value}
    {flfilled : Addr} {oclfilled : Value} {odlfilled anlfilled : Option Addr} {sllfilled : Array (Option Value)} {kVlfilled dclfilled pmlfilled cdlfilled ctlfilled : Value}
    {fshown : Addr} {ocshown : Value} {odshown anshown : Option Addr} {slshown : Array (Option Value)} {kVshown dcshown pmshown cdshown ctshown : Value}
    {fatmost : Addr} {ocatmost : Value} {odatmost anatmost : Option Addr} {slatmost : Array (Option Value)} {kVatmost dcatmost pmatmost cdatmost ctatmost : Value}
    {fatleast : Addr} {ocatleast : Value} {odatleast anatleast : Option Addr} {slatleast : Array (Option Value)} {kVatleast dcatleast pmatleast cdatleast ctatleast : Value}
    {flends : Addr} {oclends : Value} {odlends anlends : Option Addr} {sllends : Array (Option Value)} {kVlends dclends pmlends cdlends ctlends : Value}
    {flknown : Addr} {oclknown : Value} {odlknown anlknown : Option Addr} {sllknown : Array (Option Value)} {kVlknown dclknown pmlknown cdlknown ctlknown : Value}
    {flchain : Addr} {oclchain : Value} {odlchain anlchain : Option Addr} {sllchain : Array (Option Value)} {kVlchain dclchain pmlchain cdlchain ctlchain : Value}
    {flother : Addr} {oclother : Value} {odlother anlother : Option Addr} {sllother : Array (Option Value)} {kVlother dclother pmlother cdlother ctlother : Value}
    {fltrue : Addr} {ocltrue : Value} {odltrue anltrue : Option Addr} {slltrue : Array (Option Value)} {kVltrue dcltrue pmltrue cdltrue ctltrue : Value}
    {flaw : Addr} {oclaw : Value} {odlaw anlaw : Option Addr} {sllaw : Array (Option Value)} {kVlaw dclaw pmlaw cdlaw ctlaw : Value}
    (aC : PySem.W.nsIn K mainGlobals "House" = some (some (.ref C)))
    (aname : PySem.W.nsIn K mainGlobals "is_name" = some (some (.ref fname))) (lname : K.lookup fname = some ⟨ocname, odname, .func (PySem.W.fnOf "is_name" "is_name" (ae fu) (a7 fu) (a0 fu) .none kVname dcname pmname anname cdname ctname), slname⟩) (cname : PySem.W.codeIn K cdname "is_name" = true) (kname : PySem.W.keepIn K (.ref fname) = true)
    (aplain : PySem.W.nsIn K mainGlobals "plain_text" = some (some (.ref fplain))) (lplain : K.lookup fplain = some ⟨ocplain, odplain, .func (PySem.W.fnOf "plain_text" "plain_text" (ae dw) (a7 dw) (a0 dw) .none kVplain dcplain pmplain anplain cdplain ctplain), slplain⟩) (cplain : PySem.W.codeIn K cdplain "plain_text" = true) (kplain : PySem.W.keepIn K (.ref fplain) = true)
    (acname : PySem.W.nsIn K mainGlobals "checked_name" = some (some (.ref fcname))) (lcname : K.lookup fcname = some ⟨occname, odcname, .func (PySem.W.fnOf "checked_name" "checked_name" (ae dy) (a7 dy) (a0 dy) .none kVcname dccname pmcname ancname cdcname ctcname), slcname⟩) (ccname : PySem.W.codeIn K cdcname "checked_name" = true) (kcname : PySem.W.keepIn K (.ref fcname) = true)
    (acabove : PySem.W.nsIn K mainGlobals "checked_above" = some (some (.ref fcabove))) (lcabove : K.lookup fcabove = some ⟨occabove, odcabove, .func (PySem.W.fnOf "checked_above" "checked_above" (ae cv) (a7 cv) (a0 cv) .none kVcabove dccabove pmcabove ancabove cdcabove ctcabove), slcabove⟩) (ccabove : PySem.W.codeIn K cdcabove "checked_above" = true) (kcabove : PySem.W.keepIn K (.ref fcabove) = true)
    (accols : PySem.W.nsIn K mainGlobals "checked_columns" = some (some (.ref fccols))) (lccols : K.lookup fccols = some ⟨occcols, odccols, .func (PySem.W.fnOf "checked_columns" "checked_columns" (ae dz) (a7 dz) (a0 dz) .none kVccols dcccols pmccols anccols cdccols ctccols), slccols⟩) (cccols : PySem.W.codeIn K cdccols "checked_columns" = true) (kccols : PySem.W.keepIn K (.ref fccols) = true)
    (acparts : PySem.W.nsIn K mainGlobals "checked_parts" = some (some (.ref fcparts))) (lcparts : K.lookup fcparts = some ⟨occparts, odcparts, .func (PySem.W.fnOf "checked_parts" "checked_parts" (ae cw) (a7 cw) (a0 cw) .none kVcparts dccparts pmcparts ancparts cdcparts ctcparts), slcparts⟩) (ccparts : PySem.W.codeIn K cdcparts "checked_parts" = true) (kcparts : PySem.W.keepIn K (.ref fcparts) = true)
    (aturned : PySem.W.nsIn K mainGlobals "turned_about" = some (some (.ref fturned))) (lturned : K.lookup fturned = some ⟨octurned, odturned, .func (PySem.W.fnOf "turned_about" "turned_about" (ae cx) (a7 cx) (a0 cx) .none kVturned dcturned pmturned anturned cdturned ctturned), slturned⟩) (cturned : PySem.W.codeIn K cdturned "turned_about" = true) (kturned : PySem.W.keepIn K (.ref fturned) = true)
    (ainit : PySem.W.findIn K (.ref C) "__init__" = some (some (.ref finit))) (iinit : PySem.W.isFn K (.ref finit) = true) (linit : K.lookup finit = some ⟨ocinit, odinit, .func (PySem.W.fnOf "__init__" "House.__init__" (ae eF) (a7 eF) (a0 eF) .none kVinit dcinit pminit aninit cdinit ctinit), slinit⟩) (cinit : PySem.W.codeIn K cdinit "House.__init__" = true) (kinit : PySem.W.keepIn K (.ref finit) = true)
    (amparts : PySem.W.findIn K (.ref C) "parts" = some (some (.ref fmparts))) (imparts : PySem.W.isFn K (.ref fmparts) = true) (lmparts : K.lookup fmparts = some ⟨ocmparts, odmparts, .func (PySem.W.fnOf "parts" "House.parts" (ae bS) (a7 bS) (a0 bS) .none kVmparts dcmparts pmmparts anmparts cdmparts ctmparts), slmparts⟩) (cmparts : PySem.W.codeIn K cdmparts "House.parts" = true) (kmparts : PySem.W.keepIn K (.ref fmparts) = true)
    (amcols : PySem.W.findIn K (.ref C) "columns" = some (some (.ref fmcols))) (imcols : PySem.W.isFn K (.ref fmcols) = true) (lmcols : K.lookup fmcols = some ⟨ocmcols, odmcols, .func (PySem.W.fnOf "columns" "House.columns" (ae cU) (a7 cU) (a0 cU) .none kVmcols dcmcols pmmcols anmcols cdmcols ctmcols), slmcols⟩) (cmcols : PySem.W.codeIn K cdmcols "House.columns" = true) (kmcols : PySem.W.keepIn K (.ref fmcols) = true)
    (amben : PySem.W.findIn K (.ref C) "beneath" = some (some (.ref fmben))) (imben : PySem.W.isFn K (.ref fmben) = true) (lmben : K.lookup fmben = some ⟨ocmben, odmben, .func (PySem.W.fnOf "beneath" "House.beneath" (ae eG) (a7 eG) (a0 eG) .none kVmben dcmben pmmben anmben cdmben ctmben), slmben⟩) (cmben : PySem.W.codeIn K cdmben "House.beneath" = true) (kmben : PySem.W.keepIn K (.ref fmben) = true)
    (apaired : PySem.W.nsIn K mainGlobals "paired" = some (some (.ref fpaired))) (lpaired : K.lookup fpaired = some ⟨ocpaired, odpaired, .func (PySem.W.fnOf "paired" "paired" (ae cy) (a7 cy) (a0 cy) .none kVpaired dcpaired pmpaired anpaired cdpaired ctpaired), slpaired⟩) (cpaired : PySem.W.codeIn K cdpaired "paired" = true) (kpaired : PySem.W.keepIn K (.ref fpaired) = true)
    (amplaces : PySem.W.findIn K (.ref C) "places" = some (some (.ref fmplaces))) (implaces : PySem.W.isFn K (.ref fmplaces) = true) (lmplaces : K.lookup fmplaces = some ⟨ocmplaces, odmplaces, .func (PySem.W.fnOf "places" "House.places" (ae bv) (a7 bv) (a0 bv) .none kVmplaces dcmplaces pmmplaces anmplaces cdmplaces ctmplaces), slmplaces⟩) (cmplaces : PySem.W.codeIn K cdmplaces "House.places" = true) (kmplaces : PySem.W.keepIn K (.ref fmplaces) = true)
    (awhole : PySem.W.nsIn K mainGlobals "whole_of" = some (some (.ref fwhole))) (lwhole : K.lookup fwhole = some ⟨ocwhole, odwhole, .func (PySem.W.fnOf "whole_of" "whole_of" (ae dA) (a7 dA) (a0 dA) .none kVwhole dcwhole pmwhole anwhole cdwhole ctwhole), slwhole⟩) (cwhole : PySem.W.codeIn K cdwhole "whole_of" = true) (kwhole : PySem.W.keepIn K (.ref fwhole) = true)
    (aothers : PySem.W.nsIn K mainGlobals "others_of" = some (some (.ref fothers))) (lothers : K.lookup fothers = some ⟨ocothers, odothers, .func (PySem.W.fnOf "others_of" "others_of" (ae cz) (a7 cz) (a0 cz) .none kVothers dcothers pmothers anothers cdothers ctothers), slothers⟩) (cothers : PySem.W.codeIn K cdothers "others_of" = true) (kothers : PySem.W.keepIn K (.ref fothers) = true)
    (asign : PySem.W.nsIn K mainGlobals "sign_of" = some (some (.ref fsign))) (lsign : K.lookup fsign = some ⟨ocsign, odsign, .func (PySem.W.fnOf "sign_of" "sign_of" (ae fv) (a7 fv) (a0 fv) .none kVsign dcsign pmsign ansign cdsign ctsign), slsign⟩) (csign : PySem.W.codeIn K cdsign "sign_of" = true) (ksign : PySem.W.keepIn K (.ref fsign) = true)
    (agiven : PySem.W.nsIn K mainGlobals "given_by" = some (some (.ref fgiven))) (lgiven : K.lookup fgiven = some ⟨ocgiven, odgiven, .func (PySem.W.fnOf "given_by" "given_by" (ae dB) (a7 dB) (a0 dB) .none kVgiven dcgiven pmgiven angiven cdgiven ctgiven), slgiven⟩) (cgiven : PySem.W.codeIn K cdgiven "given_by" = true) (kgiven : PySem.W.keepIn K (.ref fgiven) = true)
    (aadded : PySem.W.nsIn K mainGlobals "added" = some (some (.ref fadded))) (ladded : K.lookup fadded = some ⟨ocadded, odadded, .func (PySem.W.fnOf "added" "added" (ae dC) (a7 dC) (a0 dC) .none kVadded dcadded pmadded anadded cdadded ctadded), sladded⟩) (cadded : PySem.W.codeIn K cdadded "added" = true) (kadded : PySem.W.keepIn K (.ref fadded) = true)
    (acell : PySem.W.nsIn K mainGlobals "_law_cell_at" = some (some (.ref fcell))) (lcell : K.lookup fcell = some ⟨occell, odcell, .func (PySem.W.fnOf "_law_cell_at" "_law_cell_at" (ae fw) (a7 fw) (a0 fw) .none kVcell dccell pmcell ancell cdcell ctcell), slcell⟩) (ccell : PySem.W.codeIn K cdcell "_law_cell_at" = true) (kcell : PySem.W.keepIn K (.ref fcell) = true)
    (alnames : PySem.W.nsIn K mainGlobals "_law_names" = some (some (.ref flnames))) (llnames : K.lookup flnames = some ⟨oclnames, odlnames, .func (PySem.W.fnOf "_law_names" "_law_names" (ae cA) (a7 cA) (a0 cA) .none kVlnames dclnames pmlnames anlnames cdlnames ctlnames), sllnames⟩) (clnames : PySem.W.codeIn K cdlnames "_law_names" = true) (klnames : PySem.W.keepIn K (.ref flnames) = true)
    (alparts : PySem.W.nsIn K mainGlobals "_law_parts" = some (some (.ref flparts))) (llparts : K.lookup flparts = some ⟨oclparts, odlparts, .func (PySem.W.fnOf "_law_parts" "_law_parts" (ae cB) (a7 cB) (a0 cB) .none kVlparts dclparts pmlparts anlparts cdlparts ctlparts), sllparts⟩) (clparts : PySem.W.codeIn K cdlparts "_law_parts" = true) (klparts : PySem.W.keepIn K (.ref flparts) = true)
    (alcols : PySem.W.nsIn K mainGlobals "_law_columns" = some (some (.ref flcols))) (llcols : K.lookup flcols = some ⟨oclcols, odlcols, .func (PySem.W.fnOf "_law_columns" "_law_columns" (ae dD) (a7 dD) (a0 dD) .none kVlcols dclcols pmlcols anlcols cdlcols ctlcols), sllcols⟩) (clcols : PySem.W.codeIn K cdlcols "_law_columns" = true) (klcols : PySem.W.keepIn K (.ref flcols) = true)
    (alrows : PySem.W.nsIn K mainGlobals "_law_rows" = some (some (.ref flrows))) (llrows : K.lookup flrows = some ⟨oclrows, odlrows, .func (PySem.W.fnOf "_law_rows" "_law_rows" (ae dE) (a7 dE) (a0 dE) .none kVlrows dclrows pmlrows anlrows cdlrows ctlrows), sllrows⟩) (clrows : PySem.W.codeIn K cdlrows "_law_rows" = true) (klrows : PySem.W.keepIn K (.ref flrows) = true)
    (alplaces : PySem.W.nsIn K mainGlobals "_law_places" = some (some (.ref flplaces))) (llplaces : K.lookup flplaces = some ⟨oclplaces, odlplaces, .func (PySem.W.fnOf "_law_places" "_law_places" (ae bL) (a7 bL) (a0 bL) .none kVlplaces dclplaces pmlplaces anlplaces cdlplaces ctlplaces), sllplaces⟩) (clplaces : PySem.W.codeIn K cdlplaces "_law_places" = true) (klplaces : PySem.W.keepIn K (.ref flplaces) = true)
    (alsums : PySem.W.nsIn K mainGlobals "_law_sums" = some (some (.ref flsums))) (llsums : K.lookup flsums = some ⟨oclsums, odlsums, .func (PySem.W.fnOf "_law_sums" "_law_sums" (ae dF) (a7 dF) (a0 dF) .none kVlsums dclsums pmlsums anlsums cdlsums ctlsums), sllsums⟩) (clsums : PySem.W.codeIn K cdlsums "_law_sums" = true) (klsums : PySem.W.keepIn K (.ref flsums) = true)
    (algives : PySem.W.nsIn K mainGlobals "_law_gives" = some (some (.ref flgives))) (llgives : K.lookup flgives = some ⟨oclgives, odlgives, .func (PySem.W.fnOf "_law_gives" "_law_gives" (ae cC) (a7 cC) (a0 cC) .none kVlgives dclgives pmlgives anlgives cdlgives ctlgives), sllgives⟩) (clgives : PySem.W.codeIn K cdlgives "_law_gives" = true) (klgives : PySem.W.keepIn K (.ref flgives) = true)
    (alcounted : PySem.W.nsIn K mainGlobals "_law_counted" = some (some (.ref flcounted))) (llcounted : K.lookup flcounted = some ⟨oclcounted, odlcounted, .func (PySem.W.fnOf "_law_counted" "_law_counted" (ae bp) (a7 bp) (a0 bp) .none kVlcounted dclcounted pmlcounted anlcounted cdlcounted ctlcounted), sllcounted⟩) (clcounted : PySem.W.codeIn K cdlcounted "_law_counted" = true) (klcounted : PySem.W.keepIn K (.ref flcounted) = true)
    (alfilled : PySem.W.nsIn K mainGlobals "_law_filled" = some (some (.ref flfilled))) (llfilled : K.lookup flfilled = some ⟨oclfilled, odlfilled, .func (PySem.W.fnOf "_law_filled" "_law_filled" (ae bM) (a7 bM) (a0 bM) .none kVlfilled dclfilled pmlfilled anlfilled cdlfilled ctlfilled), sllfilled⟩) (clfilled : PySem.W.codeIn K cdlfilled "_law_filled" = true) (klfilled : PySem.W.keepIn K (.ref flfilled) = true)
    (ashown : PySem.W.nsIn K mainGlobals "shown" = some (some (.ref fshown))) (lshown : K.lookup fshown = some ⟨ocshown, odshown, .func (PySem.W.fnOf "shown" "shown" (ae dG) (a7 dG) (a0 dG) .none kVshown dcshown pmshown anshown cdshown ctshown), slshown⟩) (cshown : PySem.W.codeIn K cdshown "shown" = true) (kshown : PySem.W.keepIn K (.ref fshown) = true)
    (aatmost : PySem.W.nsIn K mainGlobals "at_most" = some (some (.ref fatmost))) (latmost : K.lookup fatmost = some ⟨ocatmost, odatmost, .func (PySem.W.fnOf "at_most" "at_most" (ae cD) (a7 cD) (a0 cD) .none kVatmost dcatmost pmatmost anatmost cdatmost ctatmost), slatmost⟩) (catmost : PySem.W.codeIn K cdatmost "at_most" = true) (katmost : PySem.W.keepIn K (.ref fatmost) = true)
    (aatleast : PySem.W.nsIn K mainGlobals "at_least" = some (some (.ref fatleast))) (latleast : K.lookup fatleast = some ⟨ocatleast, odatleast, .func (PySem.W.fnOf "at_least" "at_least" (ae bN) (a7 bN) (a0 bN) .none kVatleast dcatleast pmatleast anatleast cdatleast ctatleast), slatleast⟩) (catleast : PySem.W.codeIn K cdatleast "at_least" = true) (katleast : PySem.W.keepIn K (.ref fatleast) = true)
    (alends : PySem.W.nsIn K mainGlobals "_law_ends" = some (some (.ref flends))) (llends : K.lookup flends = some ⟨oclends, odlends, .func (PySem.W.fnOf "_law_ends" "_law_ends" (ae dH) (a7 dH) (a0 dH) .none kVlends dclends pmlends anlends cdlends ctlends), sllends⟩) (clends : PySem.W.codeIn K cdlends "_law_ends" = true) (klends : PySem.W.keepIn K (.ref flends) = true)
    (alknown : PySem.W.nsIn K mainGlobals "_law_known" = some (some (.ref flknown))) (llknown : K.lookup flknown = some ⟨oclknown, odlknown, .func (PySem.W.fnOf "_law_known" "_law_known" (ae cE) (a7 cE) (a0 cE) .none kVlknown dclknown pmlknown anlknown cdlknown ctlknown), sllknown⟩) (clknown : PySem.W.codeIn K cdlknown "_law_known" = true) (klknown : PySem.W.keepIn K (.ref flknown) = true)
    (alchain : PySem.W.nsIn K mainGlobals "_law_chain" = some (some (.ref flchain))) (llchain : K.lookup flchain = some ⟨oclchain, odlchain, .func (PySem.W.fnOf "_law_chain" "_law_chain" (ae cF) (a7 cF) (a0 cF) .none kVlchain dclchain pmlchain anlchain cdlchain ctlchain), sllchain⟩) (clchain : PySem.W.codeIn K cdlchain "_law_chain" = true) (klchain : PySem.W.keepIn K (.ref flchain) = true)
    (alother : PySem.W.nsIn K mainGlobals "_law_other" = some (some (.ref flother))) (llother : K.lookup flother = some ⟨oclother, odlother, .func (PySem.W.fnOf "_law_other" "_law_other" (ae cG) (a7 cG) (a0 cG) .none kVlother dclother pmlother anlother cdlother ctlother), sllother⟩) (clother : PySem.W.codeIn K cdlother "_law_other" = true) (klother : PySem.W.keepIn K (.ref flother) = true)
    (altrue : PySem.W.nsIn K mainGlobals "_law_true" = some (some (.ref fltrue))) (lltrue : K.lookup fltrue = some ⟨ocltrue, odltrue, .func (PySem.W.fnOf "_law_true" "_law_true" (ae dI) (a7 dI) (a0 dI) .none kVltrue dcltrue pmltrue anltrue cdltrue ctltrue), slltrue⟩) (cltrue : PySem.W.codeIn K cdltrue "_law_true" = true) (kltrue : PySem.W.keepIn K (.ref fltrue) = true)
    (alaw : PySem.W.nsIn K mainGlobals "law" = some (some (.ref flaw))) (llaw : K.lookup flaw = some ⟨oclaw, odlaw, .func (PySem.W.fnOf "law" "law" (ae eI) (a7 eI) (a0 eI) .none kVlaw dclaw pmlaw anlaw cdlaw ctlaw), sllaw⟩) (claw : PySem.W.codeIn K cdlaw "law" = true) (klaw : PySem.W.keepIn K (.ref flaw) = true)
    (pg : PySem.W.plainGet K C Str.empty = true) (hd : PySem.W.hasDictIn K C = true) (po : PySem.W.plainOver K C = true) (sa : PySem.W.findIn K (.ref C) "__setattr__" = some (some (.builtin "object.__setattr__"))) (mk : PySem.W.makesIn K C = true) (kc : PySem.W.keepIn K (.ref C) = true)
    (f_above_of : PySem.W.findIn K (.ref C) "above_of" = some none)
    (f_column_names : PySem.W.findIn K (.ref C) "column_names" = some none)
    (f_beneath_of : PySem.W.findIn K (.ref C) "beneath_of" = some none)
    (z_isinstance : PySem.W.nsIn K mainGlobals "isinstance" = some none)
    (z_str : PySem.W.nsIn K mainGlobals "str" = some none)
    (z_list : PySem.W.nsIn K mainGlobals "list" = some none)
    (z_tuple : PySem.W.nsIn K mainGlobals "tuple" = some none)
    (z_len : PySem.W.nsIn K mainGlobals "len" = some none)
    (z_all : PySem.W.nsIn K mainGlobals "all" = some none)
    (z_range : PySem.W.nsIn K mainGlobals "range" = some none)
    (z_int : PySem.W.nsIn K mainGlobals "int" = some none)
    (z_reversed : PySem.W.nsIn K mainGlobals "reversed" = some none)
    (z_sum : PySem.W.nsIn K mainGlobals "sum" = some none)
    {t_ALL : Tok} (g_ALL : PySem.W.nsIn K mainGlobals "ALL" = some (some (.str "all" t_ALL)))
    {t_DOWN : Tok} (g_DOWN : PySem.W.nsIn K mainGlobals "DOWN" = some (some (.str "down" t_DOWN)))
    : ∃ fd : FuncData, (∀ (s : Shared) (v : Value), BindsTo s fd ⟨[v], []⟩ [("_law_script", v)]) /\ ∀ base : Heap, K.In base -> base.Ns mainGlobals mg -> FnOk l.prog w K mg base CX0 16 fa fd ["_law_script"] (o3 K) := by
  have e := hfa.symm.trans (PySem.W.mg_of X G alaw)
  cases e
  have T : Txt K mg C := ⟨⟨pg, hd, po, sa⟩, PySem.W.mg_of X G aC, f_above_of, f_column_names, f_beneath_of, PySem.W.mg_none_of X G z_isinstance, PySem.W.mg_none_of X G z_str, PySem.W.mg_none_of X G z_list, PySem.W.mg_none_of X G z_tuple, PySem.W.mg_none_of X G z_len, PySem.W.mg_none_of X G z_all, PySem.W.mg_none_of X G z_range, PySem.W.mg_none_of X G z_int, PySem.W.mg_none_of X G z_reversed, PySem.W.mg_none_of X G z_sum, ⟨_, PySem.W.mg_of X G g_ALL⟩, ⟨_, PySem.W.mg_of X G g_DOWN⟩⟩
  obtain ⟨fdname, Aname⟩ := aK (ps := ["thing"]) X G aname lname cname kname λ _ _ _ _ _ _ us hl => (by obtain ⟨_, rfl⟩ := us1 hl; rfl)
  obtain ⟨fdplain, Aplain⟩ := aK (ps := ["text"]) X G aplain lplain cplain kplain λ _ _ _ _ _ _ us hl => (by obtain ⟨_, rfl⟩ := us1 hl; rfl)
  obtain ⟨fdcname, Acname⟩ := aK (ps := ["thing", "ahead"]) X G acname lcname ccname kcname λ _ _ _ _ _ _ us hl => (by obtain ⟨_, _, rfl⟩ := us2 hl; rfl)
  obtain ⟨fdcabove, Acabove⟩ := aK (ps := ["thing", "ahead"]) X G acabove lcabove ccabove kcabove λ _ _ _ _ _ _ us hl => (by obtain ⟨_, _, rfl⟩ := us2 hl; rfl)
  obtain ⟨fdccols, Accols⟩ := aK (ps := ["columns"]) X G accols lccols cccols kccols λ _ _ _ _ _ _ us hl => (by obtain ⟨_, rfl⟩ := us1 hl; rfl)
  obtain ⟨fdcparts, Acparts⟩ := aK (ps := ["parts"]) X G acparts lcparts ccparts kcparts λ _ _ _ _ _ _ us hl => (by obtain ⟨_, rfl⟩ := us1 hl; rfl)
  obtain ⟨fdturned, Aturned⟩ := aK (ps := ["above_of"]) X G aturned lturned cturned kturned λ _ _ _ _ _ _ us hl => (by obtain ⟨_, rfl⟩ := us1 hl; rfl)
  have Finit := fe (st := eF) linit cinit kinit
  have binit := Finit.binds (ps := ["self", "parts", "columns"]) λ _ _ _ _ _ _ us hl => (by obtain ⟨_, _, _, rfl⟩ := us3 hl; rfl)
  have Fmparts := fe (st := bS) lmparts cmparts kmparts
  have bmparts := Fmparts.binds (ps := ["self"]) λ _ _ _ _ _ _ us hl => (by obtain ⟨_, rfl⟩ := us1 hl; rfl)
  have Fmcols := fe (st := cU) lmcols cmcols kmcols
  have bmcols := Fmcols.binds (ps := ["self"]) λ _ _ _ _ _ _ us hl => (by obtain ⟨_, rfl⟩ := us1 hl; rfl)
  have Fmben := fe (st := eG) lmben cmben kmben
  have bmben := Fmben.binds (ps := ["self", "part"]) λ _ _ _ _ _ _ us hl => (by obtain ⟨_, _, rfl⟩ := us2 hl; rfl)
  obtain ⟨fdpaired, Apaired⟩ := aK (ps := ["parts", "columns"]) X G apaired lpaired cpaired kpaired λ _ _ _ _ _ _ us hl => (by obtain ⟨_, _, rfl⟩ := us2 hl; rfl)
  have Fmplaces := fe (st := bv) lmplaces cmplaces kmplaces
  have bmplaces := Fmplaces.binds (ps := ["self"]) λ _ _ _ _ _ _ us hl => (by obtain ⟨_, rfl⟩ := us1 hl; rfl)
  obtain ⟨fdwhole, Awhole⟩ := aK (ps := ["house", "one"]) X G awhole lwhole cwhole kwhole λ _ _ _ _ _ _ us hl => (by obtain ⟨_, _, rfl⟩ := us2 hl; rfl)
  obtain ⟨fdothers, Aothers⟩ := aK (ps := ["house", "one"]) X G aothers lothers cothers kothers λ _ _ _ _ _ _ us hl => (by obtain ⟨_, _, rfl⟩ := us2 hl; rfl)
  obtain ⟨fdsign, Asign⟩ := aK (ps := ["one"]) X G asign lsign csign ksign λ _ _ _ _ _ _ us hl => (by obtain ⟨_, rfl⟩ := us1 hl; rfl)
  obtain ⟨fdgiven, Agiven⟩ := aK (ps := ["house", "one"]) X G agiven lgiven cgiven kgiven λ _ _ _ _ _ _ us hl => (by obtain ⟨_, _, rfl⟩ := us2 hl; rfl)
  obtain ⟨fdadded, Aadded⟩ := aK (ps := ["house", "sums"]) X G aadded ladded cadded kadded λ _ _ _ _ _ _ us hl => (by obtain ⟨_, _, rfl⟩ := us2 hl; rfl)
  obtain ⟨fdcell, Acell⟩ := aK (ps := ["_law_script", "_law_k"]) X G acell lcell ccell kcell λ _ _ _ _ _ _ us hl => (by obtain ⟨_, _, rfl⟩ := us2 hl; rfl)
  obtain ⟨fdlnames, Alnames⟩ := aK (ps := ["_law_cell", "_law_many"]) X G alnames llnames clnames klnames λ _ _ _ _ _ _ us hl => (by obtain ⟨_, _, rfl⟩ := us2 hl; rfl)
  obtain ⟨fdlparts, Alparts⟩ := aK (ps := ["_law_script"]) X G alparts llparts clparts klparts λ _ _ _ _ _ _ us hl => (by obtain ⟨_, rfl⟩ := us1 hl; rfl)
  obtain ⟨fdlcols, Alcols⟩ := aK (ps := ["_law_script"]) X G alcols llcols clcols klcols λ _ _ _ _ _ _ us hl => (by obtain ⟨_, rfl⟩ := us1 hl; rfl)
  obtain ⟨fdlrows, Alrows⟩ := aK (ps := ["_law_parts_here"]) X G alrows llrows clrows klrows λ _ _ _ _ _ _ us hl => (by obtain ⟨_, rfl⟩ := us1 hl; rfl)
  obtain ⟨fdlplaces, Alplaces⟩ := aK (ps := ["_law_parts_here", "_law_columns_here"]) X G alplaces llplaces clplaces klplaces λ _ _ _ _ _ _ us hl => (by obtain ⟨_, _, rfl⟩ := us2 hl; rfl)
  obtain ⟨fdlsums, Alsums⟩ := aK (ps := ["_law_parts_here", "_law_columns_here"]) X G alsums llsums clsums klsums λ _ _ _ _ _ _ us hl => (by obtain ⟨_, _, rfl⟩ := us2 hl; rfl)
  obtain ⟨fdlgives, Algives⟩ := aK (ps := ["_law_parts_here", "_law_columns_here", "_law_one"]) X G algives llgives clgives klgives λ _ _ _ _ _ _ us hl => (by obtain ⟨_, _, _, rfl⟩ := us3 hl; rfl)
  obtain ⟨fdlcounted, Alcounted⟩ := aK (ps := ["_law_script", "_law_at", "_law_many"]) X G alcounted llcounted clcounted klcounted λ _ _ _ _ _ _ us hl => (by obtain ⟨_, _, _, rfl⟩ := us3 hl; rfl)
  obtain ⟨fdlfilled, Alfilled⟩ := aK (ps := ["_law_parts_here", "_law_columns_here", "_law_counts"]) X G alfilled llfilled clfilled klfilled λ _ _ _ _ _ _ us hl => (by obtain ⟨_, _, _, rfl⟩ := us3 hl; rfl)
  obtain ⟨fdshown, Ashown⟩ := aK (ps := ["house", "numbers", "place", "sums", "likeness"]) X G ashown lshown cshown kshown λ _ _ _ _ _ _ us hl => (by obtain ⟨_, _, _, _, _, rfl⟩ := us5 hl; rfl)
  obtain ⟨fdatmost, Aatmost⟩ := aK (ps := ["house", "numbers", "place", "sums"]) X G aatmost latmost catmost katmost λ _ _ _ _ _ _ us hl => (by obtain ⟨_, _, _, _, rfl⟩ := us4 hl; rfl)
  obtain ⟨fdatleast, Aatleast⟩ := aK (ps := ["house", "numbers", "place", "sums"]) X G aatleast latleast catleast katleast λ _ _ _ _ _ _ us hl => (by obtain ⟨_, _, _, _, rfl⟩ := us4 hl; rfl)
  obtain ⟨fdlends, Alends⟩ := aK (ps := ["_law_parts_here", "_law_columns_here"]) X G alends llends clends klends λ _ _ _ _ _ _ us hl => (by obtain ⟨_, _, rfl⟩ := us2 hl; rfl)
  obtain ⟨fdlknown, Alknown⟩ := aK (ps := ["_law_script", "_law_places_here", "_law_at"]) X G alknown llknown clknown klknown λ _ _ _ _ _ _ us hl => (by obtain ⟨_, _, _, rfl⟩ := us3 hl; rfl)
  obtain ⟨fdlchain, Alchain⟩ := aK (ps := ["_law_script", "_law_sums_here", "_law_ends_here", "_law_known_here", "_law_at"]) X G alchain llchain clchain klchain λ _ _ _ _ _ _ us hl => (by obtain ⟨_, _, _, _, _, rfl⟩ := us5 hl; rfl)
  obtain ⟨fdlother, Alother⟩ := aK (ps := ["_law_script", "_law_parts_here", "_law_columns_here", "_law_counts"]) X G alother llother clother klother λ _ _ _ _ _ _ us hl => (by obtain ⟨_, _, _, _, rfl⟩ := us4 hl; rfl)
  obtain ⟨fdltrue, Altrue⟩ := aK (ps := ["_law_house", "_law_numbers", "_law_tables", "_law_place", "_law_chain_here"]) X G altrue lltrue cltrue kltrue λ _ _ _ _ _ _ us hl => (by obtain ⟨_, _, _, _, _, rfl⟩ := us5 hl; rfl)
  have F0 := fe (st := eI) llaw claw klaw
  refine ⟨PySem.W.fnOf "law" "law" (ae eI) (a7 eI) (a0 eI) .none kVlaw dclaw pmlaw anlaw cdlaw ctlaw, λ s v => .of_eq rfl, λ base _ _ => ?_⟩
  have hname := ok_name (P := l.prog) (w := w) (base := base) Aname T
  have hplain := ok_plain (P := l.prog) (w := w) (base := base) Aplain T
  have hcname := ok_cname (P := l.prog) (w := w) (base := base) Acname T hname hplain
  have hcabove := qG (P := l.prog) (w := w) (base := base) Acabove T hplain
  have hccols := ok_ccols (P := l.prog) (w := w) (base := base) Accols T hcname
  have hcparts := qH (P := l.prog) (w := w) (base := base) Acparts T hcname hcabove
  have hturned := qI (P := l.prog) (w := w) (base := base) Aturned T
  have hinit := ok_init (P := l.prog) (w := w) (base := base) ⟨mk, ainit, iinit, kc⟩ Finit binit T hcparts hccols hturned
  have hmparts := qJ (P := l.prog) (w := w) (base := base) ⟨amparts, imparts, kmparts⟩ Fmparts bmparts T
  have hmcols := ok_mcols (P := l.prog) (w := w) (base := base) ⟨amcols, imcols, kmcols⟩ Fmcols bmcols T
  have hmben := ok_mben (P := l.prog) (w := w) (base := base) ⟨amben, imben, kmben⟩ Fmben bmben T
  have hpaired := qK (P := l.prog) (w := w) (base := base) Apaired T
  have hmplaces := nj (P := l.prog) (w := w) (base := base) ⟨amplaces, implaces, kmplaces⟩ Fmplaces bmplaces T hpaired hmparts
  have hwhole := ok_whole (P := l.prog) (w := w) (base := base) Awhole T
  have hothers := qM (P := l.prog) (w := w) (base := base) Aothers T hmben hmcols
  have hsign := ok_sign (P := l.prog) (w := w) (base := base) Asign T
  have hgiven := ok_given (P := l.prog) (w := w) (base := base) Agiven T hsign hwhole hothers
  have hadded := ok_added (P := l.prog) (w := w) (base := base) Aadded T hgiven hmplaces
  have hcell := ok_cell (P := l.prog) (w := w) (base := base) Acell T
  have hlnames := qN (P := l.prog) (w := w) (base := base) Alnames T
  have hlparts := qO (P := l.prog) (w := w) (base := base) Alparts T hcell hlnames
  have hlcols := ok_lcols (P := l.prog) (w := w) (base := base) Alcols T hcell hlnames
  have hlrows := ok_lrows (P := l.prog) (w := w) (base := base) Alrows T
  have hlplaces := nq (P := l.prog) (w := w) (base := base) Alplaces T
  have hlsums := ok_lsums (P := l.prog) (w := w) (base := base) Alsums T hlrows
  have hlgives := qQ (P := l.prog) (w := w) (base := base) Algives T
  have hlcounted := m3 (P := l.prog) (w := w) (base := base) Alcounted T hcell
  have hlfilled := nv (P := l.prog) (w := w) (base := base) Alfilled T hlplaces hlrows
  have hshown := ok_shown (P := l.prog) (w := w) (base := base) Ashown T hadded
  have hatmost := qS (P := l.prog) (w := w) (base := base) Aatmost T hshown
  have hatleast := nw (P := l.prog) (w := w) (base := base) Aatleast T hshown
  have hlends := ok_lends (P := l.prog) (w := w) (base := base) Alends T hlplaces hlsums hlgives
  have hlknown := qU (P := l.prog) (w := w) (base := base) Alknown T hcell
  have hlchain := qV (P := l.prog) (w := w) (base := base) Alchain T hcell
  have hlother := qW (P := l.prog) (w := w) (base := base) Alother T hcell hlfilled
  have hltrue := ok_ltrue (P := l.prog) (w := w) (base := base) Altrue T hatmost hatleast
  exact ok_law F0 T hlparts hlcols hinit hlplaces hlsums hlends hlcounted hlrows hlfilled hlother hlknown hcell hlchain hltrue
theorem walkW {l : PySem.W.OpenLaw} {n k : Nat} {q : Program} {loose : List Str} {XP : (Str -> Option Value) -> Heap -> Prop} {YP : World -> Heap -> Prop} {d : DefRec} {K : World -> PySem.W.Frag} {CX : World -> CXT} {sp : World -> Sp} {x : Str}
    (hn : l.most = some n) (hn2 : n <= sizeLine) (hdf : d.params.defaults = []) (hr : Room k callerA) (hY : ∀ (w : World) (h : Heap), YP w h -> (K w).In h)
    (F : ∀ (w : World) (mg : Str -> Option Value) (fa : Addr) (h : Heap), (K w).In h -> h.Ns mainGlobals mg -> mg d.name = some (.ref fa) -> ∃ fd : FuncData, (∀ (s : Shared) (u : Value), BindsTo s fd ⟨[u], []⟩ [(x, u)]) /\ ∀ base : Heap, (K w).In base -> base.Ns mainGlobals mg -> FnOk l.prog w (K w) mg base (CX w) k fa fd [x] (sp w))
    (hsp : ∀ (w : World) (H : Hp) (a : Addr) (ns : List Int), ns.length <= n -> Only H -> SqL (K w) H a (ns.map V.int) -> sp w [.ref a] H (λ v _ => v = .bl true) λ _ _ _ => False)
    (hCX : ∀ (w : World) (H : Hp) (s : Shared) (e : Value) (s' : Shared), CX w [] H s (λ _ _ _ => False) e s' -> False) : PySem.W.WalkO q loose XP YP l.row.toRowW d [] (λ f vs => PySem.call f vs) := by
  refine Att.kR hn hdf λ w s₀ s₁ mg mb fa o pm cd doc a vs ns G Y ho hd hcd hmg hobj hints hlen hg => ?_
  have KX := hY w _ Y
  obtain ⟨fd, hb, hF⟩ := F w mg fa _ KX G.T.g hmg
  exact law_call KX G.T.g G.T.b G.T.builtins G.T.nolimit hg hobj hints (Nat.le_trans hlen hn2) hr hF hb (λ H hO hS => hsp w H a ns hlen hO hS) λ H e s' => hCX w H s₁ e s'
theorem walkX {q : Program} {loose : List Str} {XP : (Str -> Option Value) -> Heap -> Prop} {Ya : World -> Shared} {r : PySem.W.RowW} {d : DefRec} {kwd : List (Str × Expr)} {run : Value -> List Value -> Sem Value} {K : World -> PySem.W.Frag}
    (hY : ∀ (w : World), (K w).In (Ya w).heap) (h : PySem.W.WalkO q loose XP (λ w h => (K w).In h) r d kwd run) : PySem.W.WalkX q loose XP (λ s => s) Ya r d kwd run :=
  λ w s₀ s₁ mg mb G y a o pm cd doc dV kV h1 h2 h3 h4 h5 h6 args vals as L => h w s₀ s₁ mg mb G (PySem.W.Frag.In.keeps (by rw [show s₀ = Ya w from y]; exact hY w) L.keeps) a o pm cd doc dV kV h1 h2 h3 h4 h5 h6 args vals as
abbrev pw : Program := PySem.Challenge.pw_tallyveil_k52_whole_shown_is_true
abbrev lw : PySem.W.OpenLaw := PySem.Challenge.rw_tallyveil_k52_whole_shown_is_true
def vw : Program := PySem.W.view pw [0, 2, 3, 5, 6, 7, 8, 9, 10, 11, 12, 13, 14, 16, 17, 18, 19, 20, 21, 23, 24, 25, 27, 28, 29, 30, 31, 32, 33, 34, 35, 36, 37, 38, 39, 40, 41, 42]
def xt (s : Shared) : Bool := PySem.W.xlAt vw [] s && PySem.W.recOk (PySem.W.RowW.records lw.row.toRowW) s
theorem seen1 (w : World) : (PySem.W.openEnds treeTable pw w 12000).map (λ s => (PySem.W.openSeen vw [] (importedModules pw.main.body) xt true s, ())) = some (PySem.W.openGood vw [], ()) := by
  unfold PySem.W.openEnds PySem.W.topFrom
  rw [PySem.W.Fast.te14082659384304107361, PySem.W.Fast.te4187177175401517315, PySem.W.Fast.te14364793385576792824]
  kernel_rfl
noncomputable def beg (w : World) : Shared := (PySem.W.fencedOpening treeTable pw w 12000).getD {}
noncomputable def fin (w : World) : Shared := (PySem.W.Fast.tw14082659384304107361 PySem.W.Fast.tw14364793385576792824 pw w (beg w).heap.objs.size ((beg w).heap.nsMap mainGlobals "__annotations__") 12000 (beg w) (PySem.W.topStub pw)).getD {}
theorem fin_of {w : World} {s : Shared} (h : PySem.W.openEnds treeTable pw w 12000 = some s) : s = fin w := by
  unfold PySem.W.openEnds at h
  obtain ⟨a, ha, hb⟩ := Option.bind_eq_some_iff.mp h
  have eb : beg w = a := by unfold beg; rw [ha]; rfl
  unfold PySem.W.topFrom at hb
  split at hb
  . obtain ⟨b, h1, h2⟩ := Option.bind_eq_some_iff.mp hb
    split at h2
    . cases h2
      rw [PySem.W.Fast.te14082659384304107361, PySem.W.Fast.te14364793385576792824] at h1
      unfold fin
      rw [eb, h1]
      rfl
    . cases h2
  . cases hb
theorem left : PySem.W.LeftO pw vw [] xt (λ s => s) fin 12000 := λ w => by
  have h := seen1 w
  obtain ⟨s, hs, e⟩ := Option.map_eq_some_iff.mp h
  rw [hs]
  show some (PySem.W.openSeen vw [] (importedModules pw.main.body) xt true s, s) = some (PySem.W.openGood vw [], fin w)
  rw [show PySem.W.openSeen vw [] (importedModules pw.main.body) xt true s = PySem.W.openGood vw [] from congrArg Prod.fst e, <- fin_of hs]
noncomputable def K (w : World) : PySem.W.Frag := (List.range 600).filterMap λ a => ((fin w).heap.get? a).map λ o => (a, o)
theorem k_in (w : World) : (K w).In (fin w).heap := λ a o e => by
  unfold K at e
  generalize List.range 600 = l at e
  induction l with
  | nil => cases e
  | cons x r ih =>
    rw [List.filterMap_cons] at e
    cases hx : (fin w).heap.get? x with
    | none => rw [hx] at e; exact ih e
    | some y =>
      rw [hx] at e
      have e : List.lookup a ((x, y) :: r.filterMap λ a => ((fin w).heap.get? a).map λ o => (a, o)) = some o := e
      rw [List.lookup_cons] at e
      by_cases q : a = x
      . subst q
        rw [beq_self_eq_true] at e
        have e : some y = some o := e
        rw [hx, e]
      . have q : (a == x) = false := beq_eq_false_iff_ne.mpr q
        rw [q] at e
        exact ih e
def xA (K : PySem.W.Frag) (x : Str) : Addr := match PySem.W.nsIn K mainGlobals x with
  | some (some (.ref a)) => a
  | _ => 0
def xM (K : PySem.W.Frag) (x : Str) : Addr := match PySem.W.findIn K (.ref (xA K "House")) x with
  | some (some (.ref a)) => a
  | _ => 0
def xT (K : PySem.W.Frag) (x : Str) : Tok := match PySem.W.nsIn K mainGlobals x with
  | some (some (.str _ t)) => t
  | some (some (.int _ t)) => t
  | _ => 0
def xO (K : PySem.W.Frag) (a : Addr) : Obj := (K.lookup a).getD { cls := .none }
def xF (K : PySem.W.Frag) (a : Addr) : FuncData := match (xO K a).data with
  | .func f => f
  | _ => default
theorem use {l : PySem.W.OpenLaw} {w : World} {h : Heap} {mg : Str -> Option Value} {fa : Addr} (X : (K w).In h) (G : h.Ns mainGlobals mg) (hfa : mg "law" = some (.ref fa)) : ∃ fd : FuncData, (∀ (s : Shared) (v : Value), BindsTo s fd ⟨[v], []⟩ [("_law_script", v)]) /\ ∀ base : Heap, (K w).In base -> base.Ns mainGlobals mg -> FnOk l.prog w (K w) mg base CX0 16 fa fd ["_law_script"] (o3 (K w)) :=
  all_mk (l := l) (w := w) (K := K w) (C := xA (K w) "House") (fname := xA (K w) "is_name") (ocname := (xO (K w) (xA (K w) "is_name")).cls) (odname := (xO (K w) (xA (K w) "is_name")).dict) (anname := (xF (K w) (xA (K w) "is_name")).annotations) (slname := (xO (K w) (xA (K w) "is_name")).slots) (kVname := (xF (K w) (xA (K w) "is_name")).kwdefaults) (dcname := (xF (K w) (xA (K w) "is_name")).doc) (pmname := (xF (K w) (xA (K w) "is_name")).pyModule) (cdname := (xF (K w) (xA (K w) "is_name")).code) (ctname := (xF (K w) (xA (K w) "is_name")).closureTuple) (fplain := xA (K w) "plain_text") (ocplain := (xO (K w) (xA (K w) "plain_text")).cls) (odplain := (xO (K w) (xA (K w) "plain_text")).dict) (anplain := (xF (K w) (xA (K w) "plain_text")).annotations) (slplain := (xO (K w) (xA (K w) "plain_text")).slots) (kVplain := (xF (K w) (xA (K w) "plain_text")).kwdefaults) (dcplain := (xF (K w) (xA (K w) "plain_text")).doc) (pmplain := (xF (K w) (xA (K w) "plain_text")).pyModule) (cdplain := (xF (K w) (xA (K w) "plain_text")).code) (ctplain := (xF (K w) (xA (K w) "plain_text")).closureTuple) (fcname := xA (K w) "checked_name") (occname := (xO (K w) (xA (K w) "checked_name")).cls) (odcname := (xO (K w) (xA (K w) "checked_name")).dict) (ancname := (xF (K w) (xA (K w) "checked_name")).annotations) (slcname := (xO (K w) (xA (K w) "checked_name")).slots) (kVcname := (xF (K w) (xA (K w) "checked_name")).kwdefaults) (dccname := (xF (K w) (xA (K w) "checked_name")).doc) (pmcname := (xF (K w) (xA (K w) "checked_name")).pyModule) (cdcname := (xF (K w) (xA (K w) "checked_name")).code) (ctcname := (xF (K w) (xA (K w) "checked_name")).closureTuple) (fcabove := xA (K w) "checked_above") (occabove := (xO (K w) (xA (K w) "checked_above")).cls) (odcabove := (xO (K w) (xA (K w) "checked_above")).dict) (ancabove := (xF (K w) (xA (K w) "checked_above")).annotations) (slcabove := (xO (K w) (xA (K w) "checked_above")).slots) (kVcabove := (xF (K w) (xA (K w) "checked_above")).kwdefaults) (dccabove := (xF (K w) (xA (K w) "checked_above")).doc) (pmcabove := (xF (K w) (xA (K w) "checked_above")).pyModule) (cdcabove := (xF (K w) (xA (K w) "checked_above")).code) (ctcabove := (xF (K w) (xA (K w) "checked_above")).closureTuple) (fccols := xA (K w) "checked_columns") (occcols := (xO (K w) (xA (K w) "checked_columns")).cls) (odccols := (xO (K w) (xA (K w) "checked_columns")).dict) (anccols := (xF (K w) (xA (K w) "checked_columns")).annotations) (slccols := (xO (K w) (xA (K w) "checked_columns")).slots) (kVccols := (xF (K w) (xA (K w) "checked_columns")).kwdefaults) (dcccols := (xF (K w) (xA (K w) "checked_columns")).doc) (pmccols := (xF (K w) (xA (K w) "checked_columns")).pyModule) (cdccols := (xF (K w) (xA (K w) "checked_columns")).code) (ctccols := (xF (K w) (xA (K w) "checked_columns")).closureTuple) (fcparts := xA (K w) "checked_parts") (occparts := (xO (K w) (xA (K w) "checked_parts")).cls) (odcparts := (xO (K w) (xA (K w) "checked_parts")).dict) (ancparts := (xF (K w) (xA (K w) "checked_parts")).annotations) (slcparts := (xO (K w) (xA (K w) "checked_parts")).slots) (kVcparts := (xF (K w) (xA (K w) "checked_parts")).kwdefaults) (dccparts := (xF (K w) (xA (K w) "checked_parts")).doc) (pmcparts := (xF (K w) (xA (K w) "checked_parts")).pyModule) (cdcparts := (xF (K w) (xA (K w) "checked_parts")).code) (ctcparts := (xF (K w) (xA (K w) "checked_parts")).closureTuple) (fturned := xA (K w) "turned_about") (octurned := (xO (K w) (xA (K w) "turned_about")).cls) (odturned := (xO (K w) (xA (K w) "turned_about")).dict) (anturned := (xF (K w) (xA (K w) "turned_about")).annotations) (slturned := (xO (K w) (xA (K w) "turned_about")).slots) (kVturned := (xF (K w) (xA (K w) "turned_about")).kwdefaults) (dcturned := (xF (K w) (xA (K w) "turned_about")).doc) (pmturned := (xF (K w) (xA (K w) "turned_about")).pyModule) (cdturned := (xF (K w) (xA (K w) "turned_about")).code) (ctturned := (xF (K w) (xA (K w) "turned_about")).closureTuple) (finit := xM (K w) "__init__") (ocinit := (xO (K w) (xM (K w) "__init__")).cls) (odinit := (xO (K w) (xM (K w) "__init__")).dict) (aninit := (xF (K w) (xM (K w) "__init__")).annotations) (slinit := (xO (K w) (xM (K w) "__init__")).slots) (kVinit := (xF (K w) (xM (K w) "__init__")).kwdefaults) (dcinit := (xF (K w) (xM (K w) "__init__")).doc) (pminit := (xF (K w) (xM (K w) "__init__")).pyModule) (cdinit := (xF (K w) (xM (K w) "__init__")).code) (ctinit := (xF (K w) (xM (K w) "__init__")).closureTuple) (fmparts := xM (K w) "parts") (ocmparts := (xO (K w) (xM (K w) "parts")).cls) (odmparts := (xO (K w) (xM (K w) "parts")).dict) (anmparts := (xF (K w) (xM (K w) "parts")).annotations) (slmparts := (xO (K w) (xM (K w) "parts")).slots) (kVmparts := (xF (K w) (xM (K w) "parts")).kwdefaults) (dcmparts := (xF (K w) (xM (K w) "parts")).doc) (pmmparts := (xF (K w) (xM (K w) "parts")).pyModule) (cdmparts := (xF (K w) (xM (K w) "parts")).code) (ctmparts := (xF (K w) (xM (K w) "parts")).closureTuple) (fmcols := xM (K w) "columns") (ocmcols := (xO (K w) (xM (K w) "columns")).cls) (odmcols := (xO (K w) (xM (K w) "columns")).dict) (anmcols := (xF (K w) (xM (K w) "columns")).annotations) (slmcols := (xO (K w) (xM (K w) "columns")).slots) (kVmcols := (xF (K w) (xM (K w) "columns")).kwdefaults) (dcmcols := (xF (K w) (xM (K w) "columns")).doc) (pmmcols := (xF (K w) (xM (K w) "columns")).pyModule) (cdmcols := (xF (K w) (xM (K w) "columns")).code) (ctmcols := (xF (K w) (xM (K w) "columns")).closureTuple) (fmben := xM (K w) "beneath") (ocmben := (xO (K w) (xM (K w) "beneath")).cls) (odmben := (xO (K w) (xM (K w) "beneath")).dict) (anmben := (xF (K w) (xM (K w) "beneath")).annotations) (slmben := (xO (K w) (xM (K w) "beneath")).slots) (kVmben := (xF (K w) (xM (K w) "beneath")).kwdefaults) (dcmben := (xF (K w) (xM (K w) "beneath")).doc) (pmmben := (xF (K w) (xM (K w) "beneath")).pyModule) (cdmben := (xF (K w) (xM (K w) "beneath")).code) (ctmben := (xF (K w) (xM (K w) "beneath")).closureTuple) (fpaired := xA (K w) "paired") (ocpaired := (xO (K w) (xA (K w) "paired")).cls) (odpaired := (xO (K w) (xA (K w) "paired")).dict) (anpaired := (xF (K w) (xA (K w) "paired")).annotations) (slpaired := (xO (K w) (xA (K w) "paired")).slots) (kVpaired := (xF (K w) (xA (K w) "paired")).kwdefaults) (dcpaired := (xF (K w) (xA (K w) "paired")).doc) (pmpaired := (xF (K w) (xA (K w) "paired")).pyModule) (cdpaired := (xF (K w) (xA (K w) "paired")).code) (ctpaired := (xF (K w) (xA (K w) "paired")).closureTuple) (fmplaces := xM (K w) "places") (ocmplaces := (xO (K w) (xM (K w) "places")).cls) (odmplaces := (xO (K w) (xM (K w) "places")).dict) (anmplaces := (xF (K w) (xM (K w) "places")).annotations) (slmplaces := (xO (K w) (xM (K w) "places")).slots) (kVmplaces := (xF (K w) (xM (K w) "places")).kwdefaults) (dcmplaces := (xF (K w) (xM (K w) "places")).doc) (pmmplaces := (xF (K w) (xM (K w) "places")).pyModule) (cdmplaces := (xF (K w) (xM (K w) "places")).code) (ctmplaces := (xF (K w) (xM (K w) "places")).closureTuple) (fwhole := xA (K w) "whole_of") (ocwhole := (xO (K w) (xA (K w) "whole_of")).cls) (odwhole := (xO (K w) (xA (K w) "whole_of")).dict) (anwhole := (xF (K w) (xA (K w) "whole_of")).annotations) (slwhole := (xO (K w) (xA (K w) "whole_of")).slots) (kVwhole := (xF (K w) (xA (K w) "whole_of")).kwdefaults) (dcwhole := (xF (K w) (xA (K w) "whole_of")).doc) (pmwhole := (xF (K w) (xA (K w) "whole_of")).pyModule) (cdwhole := (xF (K w) (xA (K w) "whole_of")).code) (ctwhole := (xF (K w) (xA (K w) "whole_of")).closureTuple) (fothers := xA (K w) "others_of") (ocothers := (xO (K w) (xA (K w) "others_of")).cls) (odothers := (xO (K w) (xA (K w) "others_of")).dict) (anothers := (xF (K w) (xA (K w) "others_of")).annotations) (slothers := (xO (K w) (xA (K w) "others_of")).slots) (kVothers := (xF (K w) (xA (K w) "others_of")).kwdefaults) (dcothers := (xF (K w) (xA (K w) "others_of")).doc) (pmothers := (xF (K w) (xA (K w) "others_of")).pyModule) (cdothers := (xF (K w) (xA (K w) "others_of")).code) (ctothers := (xF (K w) (xA (K w) "others_of")).closureTuple) (fsign := xA (K w) "sign_of") (ocsign := (xO (K w) (xA (K w) "sign_of")).cls) (odsign := (xO (K w) (xA (K w) "sign_of")).dict) (ansign := (xF (K w) (xA (K w) "sign_of")).annotations) (slsign := (xO (K w) (xA (K w) "sign_of")).slots) (kVsign := (xF (K w) (xA (K w) "sign_of")).kwdefaults) (dcsign := (xF (K w) (xA (K w) "sign_of")).doc) (pmsign := (xF (K w) (xA (K w) "sign_of")).pyModule) (cdsign := (xF (K w) (xA (K w) "sign_of")).code) (ctsign := (xF (K w) (xA (K w) "sign_of")).closureTuple) (fgiven := xA (K w) "given_by") (ocgiven := (xO (K w) (xA (K w) "given_by")).cls) (odgiven := (xO (K w) (xA (K w) "given_by")).dict) (angiven := (xF (K w) (xA (K w) "given_by")).annotations) (slgiven := (xO (K w) (xA (K w) "given_by")).slots) (kVgiven := (xF (K w) (xA (K w) "given_by")).kwdefaults) (dcgiven := (xF (K w) (xA (K w) "given_by")).doc) (pmgiven := (xF (K w) (xA (K w) "given_by")).pyModule) (cdgiven := (xF (K w) (xA (K w) "given_by")).code) (ctgiven := (xF (K w) (xA (K w) "given_by")).closureTuple) (fadded := xA (K w) "added") (ocadded := (xO (K w) (xA (K w) "added")).cls) (odadded := (xO (K w) (xA (K w) "added")).dict) (anadded := (xF (K w) (xA (K w) "added")).annotations) (sladded := (xO (K w) (xA (K w) "added")).slots) (kVadded := (xF (K w) (xA (K w) "added")).kwdefaults) (dcadded := (xF (K w) (xA (K w) "added")).doc) (pmadded := (xF (K w) (xA (K w) "added")).pyModule) (cdadded := (xF (K w) (xA (K w) "added")).code) (ctadded := (xF (K w) (xA (K w) "added")).closureTuple) (fcell := xA (K w) "_law_cell_at") (occell := (xO (K w) (xA (K w) "_law_cell_at")).cls) (odcell := (xO (K w) (xA (K w) "_law_cell_at")).dict) (ancell := (xF (K w) (xA (K w) "_law_cell_at")).annotations) (slcell := (xO (K w) (xA (K w) "_law_cell_at")).slots) (kVcell := (xF (K w) (xA (K w) "_law_cell_at")).kwdefaults) (dccell := (xF (K w) (xA (K w) "_law_cell_at")).doc) (pmcell := (xF (K w) (xA (K w) "_law_cell_at")).pyModule) (cdcell := (xF (K w) (xA (K w) "_law_cell_at")).code) (ctcell := (xF (K w) (xA (K w) "_law_cell_at")).closureTuple) (flnames := xA (K w) "_law_names") (oclnames := (xO (K w) (xA (K w) "_law_names")).cls) (odlnames := (xO (K w) (xA (K w) "_law_names")).dict) (anlnames := (xF (K w) (xA (K w) "_law_names")).annotations) (sllnames := (xO (K w) (xA (K w) "_law_names")).slots) (kVlnames := (xF (K w) (xA (K w) "_law_names")).kwdefaults) (dclnames := (xF (K w) (xA (K w) "_law_names")).doc) (pmlnames := (xF (K w) (xA (K w) "_law_names")).pyModule) (cdlnames := (xF (K w) (xA (K w) "_law_names")).code) (ctlnames := (xF (K w) (xA (K w) "_law_names")).closureTuple) (flparts := xA (K w) "_law_parts") (oclparts := (xO (K w) (xA (K w) "_law_parts")).cls) (odlparts := (xO (K w) (xA (K w) "_law_parts")).dict) (anlparts := (xF (K w) (xA (K w) "_law_parts")).annotations) (sllparts := (xO (K w) (xA (K w) "_law_parts")).slots) (kVlparts := (xF (K w) (xA (K w) "_law_parts")).kwdefaults) (dclparts := (xF (K w) (xA (K w) "_law_parts")).doc) (pmlparts := (xF (K w) (xA (K w) "_law_parts")).pyModule) (cdlparts := (xF (K w) (xA (K w) "_law_parts")).code) (ctlparts := (xF (K w) (xA (K w) "_law_parts")).closureTuple) (flcols := xA (K w) "_law_columns") (oclcols := (xO (K w) (xA (K w) "_law_columns")).cls) (odlcols := (xO (K w) (xA (K w) "_law_columns")).dict) (anlcols := (xF (K w) (xA (K w) "_law_columns")).annotations) (sllcols := (xO (K w) (xA (K w) "_law_columns")).slots) (kVlcols := (xF (K w) (xA (K w) "_law_columns")).kwdefaults) (dclcols := (xF (K w) (xA (K w) "_law_columns")).doc) (pmlcols := (xF (K w) (xA (K w) "_law_columns")).pyModule) (cdlcols := (xF (K w) (xA (K w) "_law_columns")).code) (ctlcols := (xF (K w) (xA (K w) "_law_columns")).closureTuple) (flrows := xA (K w) "_law_rows") (oclrows := (xO (K w) (xA (K w) "_law_rows")).cls) (odlrows := (xO (K w) (xA (K w) "_law_rows")).dict) (anlrows := (xF (K w) (xA (K w) "_law_rows")).annotations) (sllrows := (xO (K w) (xA (K w) "_law_rows")).slots) (kVlrows := (xF (K w) (xA (K w) "_law_rows")).kwdefaults) (dclrows := (xF (K w) (xA (K w) "_law_rows")).doc) (pmlrows := (xF (K w) (xA (K w) "_law_rows")).pyModule) (cdlrows := (xF (K w) (xA (K w) "_law_rows")).code) (ctlrows := (xF (K w) (xA (K w) "_law_rows")).closureTuple) (flplaces := xA (K w) "_law_places") (oclplaces := (xO (K w) (xA (K w) "_law_places")).cls) (odlplaces := (xO (K w) (xA (K w) "_law_places")).dict) (anlplaces := (xF (K w) (xA (K w) "_law_places")).annotations) (sllplaces := (xO (K w) (xA (K w) "_law_places")).slots) (kVlplaces := (xF (K w) (xA (K w) "_law_places")).kwdefaults) (dclplaces := (xF (K w) (xA (K w) "_law_places")).doc) (pmlplaces := (xF (K w) (xA (K w) "_law_places")).pyModule) (cdlplaces := (xF (K w) (xA (K w) "_law_places")).code) (ctlplaces := (xF (K w) (xA (K w) "_law_places")).closureTuple) (flsums := xA (K w) "_law_sums") (oclsums := (xO (K w) (xA (K w) "_law_sums")).cls) (odlsums := (xO (K w) (xA (K w) "_law_sums")).dict) (anlsums := (xF (K w) (xA (K w) "_law_sums")).annotations) (sllsums := (xO (K w) (xA (K w) "_law_sums")).slots) (kVlsums := (xF (K w) (xA (K w) "_law_sums")).kwdefaults) (dclsums := (xF (K w) (xA (K w) "_law_sums")).doc) (pmlsums := (xF (K w) (xA (K w) "_law_sums")).pyModule) (cdlsums := (xF (K w) (xA (K w) "_law_sums")).code) (ctlsums := (xF (K w) (xA (K w) "_law_sums")).closureTuple) (flgives := xA (K w) "_law_gives") (oclgives := (xO (K w) (xA (K w) "_law_gives")).cls) (odlgives := (xO (K w) (xA (K w) "_law_gives")).dict) (anlgives := (xF (K w) (xA (K w) "_law_gives")).annotations) (sllgives := (xO (K w) (xA (K w) "_law_gives")).slots) (kVlgives := (xF (K w) (xA (K w) "_law_gives")).kwdefaults) (dclgives := (xF (K w) (xA (K w) "_law_gives")).doc) (pmlgives := (xF (K w) (xA (K w) "_law_gives")).pyModule) (cdlgives := (xF (K w) (xA (K w) "_law_gives")).code) (ctlgives := (xF (K w) (xA (K w) "_law_gives")).closureTuple) (flcounted := xA (K w) "_law_counted") (oclcounted := (xO (K w) (xA (K w) "_law_counted")).cls) (odlcounted := (xO (K w) (xA (K w) "_law_counted")).dict) (anlcounted := (xF (K w) (xA (K w) "_law_counted")).annotations) (sllcounted := (xO (K w) (xA (K w) "_law_counted")).slots) (kVlcounted := (xF (K w) (xA (K w) "_law_counted")).kwdefaults) (dclcounted := (xF (K w) (xA (K w) "_law_counted")).doc) (pmlcounted := (xF (K w) (xA (K w) "_law_counted")).pyModule) (cdlcounted := (xF (K w) (xA (K w) "_law_counted")).code) (ctlcounted := (xF (K w) (xA (K w) "_law_counted")).closureTuple) (flfilled := xA (K w) "_law_filled") (oclfilled := (xO (K w) (xA (K w) "_law_filled")).cls) (odlfilled := (xO (K w) (xA (K w) "_law_filled")).dict) (anlfilled := (xF (K w) (xA (K w) "_law_filled")).annotations) (sllfilled := (xO (K w) (xA (K w) "_law_filled")).slots) (kVlfilled := (xF (K w) (xA (K w) "_law_filled")).kwdefaults) (dclfilled := (xF (K w) (xA (K w) "_law_filled")).doc) (pmlfilled := (xF (K w) (xA (K w) "_law_filled")).pyModule) (cdlfilled := (xF (K w) (xA (K w) "_law_filled")).code) (ctlfilled := (xF (K w) (xA (K w) "_law_filled")).closureTuple) (fshown := xA (K w) "shown") (ocshown := (xO (K w) (xA (K w) "shown")).cls) (odshown := (xO (K w) (xA (K w) "shown")).dict) (anshown := (xF (K w) (xA (K w) "shown")).annotations) (slshown := (xO (K w) (xA (K w) "shown")).slots) (kVshown := (xF (K w) (xA (K w) "shown")).kwdefaults) (dcshown := (xF (K w) (xA (K w) "shown")).doc) (pmshown := (xF (K w) (xA (K w) "shown")).pyModule) (cdshown := (xF (K w) (xA (K w) "shown")).code) (ctshown := (xF (K w) (xA (K w) "shown")).closureTuple) (fatmost := xA (K w) "at_most") (ocatmost := (xO (K w) (xA (K w) "at_most")).cls) (odatmost := (xO (K w) (xA (K w) "at_most")).dict) (anatmost := (xF (K w) (xA (K w) "at_most")).annotations) (slatmost := (xO (K w) (xA (K w) "at_most")).slots) (kVatmost := (xF (K w) (xA (K w) "at_most")).kwdefaults) (dcatmost := (xF (K w) (xA (K w) "at_most")).doc) (pmatmost := (xF (K w) (xA (K w) "at_most")).pyModule) (cdatmost := (xF (K w) (xA (K w) "at_most")).code) (ctatmost := (xF (K w) (xA (K w) "at_most")).closureTuple) (fatleast := xA (K w) "at_least") (ocatleast := (xO (K w) (xA (K w) "at_least")).cls) (odatleast := (xO (K w) (xA (K w) "at_least")).dict) (anatleast := (xF (K w) (xA (K w) "at_least")).annotations) (slatleast := (xO (K w) (xA (K w) "at_least")).slots) (kVatleast := (xF (K w) (xA (K w) "at_least")).kwdefaults) (dcatleast := (xF (K w) (xA (K w) "at_least")).doc) (pmatleast := (xF (K w) (xA (K w) "at_least")).pyModule) (cdatleast := (xF (K w) (xA (K w) "at_least")).code) (ctatleast := (xF (K w) (xA (K w) "at_least")).closureTuple) (flends := xA (K w) "_law_ends") (oclends := (xO (K w) (xA (K w) "_law_ends")).cls) (odlends := (xO (K w) (xA (K w) "_law_ends")).dict) (anlends := (xF (K w) (xA (K w) "_law_ends")).annotations) (sllends := (xO (K w) (xA (K w) "_law_ends")).slots) (kVlends := (xF (K w) (xA (K w) "_law_ends")).kwdefaults) (dclends := (xF (K w) (xA (K w) "_law_ends")).doc) (pmlends := (xF (K w) (xA (K w) "_law_ends")).pyModule) (cdlends := (xF (K w) (xA (K w) "_law_ends")).code) (ctlends := (xF (K w) (xA (K w) "_law_ends")).closureTuple) (flknown := xA (K w) "_law_known") (oclknown := (xO (K w) (xA (K w) "_law_known")).cls) (odlknown := (xO (K w) (xA (K w) "_law_known")).dict) (anlknown := (xF (K w) (xA (K w) "_law_known")).annotations) (sllknown := (xO (K w) (xA (K w) "_law_known")).slots) (kVlknown := (xF (K w) (xA (K w) "_law_known")).kwdefaults) (dclknown := (xF (K w) (xA (K w) "_law_known")).doc) (pmlknown := (xF (K w) (xA (K w) "_law_known")).pyModule) (cdlknown := (xF (K w) (xA (K w) "_law_known")).code) (ctlknown := (xF (K w) (xA (K w) "_law_known")).closureTuple) (flchain := xA (K w) "_law_chain") (oclchain := (xO (K w) (xA (K w) "_law_chain")).cls) (odlchain := (xO (K w) (xA (K w) "_law_chain")).dict) (anlchain := (xF (K w) (xA (K w) "_law_chain")).annotations) (sllchain := (xO (K w) (xA (K w) "_law_chain")).slots) (kVlchain := (xF (K w) (xA (K w) "_law_chain")).kwdefaults) (dclchain := (xF (K w) (xA (K w) "_law_chain")).doc) (pmlchain := (xF (K w) (xA (K w) "_law_chain")).pyModule) (cdlchain := (xF (K w) (xA (K w) "_law_chain")).code) (ctlchain := (xF (K w) (xA (K w) "_law_chain")).closureTuple) (flother := xA (K w) "_law_other") (oclother := (xO (K w) (xA (K w) "_law_other")).cls) (odlother := (xO (K w) (xA (K w) "_law_other")).dict) (anlother := (xF (K w) (xA (K w) "_law_other")).annotations) (sllother := (xO (K w) (xA (K w) "_law_other")).slots) (kVlother := (xF (K w) (xA (K w) "_law_other")).kwdefaults) (dclother := (xF (K w) (xA (K w) "_law_other")).doc) (pmlother := (xF (K w) (xA (K w) "_law_other")).pyModule) (cdlother := (xF (K w) (xA (K w) "_law_other")).code) (ctlother := (xF (K w) (xA (K w) "_law_other")).closureTuple) (fltrue := xA (K w) "_law_true") (ocltrue := (xO (K w) (xA (K w) "_law_true")).cls) (odltrue := (xO (K w) (xA (K w) "_law_true")).dict) (anltrue := (xF (K w) (xA (K w) "_law_true")).annotations) (slltrue := (xO (K w) (xA (K w) "_law_true")).slots) (kVltrue := (xF (K w) (xA (K w) "_law_true")).kwdefaults) (dcltrue := (xF (K w) (xA (K w) "_law_true")).doc) (pmltrue := (xF (K w) (xA (K w) "_law_true")).pyModule) (cdltrue := (xF (K w) (xA (K w) "_law_true")).code) (ctltrue := (xF (K w) (xA (K w) "_law_true")).closureTuple) (flaw := xA (K w) "law") (oclaw := (xO (K w) (xA (K w) "law")).cls) (odlaw := (xO (K w) (xA (K w) "law")).dict) (anlaw := (xF (K w) (xA (K w) "law")).annotations) (sllaw := (xO (K w) (xA (K w) "law")).slots) (kVlaw := (xF (K w) (xA (K w) "law")).kwdefaults) (dclaw := (xF (K w) (xA (K w) "law")).doc) (pmlaw := (xF (K w) (xA (K w) "law")).pyModule) (cdlaw := (xF (K w) (xA (K w) "law")).code) (ctlaw := (xF (K w) (xA (K w) "law")).closureTuple) (t_ALL := xT (K w) "ALL") (t_DOWN := xT (K w) "DOWN") X G hfa
    (by kernel_rfl) (by kernel_rfl) (by kernel_rfl) (by kernel_rfl) (by kernel_rfl) (by kernel_rfl) (by kernel_rfl) (by kernel_rfl) (by kernel_rfl) (by kernel_rfl) (by kernel_rfl) (by kernel_rfl) (by kernel_rfl) (by kernel_rfl) (by kernel_rfl) (by kernel_rfl) (by kernel_rfl) (by kernel_rfl) (by kernel_rfl) (by kernel_rfl) (by kernel_rfl) (by kernel_rfl) (by kernel_rfl) (by kernel_rfl) (by kernel_rfl) (by kernel_rfl) (by kernel_rfl) (by kernel_rfl) (by kernel_rfl) (by kernel_rfl) (by kernel_rfl) (by kernel_rfl) (by kernel_rfl) (by kernel_rfl) (by kernel_rfl) (by kernel_rfl) (by kernel_rfl) (by kernel_rfl) (by kernel_rfl) (by kernel_rfl) (by kernel_rfl) (by kernel_rfl) (by kernel_rfl) (by kernel_rfl) (by kernel_rfl) (by kernel_rfl) (by kernel_rfl) (by kernel_rfl) (by kernel_rfl) (by kernel_rfl) (by kernel_rfl) (by kernel_rfl) (by kernel_rfl) (by kernel_rfl) (by kernel_rfl) (by kernel_rfl) (by kernel_rfl) (by kernel_rfl) (by kernel_rfl) (by kernel_rfl) (by kernel_rfl) (by kernel_rfl) (by kernel_rfl) (by kernel_rfl) (by kernel_rfl) (by kernel_rfl) (by kernel_rfl) (by kernel_rfl) (by kernel_rfl) (by kernel_rfl) (by kernel_rfl) (by kernel_rfl) (by kernel_rfl) (by kernel_rfl) (by kernel_rfl) (by kernel_rfl) (by kernel_rfl) (by kernel_rfl) (by kernel_rfl) (by kernel_rfl) (by kernel_rfl) (by kernel_rfl) (by kernel_rfl) (by kernel_rfl) (by kernel_rfl) (by kernel_rfl) (by kernel_rfl) (by kernel_rfl) (by kernel_rfl) (by kernel_rfl) (by kernel_rfl) (by kernel_rfl) (by kernel_rfl) (by kernel_rfl) (by kernel_rfl) (by kernel_rfl) (by kernel_rfl) (by kernel_rfl) (by kernel_rfl) (by kernel_rfl) (by kernel_rfl) (by kernel_rfl) (by kernel_rfl) (by kernel_rfl) (by kernel_rfl) (by kernel_rfl) (by kernel_rfl) (by kernel_rfl) (by kernel_rfl) (by kernel_rfl) (by kernel_rfl) (by kernel_rfl) (by kernel_rfl) (by kernel_rfl) (by kernel_rfl) (by kernel_rfl) (by kernel_rfl) (by kernel_rfl) (by kernel_rfl) (by kernel_rfl) (by kernel_rfl) (by kernel_rfl) (by kernel_rfl) (by kernel_rfl) (by kernel_rfl) (by kernel_rfl) (by kernel_rfl) (by kernel_rfl) (by kernel_rfl) (by kernel_rfl) (by kernel_rfl) (by kernel_rfl) (by kernel_rfl) (by kernel_rfl) (by kernel_rfl) (by kernel_rfl) (by kernel_rfl) (by kernel_rfl) (by kernel_rfl) (by kernel_rfl) (by kernel_rfl) (by kernel_rfl) (by kernel_rfl) (by kernel_rfl) (by kernel_rfl) (by kernel_rfl) (by kernel_rfl) (by kernel_rfl) (by kernel_rfl) (by kernel_rfl) (by kernel_rfl) (by kernel_rfl) (by kernel_rfl) (by kernel_rfl) (by kernel_rfl) (by kernel_rfl) (by kernel_rfl) (by kernel_rfl) (by kernel_rfl) (by kernel_rfl) (by kernel_rfl) (by kernel_rfl) (by kernel_rfl) (by kernel_rfl) (by kernel_rfl) (by kernel_rfl) (by kernel_rfl) (by kernel_rfl) (by kernel_rfl) (by kernel_rfl) (by kernel_rfl) (by kernel_rfl) (by kernel_rfl) (by kernel_rfl) (by kernel_rfl)
end P52
open PySem PySem.W PyProof.Rows
set_option maxRecDepth 100000 in
set_option maxHeartbeats 0 in
theorem PySem.Challenge.cw_tallyveil_k52_whole_shown_is_true_holds : PySem.Challenge.rw_tallyveil_k52_whole_shown_is_true.Holds := by
  w_on; o_law
  refine holds_openX (q := P52.vw) (loose := []) (Xt := P52.xt) (XP := XL P52.vw []) (Yf := λ s => s) (Ya := P52.fin) (N := 12000) P52.left (λ s e => xl_of s (Bool.and_eq_true_iff.mp e).1) XL.keeps (by rfl) (by rfl) (by rfl) (λ s e => recFacts_of (Bool.and_eq_true_iff.mp e).2) (by rfl) (by first | assumption | decide +kernel) (by decide +kernel) ⟨rfl, rfl, rfl, rfl, rfl, by decide +kernel⟩ ?hw ?hc
  case hw => w_witness2
  case hc =>
    exact P52.walkX P52.k_in (P52.walkW (l := PySem.Challenge.rw_tallyveil_k52_whole_shown_is_true) (n := 63) (k := 16) (x := "_law_script") (K := P52.K) (CX := λ w => L2.CX0) (sp := λ w => Tv.o3 (P52.K w)) rfl (by decide) rfl ⟨rfl, by decide, by decide⟩ (λ _ _ Y => Y) (λ w mg fa h X G hfa => P52.use X G hfa) (λ _ _ a ns hl _ hS => ⟨a, ns, rfl, hS, hl, λ _ => rfl⟩) λ _ _ _ _ _ z => z)
#print axioms PySem.Challenge.cw_tallyveil_k52_whole_shown_is_true_holds
