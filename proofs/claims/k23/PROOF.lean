import PyProof.Rows.All
import Wide.All
import OpenK.AllK
import Wide.FinOn
import Lean
import PyProof.EqAt
import PyProof.EqKinds
import PyProof.TupleCall
import KE.KDictList
import KE.KIntText
import KE.KItemsList
import KE.KEqDict
import PySem.Challenge.RW_tallyveil_k23_whole_sums_added_up
set_option Elab.async false
set_option linter.all false
set_option maxRecDepth 100000
namespace L2
open PySem PySem.Spec PyProof.Rows
noncomputable abbrev Key := Sum Int Str
noncomputable def keyIs : Key -> Value -> Bool
  | .inl k, v => Value.isInt k v
  | .inr x, v => Value.isStrOf x v
noncomputable def keyH (w : World) : Key -> Int
  | .inl k => hashInt k
  | .inr x => hashStr w x
theorem keyIs_shape : ∀ {k : Key} {v : Value}, keyIs k v = true -> (∃ i t, k = Sum.inl i /\ v = Value.int i t) \/ (∃ x t, k = Sum.inr x /\ v = Value.str x t)
  | .inl i, v, h => by
    obtain ⟨t, e⟩ := Value.isInt_shape (k := i) (v := v) h
    exact .inl ⟨i, t, rfl, e⟩
  | .inr x, v, h => by
    obtain ⟨t, e⟩ := Value.isStrOf_shape (x := x) (v := v) h
    exact .inr ⟨x, t, rfl, e⟩
theorem keyIs_int (i : Int) (t : Tok) : keyIs (.inl i) (.int i t) = true := by simp [keyIs, Value.isInt]
theorem keyIs_str (x : Str) (t : Tok) : keyIs (.inr x) (.str x t) = true := by simp [keyIs, Value.isStrOf]
theorem key_ll (a b : Int) : decide ((Sum.inl a : Key) = Sum.inl b) = (a == b) := by
  by_cases e : a = b
  . subst e; simp
  . have h : ¬ (Sum.inl a : Key) = Sum.inl b := λ q => e (Sum.inl.inj q)
    rw [decide_eq_false h]
    exact (beq_eq_false_iff_ne.mpr e).symm
theorem key_rr (a b : Str) : decide ((Sum.inr a : Key) = Sum.inr b) = decide (a = b) := by
  by_cases e : a = b
  . subst e; simp
  . have h : ¬ (Sum.inr a : Key) = Sum.inr b := λ q => e (Sum.inr.inj q)
    rw [decide_eq_false h, decide_eq_false e]
theorem key_lr (a : Int) (b : Str) : decide ((Sum.inl a : Key) = Sum.inr b) = false := decide_eq_false (λ q => nomatch q)
theorem key_rl (a : Str) (b : Int) : decide ((Sum.inr a : Key) = Sum.inl b) = false := decide_eq_false (λ q => nomatch q)
noncomputable def mixKind (prog : Program) (w : World) : PySem.KeyKind prog w Key where
  is := keyIs
  hash := keyH w
  inj := λ v a b ha hb => by
    rcases keyIs_shape ha with ⟨i, t, rfl, rfl⟩ | ⟨x, t, rfl, rfl⟩
    . rcases keyIs_shape hb with ⟨j, u, rfl, e⟩ | ⟨y, u, rfl, e⟩
      . injection e with e1 _; rw [e1]
      . exact nomatch e
    . rcases keyIs_shape hb with ⟨j, u, rfl, e⟩ | ⟨y, u, rfl, e⟩
      . exact nomatch e
      . injection e with e1 _; rw [e1]
  byValue := λ k v h => by
    rcases keyIs_shape h with ⟨i, t, rfl, rfl⟩ | ⟨x, t, rfl, rfl⟩ <;> rfl
  pyHash := λ hv h => by
    rcases keyIs_shape hv with ⟨i, t, rfl, rfl⟩ | ⟨x, t, rfl, rfl⟩
    . exact wpAny_pyHash_int h
    . exact wpAny_pyHash_str h
  eqBool := λ hu hv h => by
    rcases keyIs_shape hu with ⟨i, t, rfl, rfl⟩ | ⟨x, t, rfl, rfl⟩
    . rcases keyIs_shape hv with ⟨j, u, rfl, rfl⟩ | ⟨y, u, rfl, rfl⟩
      . rw [key_ll] at h; exact wpAny_eqBool_int h
      . rw [key_lr] at h; exact SeqAt.EqAt.int_str i t y u _ _ _ _ h
    . rcases keyIs_shape hv with ⟨j, u, rfl, rfl⟩ | ⟨y, u, rfl, rfl⟩
      . rw [key_rl] at h; exact SeqAt.EqAt.str_int x t j u _ _ _ _ h
      . rw [key_rr] at h; exact wpAny_eqBool_str h
  «strs» := λ k x t v h => by
    rcases keyIs_shape h with ⟨i, u, rfl, e⟩ | ⟨y, u, rfl, e⟩
    . exact nomatch e
    . injection e with e1 _
      subst e1
      cases v <;> rfl
theorem mixKind_int (prog : Program) (w : World) (i : Int) (t : Tok) : (mixKind prog w).is (.inl i) (.int i t) = true := keyIs_int i t
theorem mixKind_str (prog : Program) (w : World) (x : Str) (t : Tok) : (mixKind prog w).is (.inr x) (.str x t) = true := keyIs_str x t
end L2
namespace L2
open PySem PySem.Spec PyProof.Rows
inductive V where
  | non | bl (b : Bool) | int (i : Int) | str (x : Str) | byt (b : Array UInt8) | flt (b : UInt64) | ref (a : Addr) | ty (n : String)
  deriving DecidableEq
noncomputable def RelV : V -> Value -> Prop
  | .non, u => u = Value.none
  | .bl b, u => u = Value.bool b
  | .int i, u => ∃ t, u = Value.int i t
  | .str x, u => ∃ t, u = Value.str x t
  | .byt b, u => ∃ t, u = Value.bytes b t
  | .flt b, u => ∃ t, u = Value.float b t
  | .ref a, u => u = Value.ref a
  | .ty n, u => u = Value.type n
noncomputable abbrev Vals : List V -> List Value -> Prop := Paired RelV
theorem Vals.length {xs : List V} {us : List Value} (r : Vals xs us) : xs.length = us.length := Paired.length r
theorem Vals.get : ∀ {xs : List V} {us : List Value} {i : Nat} {x : V}, Vals xs us -> xs[i]? = some x -> ∃ u, us[i]? = some u /\ RelV x u
  | _, _, _, _, .nil, e => by simp at e
  | _, _, 0, _, .cons r _, e => by simp at e; subst e; exact ⟨_, rfl, r⟩
  | _, _, i + 1, x, .cons _ t, e => by
    obtain ⟨u, h1, h2⟩ := Vals.get (i := i) (x := x) t (by simpa using e)
    exact ⟨u, by simpa using h1, h2⟩
theorem Vals.set {x : V} {u : Value} (r : RelV x u) : ∀ {xs : List V} {us : List Value} (i : Nat), Vals xs us -> Vals (xs.set i x) (us.set i u)
  | _, _, _, .nil => .nil
  | _, _, 0, .cons _ t => .cons r t
  | _, _, i + 1, .cons q t => .cons q (Vals.set r i t)
theorem Vals.append : ∀ {xs ys : List V} {us ws : List Value}, Vals xs us -> Vals ys ws -> Vals (xs ++ ys) (us ++ ws)
  | _, _, _, _, .nil, s => s
  | _, _, _, _, .cons r t, s => .cons r (Vals.append t s)
theorem Vals.take : ∀ {xs : List V} {us : List Value} (n : Nat), Vals xs us -> Vals (xs.take n) (us.take n)
  | _, _, 0, _ => .nil
  | _, _, _ + 1, .nil => .nil
  | _, _, n + 1, .cons r t => .cons r (Vals.take n t)
theorem Vals.drop : ∀ {xs : List V} {us : List Value} (n : Nat), Vals xs us -> Vals (xs.drop n) (us.drop n)
  | _, _, 0, r => r
  | _, _, _ + 1, .nil => .nil
  | _, _, n + 1, .cons _ t => Vals.drop n t
noncomputable def RelO : Option V -> Option Value -> Prop
  | some v, some u => RelV v u
  | none, none => True
  | _, _ => False
noncomputable def KV {κ : Type} : List (κ × V) -> List (κ × Value) -> Prop := Paired λ (p : κ × V) (q : κ × Value) => p.1 = q.1 /\ RelV p.2 q.2
noncomputable def kV : Key -> V
  | .inl i => .int i
  | .inr x => .str x
inductive HO where
  | lst (xs : List V)
  | tup (xs : List V)
  | dK (kvs : List (Key × V)) | dT (kvs : List (List Key × V))
  | set (S : Int -> Bool) (n : Nat)
  | ins (C dx : Addr) (fs : List (Str × V))
  | own (x : Addr)
  | xd (fs : List (Str × V))
  | met (f x : Addr)
  | rng (lo hi : Int)
  | frz (o : Obj) (u : HO)
  | tbl (ps : Array Value)
  | ext (φ : Heap -> Prop)
noncomputable abbrev Hp := Addr -> Option HO
noncomputable def upd (H : Hp) (a : Addr) (o : HO) : Hp := λ b => if b = a then some o else H b
theorem upd_same {H : Hp} {a : Addr} {o : HO} : upd H a o a = some o := by unfold upd; rw [if_pos rfl]
theorem upd_ne {H : Hp} {a b : Addr} {o : HO} (h : b ≠ a) : upd H a o b = H b := by unfold upd; rw [if_neg h]
theorem upd_upd {H : Hp} {a : Addr} {o u : HO} : upd (upd H a o) a u = upd H a u := by
  funext b; unfold upd; split <;> rfl
theorem ne_of {H : Hp} {a b : Addr} {o u : HO} (h : H a = some o) (h' : H b = some u) (d : o ≠ u) : a ≠ b := by
  intro e; subst e; rw [h] at h'; exact d (Option.some.inj h')
theorem ne_of_none {H : Hp} {a b : Addr} {o : HO} (h : H a = some o) (h' : H b = none) : a ≠ b := by
  intro e; subst e; rw [h] at h'; cases h'
section
variable (P : Program) (w : World)
noncomputable def ObjOk (H : Hp) (h : Heap) (a : Addr) : HO -> Prop
  | .lst xs => xs.length <= sizeLine /\ ∃ (its : List Value) (n : Nat), Vals xs its /\ h.get? a = some { cls := .type "list", data := .seq its.toArray n }
  | .tup xs => xs.length <= sizeLine /\ ∃ its : List Value, Vals xs its /\ IsTup h a its.toArray
  | .dK kvs => kvs.length <= sizeLine /\ (a == sysModules) = false /\ ∃ vs, KV kvs vs /\ h.DictOf (mixKind P w) a vs
  | .dT kvs => kvs.length <= sizeLine /\ (a == sysModules) = false /\ ∃ xs : List (List Key × Addr × Value),
      Paired (λ (p : List Key × V) (q : List Key × Addr × Value) => p.1 = q.1 /\ H q.2.1 = some (.tup (p.1.map kV)) /\ RelV p.2 q.2.2) kvs xs ∧
      ∃ o es ep, h.get? a = some o /\ o.ExactDict /\ o.data = .dict es ep /\ es.toList = xs.map (entryOfKey (tupleKind (mixKind P w))) /\ (xs.map (·.1)).Nodup
  | .set S n => h.SetOf (intKind P w) a S n
  | .ins C dx fs => H dx = some (.own a) /\ fs.length <= 1000 /\ dx ≠ a /\ h.get? a = some (PySem.W.instObj C dx) ∧
      ∃ mA, h.Ns1 dx mA /\ (∀ f, RelO (fs.lookup f) (mA f)) /\ PySem.Within mA (fs.map (·.1))
  | .own _ => ∃ o, h.get? a = some o
  | .xd fs => ∃ mA, h.Ns1 a mA /\ ∀ f, RelO (fs.lookup f) (mA f)
  | .rng lo hi => ∃ t u v, h.get? a = some { cls := .type "range", data := .fields #[.int lo t, .int hi u, .int 1 v] }
  | .frz o u => h.get? a = some o /\ ObjOk H h a u
  | .tbl ps => h.get? a = some { cls := .none, data := .fields ps }
  | .met f x => h.get? a = some (PySem.W.methodObj (.ref f) (.ref x))
  | .ext φ => φ h /\ (∃ o, h.get? a = some o) /\ ∀ h1 h2 : Heap, φ h1 -> (∀ o, h1.get? a = some o -> h2.get? a = some o) -> φ h2
noncomputable def HOk (H : Hp) (h : Heap) : Prop := ∀ a o, H a = some o -> ObjOk P w H h a o
end
section
variable {P : Program} {w : World} {H H' : Hp} {h h' : Heap} {a : Addr} {o : HO}
theorem ObjOk.lt (x : ObjOk P w H h a o) : a < h.objs.size := by
  cases o with
  | lst xs => obtain ⟨_, _, _, _, e⟩ := x; exact Heap.lt_size e
  | tup xs => obtain ⟨_, _, _, p⟩ := x; exact p.lt
  | dK kvs => obtain ⟨_, _, _, _, o, _, _, e, _⟩ := x; exact Heap.lt_size e
  | dT kvs => obtain ⟨_, _, _, _, o, _, _, e, _⟩ := x; exact Heap.lt_size e
  | set S n => obtain ⟨o, _, _, _, e, _⟩ := x; exact Heap.lt_size e
  | ins C dx fs => obtain ⟨_, _, _, e, _⟩ := x; exact Heap.lt_size e
  | own y => obtain ⟨_, e⟩ := x; exact Heap.lt_size e
  | xd fs => obtain ⟨_, ⟨_, _, _, e, _⟩, _⟩ := x; exact Heap.lt_size e
  | rng lo hi => obtain ⟨_, _, _, e⟩ := x; exact Heap.lt_size e
  | frz ob u => obtain ⟨e, _⟩ := x; exact Heap.lt_size e
  | tbl ps => exact Heap.lt_size (show h.get? a = some _ from x)
  | met f y => exact Heap.lt_size (show h.get? a = some _ from x)
  | ext φ => obtain ⟨_, ⟨_, e⟩, _⟩ := x; exact Heap.lt_size e
theorem Paired.mapP {α β : Type} {F G : α -> β -> Prop} : ∀ {l₁ : List α} {l₂ : List β}, Paired F l₁ l₂ -> (∀ a b, F a b -> G a b) -> Paired G l₁ l₂
  | _, _, .nil, _ => .nil
  | _, _, .cons r t, f => .cons (f _ _ r) (Paired.mapP t f)
theorem ObjOk.stay (x : ObjOk P w H h a o) (k : ∀ b u, (b = a \/ H b = some (.own a)) -> h.get? b = some u -> h'.get? b = some u)
    (ho : ∀ b, H b = some (.own a) -> H' b = some (.own a)) (ht : ∀ b xs, H b = some (.tup xs) -> H' b = some (.tup xs)) : ObjOk P w H' h' a o := by
  induction o with
  | lst xs => obtain ⟨z, its, n, r, e⟩ := x; exact ⟨z, its, n, r, k _ _ (.inl rfl) e⟩
  | tup xs => obtain ⟨z, its, r, ob, e, c⟩ := x; exact ⟨z, its, r, ob, k _ _ (.inl rfl) e, c⟩
  | dK kvs => obtain ⟨z, y, vs, r, ob, es, ep, e, c⟩ := x; exact ⟨z, y, vs, r, ob, es, ep, k _ _ (.inl rfl) e, c⟩
  | dT kvs =>
    obtain ⟨z, y, xs, r, ob, es, ep, e, c⟩ := x
    exact ⟨z, y, xs, Paired.mapP r λ p q z => ⟨z.1, ht _ _ z.2.1, z.2.2⟩, ob, es, ep, k _ _ (.inl rfl) e, c⟩
  | set S n => obtain ⟨ob, es, ep, t, e, c⟩ := x; exact ⟨ob, es, ep, t, k _ _ (.inl rfl) e, c⟩
  | ins C dx fs =>
    obtain ⟨d, z, ne, e, mA, ⟨od, es, ep, e2, c⟩, r⟩ := x
    exact ⟨ho _ d, z, ne, k _ _ (.inl rfl) e, mA, ⟨od, es, ep, k _ _ (.inr d) e2, c⟩, r⟩
  | own y => obtain ⟨ob, e⟩ := x; exact ⟨ob, k _ _ (.inl rfl) e⟩
  | xd fs => obtain ⟨mA, ⟨od, es, ep, e, c⟩, r⟩ := x; exact ⟨mA, ⟨od, es, ep, k _ _ (.inl rfl) e, c⟩, r⟩
  | rng lo hi => obtain ⟨t, u, v, e⟩ := x; exact ⟨t, u, v, k _ _ (.inl rfl) e⟩
  | frz ob u ih => obtain ⟨e, q⟩ := x; exact ⟨k _ _ (.inl rfl) e, ih q⟩
  | tbl ps =>
    have e : h.get? a = some { cls := .none, data := .fields ps } := x
    show h'.get? a = some { cls := .none, data := .fields ps }
    exact k a _ (.inl rfl) e
  | met f y =>
    have e : h.get? a = some (PySem.W.methodObj (.ref f) (.ref y)) := x
    show h'.get? a = some (PySem.W.methodObj (.ref f) (.ref y))
    exact k a _ (.inl rfl) e
  | ext φ => obtain ⟨p, ⟨o, e⟩, st⟩ := x; exact ⟨st _ _ p λ o q => k _ _ (.inl rfl) q, ⟨o, k _ _ (.inl rfl) e⟩, st⟩
theorem HOk.lt (x : HOk P w H h) (e : H a = some o) : a < h.objs.size := (x a o e).lt
theorem HOk.fresh (x : HOk P w H h) (e : h.objs.size <= a) : H a = none := by
  cases q : H a with
  | none => rfl
  | some u => exact absurd (Nat.lt_of_lt_of_le (x.lt q) e) (Nat.lt_irrefl _)
theorem HOk.kept (x : HOk P w H h) (k : ∀ b u, h.get? b = some u -> h'.get? b = some u) : HOk P w H h' := λ a o e =>
  (x a o e).stay (λ b u _ q => k b u q) (λ _ q => q) λ _ _ q => q
theorem HOk.laid (x : HOk P w H h) (k : ∀ b u, h.get? b = some u -> h'.get? b = some u) (hp : h.objs.size <= a) (new : ObjOk P w (upd H a o) h' a o) : HOk P w (upd H a o) h' := λ b u e => by
  have hn := x.fresh hp
  by_cases hb : b = a
  . subst hb; rw [upd_same] at e; cases e; exact new
  . rw [upd_ne hb] at e
    exact (x b u e).stay (λ c v _ q => k c v q) (λ c q => by rw [upd_ne (ne_of_none q hn)]; exact q) λ c xs q => by rw [upd_ne (ne_of_none q hn)]; exact q
end
noncomputable def Rd (H : Hp) (a : Addr) (u : HO) : Prop := H a = some u \/ ∃ o, H a = some (.frz o u)
theorem Rd.ok {P : Program} {w : World} {H : Hp} {h : Heap} {a : Addr} {u : HO} (r : Rd H a u) (x : HOk P w H h) : ObjOk P w H h a u := by
  rcases r with r | ⟨o, r⟩
  . exact x a u r
  . obtain ⟨_, q⟩ := x a _ r
    exact q
noncomputable def Mut : Option HO -> Prop
  | some (.lst _) => True
  | some (.dK _) => True
  | some (.dT _) => True
  | some (.set _ _) => True
  | some (.ins _ _ _) => True
  | some (.ext _) => True
  | _ => False
section
variable {P : Program} {w : World} {H : Hp} {h h' : Heap} {x e : Addr} {o' : HO}
theorem HOk.write (ok : HOk P w H h) (mu : Mut (H x)) (he : e = x \/ H e = some (.own x)) (k : ∀ b u, b ≠ e -> h.get? b = some u -> h'.get? b = some u) (heo : ∃ u, h'.get? e = some u)
    (new : ObjOk P w (upd H x o') h' x o') : HOk P w (upd H x o') h' := λ b u q => by
  have nown : ∀ c y, H c = some (.own y) -> c ≠ x := λ c y r z => by subst z; rw [r] at mu; exact mu
  have ntup : ∀ c xs, H c = some (.tup xs) -> c ≠ x := λ c xs r z => by subst z; rw [r] at mu; exact mu
  by_cases hb : b = x
  . subst hb; rw [upd_same] at q; cases q; exact new
  . rw [upd_ne hb] at q
    by_cases hbe : b = e
    . have q' : H b = some (.own x) := by
        rcases he with z | z
        . exact absurd (hbe.trans z) hb
        . rw [hbe]; exact z
      rw [q] at q'; cases q'
      obtain ⟨v, hv⟩ := heo
      exact ⟨v, by rw [hbe]; exact hv⟩
    . refine (ok b u q).stay (λ c v hc r => k c v ?_ r) (λ c r => by rw [upd_ne (nown c b r)]; exact r) λ c xs r => by rw [upd_ne (ntup c xs r)]; exact r
      rcases hc with rfl | hc
      . exact hbe
      . rintro rfl
        rcases he with z | z
        . exact nown c b hc z
        . rw [hc] at z; cases z; exact hb rfl
end
structure Un (fs ex : List Addr) (H H' : Hp) (h h' : Heap) : Prop where
  keep : ∀ b o, h.get? b = some o -> H b = none -> b ∉ fs -> b ∉ ex -> h'.get? b = some o
  slot : ∀ b o, h.get? b = some o -> H b = none -> b ∈ fs -> b ∉ ex -> ∃ sl, h'.get? b = some { o with slots := sl }
  free : ∀ b o, h.get? b = some o -> H b = none -> b ∉ ex -> H' b = none
  there : ∀ b o, h.get? b = some o -> b ∉ ex -> ∃ o', h'.get? b = some o'
  tups : ∀ b xs, H b = some (.tup xs) -> H' b = some (.tup xs)
  frzs : ∀ b o u, H b = some (.frz o u) -> H' b = some (.frz o u)
  tbls : ∀ b ps, H b = some (.tbl ps) -> ∃ more, H' b = some (.tbl (ps ++ more))
section
variable {fs fs' ex ex' : List Addr} {H H1 H2 : Hp} {h h1 h2 h' : Heap} {a x e : Addr} {o : HO}
theorem Un.any (u : Un fs ex H H1 h h1) {b : Addr} {ob : Obj} (q : h.get? b = some ob) (n : H b = none) (hx : b ∉ ex) : ∃ sl, h1.get? b = some { ob with slots := sl } := by
  by_cases hb : b ∈ fs
  . exact u.slot b ob q n hb hx
  . exact ⟨ob.slots, u.keep b ob q n hb hx⟩
theorem Un.kept (k : ∀ b u, h.get? b = some u -> h'.get? b = some u) : Un fs ex H H h h' :=
  ⟨λ b ob q _ _ _ => k b ob q, λ b ob q _ _ _ => ⟨ob.slots, k b ob q⟩, λ _ _ _ n _ => n, λ b ob q _ => ⟨ob, k b ob q⟩, λ _ _ q => q, λ _ _ _ q => q, λ _ ps q => ⟨#[], by rw [q]; simp⟩⟩
theorem Un.refl : Un fs ex H H h h := Un.kept λ _ _ q => q
theorem Un.laid (k : ∀ b u, h.get? b = some u -> h'.get? b = some u) (hp : h.objs.size <= a) (hn : H a = none) : Un fs ex H (upd H a o) h h' where
  keep := λ b u q _ _ _ => k b u q
  slot := λ b u q _ _ _ => ⟨u.slots, k b u q⟩
  free := λ b u q n _ => by rw [upd_ne (Nat.ne_of_lt (Nat.lt_of_lt_of_le (Heap.lt_size q) hp))]; exact n
  there := λ b u q _ => ⟨u, k b u q⟩
  tups := λ b xs q => by rw [upd_ne (ne_of_none q hn)]; exact q
  frzs := λ b u xs q => by rw [upd_ne (ne_of_none q hn)]; exact q
  tbls := λ b ps q => ⟨#[], by rw [upd_ne (ne_of_none q hn), q]; simp⟩
theorem Un.write (mu : Mut (H x)) (he : e = x \/ H e = some (.own x)) (k : ∀ b u, b ≠ e -> h.get? b = some u -> h'.get? b = some u) (heo : ∃ u, h'.get? e = some u) : Un fs ex H (upd H x o) h h' := by
  have hx : ∀ b, H b = none -> b ≠ x := λ b n z => by subst z; rw [n] at mu; exact mu
  have hb : ∀ b, H b = none -> b ≠ e := λ b n z => by
    subst z
    rcases he with r | r
    . exact hx b n r
    . rw [n] at r; cases r
  have hm : ∀ b u, H b = some u -> ¬ Mut (some u) -> b ≠ x := λ b u q nm z => by subst z; rw [q] at mu; exact nm mu
  refine ⟨λ b u q n _ _ => k b u (hb b n) q, λ b u q n _ _ => ⟨u.slots, k b u (hb b n) q⟩, λ b u q n _ => by rw [upd_ne (hx b n)]; exact n, λ b u q _ => ?_,
    λ b xs q => by rw [upd_ne (hm b _ q λ z => z)]; exact q, λ b u xs q => by rw [upd_ne (hm b _ q λ z => z)]; exact q, λ b ps q => ⟨#[], by rw [upd_ne (hm b _ q λ z => z), q]; simp⟩⟩
  by_cases hbe : b = e
  . subst hbe; exact heo
  . exact ⟨u, k b u hbe q⟩
end
noncomputable def trk (h : Heap) (H : Hp) : List Addr := (List.range h.objs.size).filter λ a => (H a).isSome
noncomputable def hidT (h : Heap) (H : Hp) : Heap := PySem.W.hideAll h (trk h H)
theorem hidT_size (h : Heap) (H : Hp) : (hidT h H).objs.size = h.objs.size := PySem.W.hideAll_size _ _
theorem hidT_get {h : Heap} {H : Hp} {b : Addr} {o : Obj} (e : h.get? b = some o) (n : H b = none) : (hidT h H).get? b = some o :=
  PySem.W.hideAll_get _ e λ hm => by
    have q : (H b).isSome = true := (List.mem_filter.mp hm).2
    rw [n] at q; simp at q
theorem of_hidT {h : Heap} {H : Hp} {b : Addr} {o : Obj} (e : (hidT h H).get? b = some o) : h.get? b = some o /\ H b = none := by
  have e' : h.get? b = some o := PySem.W.of_hideAll (trk h H) e
  refine ⟨e', ?_⟩
  cases q : H b with
  | none => rfl
  | some x =>
    have hm : b ∈ trk h H := List.mem_filter.mpr ⟨List.mem_range.mpr (Heap.lt_size e'), by simp [q]⟩
    have z : (hidT h H).get? b = none := PySem.W.hideAll_none (trk h H) hm
    rw [z] at e; cases e
end L2
namespace L2
open PySem PySem.Spec PyProof.Rows
structure Mod (K : PySem.W.Frag) (mg : Str -> Option Value) (base : Heap) : Prop where
  kin : K.In base
  glob : base.Ns mainGlobals mg
  blt : ∃ mb, base.Ns builtinsNs mb /\ ∀ x : Str, x ≠ "__name__" -> mb x = bootBuiltins x
  nolimit : base.NoLimit
structure Cx where
  prog : Program
  w : World
  K : PySem.W.Frag
  mg : Str -> Option Value
  base : Heap
  A : Around
  N : List Str
  s₀ : Shared
  H₀ : Hp
  env : Env
  outer : List Env
  stack : List Env
  ex : List Addr
  fn : Str -> Bool
  calm : Bool
  pn : List (Addr × Obj)
  xe : Value -> Shared -> Prop
noncomputable def frs (l : List Env) : List Addr := l.filterMap (·.frame)
noncomputable abbrev Cx.fs (X : Cx) : List Addr := frs X.outer
noncomputable def Vis (sc : Scope) (x : Str) : Prop := sc.names.lookup x = some .local \/ sc.names.lookup x = some .cell \/ sc.names.lookup x = some .free
noncomputable def Loc (sc : Scope) (x : Str) : Prop := sc.names.lookup x = some .local \/ sc.names.lookup x = some .cell
noncomputable def Look (env : Env) (h : Heap) (m : Str -> Option Value) (x : Str) (u : Value) : Prop :=
  (env.kindOf x = some .local /\ m x = some u) \/ ((env.kindOf x = some .cell \/ env.kindOf x = some .free) /\ ∃ c, env.cells.lookup x = some c /\ h.IsCell c (some u))
structure Cx.Ok (X : Cx) : Prop where
  mod : Mod X.K X.mg X.base
  kind : X.env.scope.kind = .function
  glob : X.env.globals = mainGlobals
  blt : X.env.builtins = builtinsNs
  above : X.s₀.heap.objs.size <= X.env.locals
  inj : ∀ x y c, X.env.cells.lookup x = some c -> X.env.cells.lookup y = some c -> x = y
  has : ∀ x, (X.env.kindOf x = some .cell \/ X.env.kindOf x = some .free) -> ∃ c, X.env.cells.lookup x = some c
  cab : ∀ x c, X.fn x = true -> X.env.cells.lookup x = some c -> X.s₀.heap.objs.size <= c
  hd : X.calm = true -> X.A.handled = none
  frames : X.A.frames = some X.stack
  stk : X.stack = X.outer \/ (X.stack = X.env :: X.outer /\ X.env.frame = some X.env.locals)
  exf : ∀ b ∈ X.ex, b ≠ X.env.locals /\ ∀ x c, X.env.cells.lookup x = some c -> c ≠ b
  bs : ∀ b o, X.base.get? b = some o -> X.s₀.heap.get? b = some o /\ X.H₀ b = none
  bsz : X.base.objs.size <= X.s₀.heap.objs.size
  noex : ∀ b o, X.base.get? b = some o -> b ∉ X.ex
  exfs : ∀ b ∈ X.ex, b ∉ X.fs
  funs : X.s₀.heap.FunFrames X.base X.outer
  frf : ∀ b ∈ X.fs, X.H₀ b = none
structure Inv (X : Cx) (pins : List (Addr × Obj)) (σ : List (Option V)) (H : Hp) (s : Shared) : Prop where
  ok : X.Ok
  os : s.os = X.s₀.os
  bare : AllBare s.gens
  base : Un X.fs X.ex X.H₀ H X.s₀.heap s.heap
  loc : ∃ m, s.heap.Ns X.env.locals m /\ ∀ (i : Nat) (x : Str) (v : V), X.N[i]? = some x -> σ[i]? = some (some v) -> Vis X.env.scope x -> ∃ u, RelV v u /\ Look X.env s.heap m x u
  cell : ∀ x c, X.env.cells.lookup x = some c -> ∃ v, s.heap.IsCell c v
  free : H X.env.locals = none
  freeC : ∀ x c, X.env.cells.lookup x = some c -> H c = none
  pin : ∀ p ∈ X.pn ++ pins, s.heap.get? p.1 = some p.2 /\ H p.1 = none /\ p.1 ≠ X.env.locals /\ p.1 ∉ X.fs /\ ∀ v, p.2.data ≠ .cell v
  hok : HOk X.prog X.w H s.heap
  len : σ.length = X.N.length
section
variable {X : Cx} {pins : List (Addr × Obj)} {σ : List (Option V)} {H H' : Hp} {s : Shared} {h' : Heap}
theorem Cx.Ok.nofr (ok : X.Ok) {b : Addr} {o : Obj} (e : X.base.get? b = some o) : b ∉ X.fs := λ hb => by
  have := (ok.funs.mem hb).1
  rw [e] at this; cases this
theorem Inv.bs (I : Inv X pins σ H s) : ∀ b o, X.base.get? b = some o -> s.heap.get? b = some o /\ H b = none := λ b o e =>
  ⟨I.base.keep b o (I.ok.bs b o e).1 (I.ok.bs b o e).2 (I.ok.nofr e) (I.ok.noex b o e), I.base.free b o (I.ok.bs b o e).1 (I.ok.bs b o e).2 (I.ok.noex b o e)⟩
theorem Inv.bk (I : Inv X pins σ H s) : ∀ b o, X.base.get? b = some o -> s.heap.get? b = some o := λ b o e => (I.bs b o e).1
theorem Inv.mod (I : Inv X pins σ H s) : Mod X.K X.mg X.base := I.ok.mod
theorem Inv.kIn (I : Inv X pins σ H s) : X.K.In s.heap := I.ok.mod.kin.keeps I.bk
theorem Inv.lt (I : Inv X pins σ H s) : X.env.locals < s.heap.objs.size := let ⟨_, hn, _⟩ := I.loc; hn.lt
theorem Inv.sz (I : Inv X pins σ H s) : X.s₀.heap.objs.size <= s.heap.objs.size := Nat.le_trans I.ok.above (Nat.le_of_lt I.lt)
theorem Inv.nofs (I : Inv X pins σ H s) {a : Addr} (h : s.heap.objs.size <= a) : a ∉ X.fs := λ hb => by
  obtain ⟨_, o, ho, _⟩ := I.ok.funs.mem hb
  exact absurd (Nat.lt_of_lt_of_le (Heap.lt_size ho) (Nat.le_trans I.sz h)) (Nat.lt_irrefl _)
theorem Inv.cne (I : Inv X pins σ H s) : ∀ x c, X.env.cells.lookup x = some c -> c ≠ X.env.locals := λ x c e z => by
  obtain ⟨v, o, ho, hd⟩ := I.cell x c e
  obtain ⟨m, ⟨o', es, ep, ho', hd', _⟩, _⟩ := I.loc
  rw [z, ho'] at ho; cases ho; rw [hd'] at hd; cases hd
theorem Inv.funs (I : Inv X pins σ H s) : s.heap.FunFrames X.base X.outer := by
  have all : ∀ (l : List Env), (∀ b ∈ frs l, b ∈ X.fs) -> X.s₀.heap.FunFrames X.base l -> s.heap.FunFrames X.base l := by
    intro l
    induction l with
    | nil => intro _ _; trivial
    | cons env r ih =>
      intro hs hl
      obtain ⟨hk, ⟨L, o, hf, hn, ho, hd⟩, hr⟩ := hl
      have hL : L ∈ X.fs := hs L (by unfold frs; rw [List.filterMap_cons, hf]; exact List.mem_cons_self)
      obtain ⟨sl, e⟩ := I.base.slot L o ho (I.ok.frf L hL) hL λ z => I.ok.exfs L z hL
      exact ⟨hk, ⟨L, _, hf, hn, e, hd⟩, ih (λ b hb => hs b (by unfold frs; rw [List.filterMap_cons, hf]; exact List.mem_cons_of_mem _ hb)) hr⟩
  exact all X.outer (λ _ hb => hb) I.ok.funs
theorem Inv.stack (I : Inv X pins σ H s) : s.heap.FunFrames X.base X.stack := by
  rcases I.ok.stk with e | ⟨e, hf⟩
  . rw [e]; exact I.funs
  . rw [e]
    obtain ⟨m, hn, _⟩ := I.loc
    refine .cons (by rw [I.ok.kind]; decide) hf hn ?_ I.funs
    exact Heap.get?_none_of_le (Nat.le_trans I.ok.bsz I.ok.above)
theorem Inv.stkSub (I : Inv X pins σ H s) : ∀ b ∈ frs X.stack, b ∈ X.env.locals :: X.fs := λ b hb => by
  rcases I.ok.stk with e | ⟨e, hf⟩
  . rw [e] at hb; exact List.mem_cons_of_mem _ hb
  . rw [e] at hb
    unfold frs at hb
    rw [List.filterMap_cons, hf] at hb
    exact hb
theorem Inv.stkFree (I : Inv X pins σ H s) : ∀ b ∈ frs X.stack, H b = none := λ b hb => by
  rcases List.mem_cons.mp (I.stkSub b hb) with e | hb
  . rw [e]; exact I.free
  . obtain ⟨_, o, ho, _⟩ := I.ok.funs.mem hb
    exact I.base.free b o ho (I.ok.frf b hb) λ z => I.ok.exfs b z hb
theorem Inv.step {g' : Array GenState} {t' : Nat} {d' : Drawn} {ch : List Addr} (I : Inv X pins σ H s)
    (hch : ∀ b ∈ ch, (b ∈ X.ex \/ X.s₀.heap.objs.size <= b) /\ b ≠ X.env.locals /\ (∀ x c, X.env.cells.lookup x = some c -> c ≠ b) /\ ∀ p ∈ X.pn ++ pins, p.1 ≠ b)
    (keep : ∀ b o, b ≠ X.env.locals -> b ∉ X.fs -> b ∉ ch -> s.heap.get? b = some o -> H b = none -> h'.get? b = some o)
    (slot : ∀ b o, b ≠ X.env.locals -> b ∈ X.fs -> b ∉ ch -> s.heap.get? b = some o -> H b = none -> ∃ sl, h'.get? b = some { o with slots := sl }) (free : ∀ b o, b ∉ ch -> s.heap.get? b = some o -> H b = none -> H' b = none)
    (there : ∀ b o, b ∉ ch -> s.heap.get? b = some o -> ∃ o', h'.get? b = some o')
    (tups : ∀ b xs, H b = some (.tup xs) -> H' b = some (.tup xs)) (frzs : ∀ b o u, H b = some (.frz o u) -> H' b = some (.frz o u)) (tbls : ∀ b ps, H b = some (.tbl ps) -> ∃ more, H' b = some (.tbl (ps ++ more)))
    (ns : ∀ m, s.heap.Ns X.env.locals m -> h'.Ns X.env.locals m) (hok : HOk X.prog X.w H' h') (hg : AllBare g') :
    Inv X pins σ H' { s with heap := h', gens := g', drawn := d', toks := t' } := by
  have neL : ∀ b o, X.s₀.heap.get? b = some o -> b ≠ X.env.locals := λ b o e => Nat.ne_of_lt (Nat.lt_of_lt_of_le (Heap.lt_size e) I.ok.above)
  have neC : ∀ b o, X.s₀.heap.get? b = some o -> b ∉ X.ex -> b ∉ ch := λ b o e hx hb => by
    rcases (hch b hb).1 with z | z
    . exact hx z
    . exact absurd (Nat.lt_of_lt_of_le (Heap.lt_size e) z) (Nat.lt_irrefl _)
  have cellK : ∀ x c, X.env.cells.lookup x = some c -> ∀ v, s.heap.IsCell c v -> h'.IsCell c v := λ x c e v ⟨o, ho, hd⟩ => by
    have nch : c ∉ ch := λ z => (hch c z).2.2.1 x c e rfl
    by_cases hc : c ∈ X.fs
    . obtain ⟨sl, q⟩ := slot c o (I.cne x c e) hc nch ho (I.freeC x c e)
      exact ⟨_, q, hd⟩
    . exact ⟨o, keep c o (I.cne x c e) hc nch ho (I.freeC x c e), hd⟩
  refine ⟨I.ok, I.os, hg, ⟨λ b o e n hb hx => ?_, λ b o e n hb hx => ?_, λ b o e n hx => ?_, λ b o e hx => ?_, λ b xs e => tups b xs (I.base.tups b xs e), λ b o xs e => frzs b o xs (I.base.frzs b o xs e), λ b ps e => ?_⟩, ?_, λ x c e => ?_, ?_, λ x c e => ?_, λ p hp => ?_, hok, I.len⟩
  . exact keep b o (neL b o e) hb (neC b o e hx) (I.base.keep b o e n hb hx) (I.base.free b o e n hx)
  . obtain ⟨sl, e1⟩ := I.base.slot b o e n hb hx
    obtain ⟨sl', e2⟩ := slot b _ (neL b o e) hb (neC b o e hx) e1 (I.base.free b o e n hx)
    exact ⟨sl', e2⟩
  . obtain ⟨o', e1⟩ := I.base.there b o e hx
    exact free b o' (neC b o e hx) e1 (I.base.free b o e n hx)
  . obtain ⟨o', e1⟩ := I.base.there b o e hx
    exact there b o' (neC b o e hx) e1
  . obtain ⟨m1, e1⟩ := I.base.tbls b ps e
    obtain ⟨m2, e2⟩ := tbls b _ e1
    exact ⟨m1 ++ m2, by rw [e2, Array.append_assoc]⟩
  . obtain ⟨m, hn, hl⟩ := I.loc
    refine ⟨m, ns m hn, λ i x v e1 e2 e3 => ?_⟩
    obtain ⟨u, r, l⟩ := hl i x v e1 e2 e3
    refine ⟨u, r, ?_⟩
    rcases l with l | ⟨k, c, e, z⟩
    . exact .inl l
    . exact .inr ⟨k, c, e, cellK x c e _ z⟩
  . obtain ⟨v, z⟩ := I.cell x c e
    exact ⟨v, cellK x c e v z⟩
  . obtain ⟨m, ⟨o, _, _, ho, _⟩, _⟩ := I.loc
    exact free _ o (λ z => (hch _ z).2.1 rfl) ho I.free
  . obtain ⟨v, o, ho, hd⟩ := I.cell x c e
    exact free c o (λ z => (hch c z).2.2.1 x c e rfl) ho (I.freeC x c e)
  . obtain ⟨e, n, ne, nf, d⟩ := I.pin p hp
    have nch : p.1 ∉ ch := λ z => (hch p.1 z).2.2.2 p hp rfl
    exact ⟨keep p.1 p.2 ne nf nch e n, free p.1 p.2 nch e n, ne, nf, d⟩
theorem Inv.un {t' : Nat} (I : Inv X pins σ H s) (u : Un X.fs [] H H' s.heap h') (hok : HOk X.prog X.w H' h') : Inv X pins σ H' { s with heap := h', toks := t' } := by
  obtain ⟨m, ⟨o, es, ep, ho, r⟩, _⟩ := id I.loc
  obtain ⟨sl, hL⟩ := u.any ho I.free (by simp)
  exact I.step (g' := s.gens) (d' := s.drawn) (ch := []) (λ _ z => nomatch z) (λ b o _ hb _ e n => u.keep b o e n hb (by simp)) (λ b o _ hb _ e n => u.slot b o e n hb (by simp)) (λ b o _ e n => u.free b o e n (by simp)) (λ b o _ e => u.there b o e (by simp)) u.tups u.frzs u.tbls (λ m' hm => by
    obtain ⟨o', es', ep', ho', r'⟩ := hm
    rw [ho] at ho'; cases ho'
    exact ⟨_, es', ep', hL, r'⟩) hok I.bare
theorem Inv.call {g' : Array GenState} {t' : Nat} {d' : Drawn} {ch : List Addr} (I : Inv X pins σ H s) (u : Un (frs X.stack) ch H H' s.heap h') (hok : HOk X.prog X.w H' h') (hg : AllBare g')
    (hch : ∀ b ∈ ch, (b ∈ X.ex \/ X.s₀.heap.objs.size <= b) /\ b ≠ X.env.locals /\ (∀ x c, X.env.cells.lookup x = some c -> c ≠ b) /\ ∀ p ∈ X.pn ++ pins, p.1 ≠ b) :
    Inv X pins σ H' { s with heap := h', gens := g', drawn := d', toks := t' } := by
  obtain ⟨m, ⟨o, es, ep, ho, r⟩, _⟩ := id I.loc
  obtain ⟨sl, hL⟩ := u.any ho I.free λ z => (hch _ z).2.1 rfl
  exact I.step (ch := ch) hch (λ b o hL hb hc e n => u.keep b o e n (λ z => (List.mem_cons.mp (I.stkSub b z)).elim hL hb) hc) (λ b o _ _ hc e n => u.any e n hc) (λ b o hc e n => u.free b o e n hc) (λ b o hc e => u.there b o e hc) u.tups u.frzs u.tbls (λ m' hm => by
    obtain ⟨o', es', ep', ho', r'⟩ := hm
    rw [ho] at ho'; cases ho'
    exact ⟨_, es', ep', hL, r'⟩) hok hg
theorem Inv.turned {t' : Nat} {it : Addr} (I : Inv X pins σ H s) (k : ∀ b o, b ≠ it -> s.heap.get? b = some o -> h'.get? b = some o) (hn : H it = none) (hL : it ≠ X.env.locals)
    (h1 : it ∈ X.ex \/ X.s₀.heap.objs.size <= it) (h2 : ∀ x c, X.env.cells.lookup x = some c -> c ≠ it) (h3 : ∀ p ∈ X.pn ++ pins, p.1 ≠ it) : Inv X pins σ H { s with heap := h', toks := t' } := by
  have nit : ∀ b u, H b = some u -> b ≠ it := λ b u e z => by rw [z, hn] at e; cases e
  refine I.step (g' := s.gens) (d' := s.drawn) (ch := [it]) (λ b hb => ?_) (λ b o _ _ hc e _ => k b o (λ z => hc (by simp [z])) e) (λ b o _ _ hc e _ => ⟨o.slots, k b o (λ z => hc (by simp [z])) e⟩) (λ _ _ _ _ n => n)
    (λ b o hc e => ⟨o, k b o (λ z => hc (by simp [z])) e⟩) (λ _ _ e => e) (λ _ _ _ e => e) (λ b ps e => ⟨#[], by rw [e]; simp⟩) (λ m hm => ?_) (λ b u e => ?_) I.bare
  . have e : b = it := by simpa using hb
    subst e
    exact ⟨h1, hL, h2, h3⟩
  . obtain ⟨o, es, ep, ho, r⟩ := hm
    exact ⟨o, es, ep, k _ o (Ne.symm hL) ho, r⟩
  . refine (I.hok b u e).stay (λ c v hc q => k c v ?_ q) (λ _ q => q) λ _ _ q => q
    rcases hc with z | z
    . rw [z]; exact nit b u e
    . exact nit c _ z
theorem Inv.tok (I : Inv X pins σ H s) (t : Nat) : Inv X pins σ H { s with toks := t } := I.un (h' := s.heap) (t' := t) Un.refl I.hok
theorem Inv.kept {t' : Nat} (I : Inv X pins σ H s) (k : ∀ b u, s.heap.get? b = some u -> h'.get? b = some u) : Inv X pins σ H { s with heap := h', toks := t' } := I.un (Un.kept k) (I.hok.kept k)
theorem Inv.laid {a : Addr} {o : HO} {t' : Nat} (I : Inv X pins σ H s) (k : ∀ b u, s.heap.get? b = some u -> h'.get? b = some u) (hp : s.heap.objs.size <= a) (new : ObjOk X.prog X.w (upd H a o) h' a o) :
    Inv X pins σ (upd H a o) { s with heap := h', toks := t' } := I.un (Un.laid k hp (I.hok.fresh hp)) (I.hok.laid k hp new)
theorem Inv.write {x e : Addr} {o : HO} {t' : Nat} (I : Inv X pins σ H s) (mu : Mut (H x)) (he : e = x \/ H e = some (.own x)) (k : ∀ b u, b ≠ e -> s.heap.get? b = some u -> h'.get? b = some u) (heo : ∃ u, h'.get? e = some u)
    (new : ObjOk X.prog X.w (upd H x o) h' x o) : Inv X pins σ (upd H x o) { s with heap := h', toks := t' } := I.un (Un.write mu he k heo) (I.hok.write mu he k heo new)
theorem Inv.weak {σ' : List (Option V)} (I : Inv X pins σ H s) (hl : σ'.length = σ.length) (w : ∀ (i : Nat) v, σ'[i]? = some (some v) -> σ[i]? = some (some v)) : Inv X pins σ' H s :=
  ⟨I.ok, I.os, I.bare, I.base, let ⟨m, hn, hl'⟩ := I.loc; ⟨m, hn, λ i x v e1 e2 e3 => hl' i x v e1 (w i v e2) e3⟩, I.cell, I.free, I.freeC, I.pin, I.hok, hl.trans I.len⟩
theorem Inv.pins_of {pins' : List (Addr × Obj)} (I : Inv X pins σ H s) (h : ∀ p ∈ pins', s.heap.get? p.1 = some p.2 /\ H p.1 = none /\ p.1 ≠ X.env.locals /\ p.1 ∉ X.fs /\ ∀ v, p.2.data ≠ .cell v) : Inv X pins' σ H s :=
  ⟨I.ok, I.os, I.bare, I.base, I.loc, I.cell, I.free, I.freeC, λ p hp => (List.mem_append.mp hp).elim (λ z => I.pin p (List.mem_append_left _ z)) (h p), I.hok, I.len⟩
theorem nodup_ix {N : List Str} (hN : N.Nodup) {i j : Nat} {x : Str} (a : N[i]? = some x) (b : N[j]? = some x) : i = j := by
  obtain ⟨h1, e1⟩ := List.getElem?_eq_some_iff.mp a
  obtain ⟨h2, e2⟩ := List.getElem?_eq_some_iff.mp b
  exact (List.getElem_inj hN).mp (e1.trans e2.symm)
theorem store_ok2 {M : Model} {A : Around} {E : Value -> Shared -> Prop} {i : Nat} {x : Str} {v : V} {u : Value} {Q : Unit -> Shared -> Prop} (I : Inv X pins σ H s) (hN : X.N.Nodup) (hi : X.N[i]? = some x) (hx : Loc X.env.scope x) (r : RelV v u)
    (h : ∀ s', Inv X pins (σ.set i (some v)) H s' -> (∃ a, Heap.SameBut a s.heap s'.heap /\ (a = X.env.locals \/ X.env.cells.lookup x = some a)) -> Q () s') (hf : X.fn x = true \/ X.env.scope.names.lookup x = some .local := by first | exact .inl rfl | exact .inr rfl | assumption) : wpAny M A (storeName X.env x u) Q E s := by
  obtain ⟨m, hn, hl⟩ := id I.loc
  have hcls : (X.env.scope.kind == .class || (X.env.scope.kind == .module && X.env.locals != X.env.globals)) = false := by rw [I.ok.kind]; rfl
  have hiσ : i < σ.length := by rw [I.len]; exact (List.getElem?_eq_some_iff.mp hi).1
  have cne := I.cne
  have tracked : ∀ {a : Addr} {h' : Heap}, (∃ o, s.heap.get? a = some o /\ H a = none) -> Heap.SameBut a s.heap h' -> HOk X.prog X.w H h' := λ {a h'} ha hs b ob e => by
    obtain ⟨_, _, hfree⟩ := ha
    refine (I.hok b ob e).stay (λ c w' hc q => (hs.2 c ?_).trans q) (λ _ q => q) λ _ _ q => q
    rintro rfl
    rcases hc with rfl | hc
    . rw [hfree] at e; cases e
    . rw [hfree] at hc; cases hc
  rcases hx with hk | hk
  . refine wpAny_storeName_local hk hn (λ h' hn' hs => ?_) hcls
    obtain ⟨oL, _, _, hoL, _⟩ := id hn
    refine h _ ⟨I.ok, I.os, I.bare, ⟨λ b o e n hb hx => ?_, λ b o e n hb hx => ?_, I.base.free, λ b o e hx => ?_, I.base.tups, I.base.frzs, I.base.tbls⟩, ⟨_, hn', λ j y v' e1 e2 e3 => ?_⟩, λ y c e => ?_, I.free, I.freeC, λ p hp => ?_, tracked ⟨oL, hoL, I.free⟩ hs, by simpa using I.len⟩ ⟨_, hs, .inl rfl⟩
    . exact (hs.2 b (Nat.ne_of_lt (Nat.lt_of_lt_of_le (Heap.lt_size e) I.ok.above))).trans (I.base.keep b o e n hb hx)
    . obtain ⟨sl, e1⟩ := I.base.slot b o e n hb hx
      exact ⟨sl, (hs.2 b (Nat.ne_of_lt (Nat.lt_of_lt_of_le (Heap.lt_size e) I.ok.above))).trans e1⟩
    . obtain ⟨o', e1⟩ := I.base.there b o e hx
      exact ⟨o', (hs.2 b (Nat.ne_of_lt (Nat.lt_of_lt_of_le (Heap.lt_size e) I.ok.above))).trans e1⟩
    . by_cases hj : j = i
      . subst hj
        rw [hi] at e1; cases e1
        rw [List.getElem?_set_self hiσ] at e2
        cases e2
        exact ⟨u, r, .inl ⟨hk, by simp⟩⟩
      . rw [List.getElem?_set_ne (Ne.symm hj)] at e2
        obtain ⟨u', r', q⟩ := hl j y v' e1 e2 e3
        refine ⟨u', r', ?_⟩
        rcases q with ⟨k, e⟩ | ⟨k, c, e, z⟩
        . refine .inl ⟨k, ?_⟩
          have : y ≠ x := λ e => hj (nodup_ix hN e1 (e ▸ hi))
          simp [this, e]
        . exact .inr ⟨k, c, e, z.sameBut hs (cne y c e)⟩
    . obtain ⟨w', z⟩ := I.cell y c e
      exact ⟨w', z.sameBut hs (cne y c e)⟩
    . obtain ⟨e, n, ne, nf, d⟩ := I.pin p hp
      exact ⟨(hs.2 p.1 ne).trans e, n, ne, nf, d⟩
  . have hfn : X.fn x = true := by
      rcases hf with z | z
      . exact z
      . rw [z] at hk; cases hk
    obtain ⟨c, hc⟩ := I.ok.has x (.inl hk)
    obtain ⟨w', z⟩ := I.cell x c hc
    refine wpAny_storeName_cell I.ok.kind hk hc z (λ h' hc' hs => ?_)
    obtain ⟨oc, hoc, hocd⟩ := id z
    refine h { s with heap := h' } ⟨I.ok, I.os, I.bare, ⟨λ b o e n hb hx => ?_, λ b o e n hb hx => ?_, I.base.free, λ b o e hx => ?_, I.base.tups, I.base.frzs, I.base.tbls⟩, ⟨m, hn.sameBut hs (Ne.symm (cne x c hc)), λ j y v' e1 e2 e3 => ?_⟩, λ y c' e => ?_, I.free, I.freeC, λ p hp => ?_, tracked ⟨oc, hoc, I.freeC x c hc⟩ hs, by simpa using I.len⟩ ⟨c, hs, .inr hc⟩
    . exact (hs.2 b (Nat.ne_of_lt (Nat.lt_of_lt_of_le (Heap.lt_size e) (I.ok.cab x c hfn hc)))).trans (I.base.keep b o e n hb hx)
    . obtain ⟨sl, e1⟩ := I.base.slot b o e n hb hx
      exact ⟨sl, (hs.2 b (Nat.ne_of_lt (Nat.lt_of_lt_of_le (Heap.lt_size e) (I.ok.cab x c hfn hc)))).trans e1⟩
    . obtain ⟨o', e1⟩ := I.base.there b o e hx
      exact ⟨o', (hs.2 b (Nat.ne_of_lt (Nat.lt_of_lt_of_le (Heap.lt_size e) (I.ok.cab x c hfn hc)))).trans e1⟩
    . by_cases hj : j = i
      . subst hj
        rw [hi] at e1; cases e1
        rw [List.getElem?_set_self hiσ] at e2
        cases e2
        exact ⟨u, r, .inr ⟨.inl hk, c, hc, hc'⟩⟩
      . rw [List.getElem?_set_ne (Ne.symm hj)] at e2
        obtain ⟨u', r', q⟩ := hl j y v' e1 e2 e3
        refine ⟨u', r', ?_⟩
        rcases q with q | ⟨k, c', e, z'⟩
        . exact .inl q
        . refine .inr ⟨k, c', e, z'.sameBut hs ?_⟩
          rintro rfl
          exact hj (nodup_ix hN e1 (I.ok.inj _ _ _ e hc ▸ hi))
    . by_cases hcc : c' = c
      . subst hcc; exact ⟨_, hc'⟩
      . obtain ⟨w2, z2⟩ := I.cell y c' e
        exact ⟨w2, z2.sameBut hs hcc⟩
    . obtain ⟨e, n, ne, nf, d⟩ := I.pin p hp
      refine ⟨(hs.2 p.1 ?_).trans e, n, ne, nf, d⟩
      intro q
      rw [q, hoc] at e
      have q' : oc = p.2 := Option.some.inj e
      exact d w' (by rw [<- q']; exact hocd)
theorem store_ok {M : Model} {A : Around} {E : Value -> Shared -> Prop} {i : Nat} {x : Str} {v : V} {u : Value} {Q : Unit -> Shared -> Prop} (I : Inv X pins σ H s) (hN : X.N.Nodup) (hi : X.N[i]? = some x) (hx : Loc X.env.scope x) (r : RelV v u)
    (h : ∀ s', Inv X pins (σ.set i (some v)) H s' -> Q () s') (hf : X.fn x = true \/ X.env.scope.names.lookup x = some .local := by first | exact .inl rfl | exact .inr rfl | assumption) : wpAny M A (storeName X.env x u) Q E s :=
  store_ok2 I hN hi hx r (λ s' I' _ => h s' I') hf
theorem Inv.call' {s' : Shared} {ch : List Addr} (I : Inv X pins σ H s) (ho : s'.os = s.os) (u : Un (frs X.stack) ch H H' s.heap s'.heap) (hok : HOk X.prog X.w H' s'.heap) (hg : AllBare s'.gens)
    (hch : ∀ b ∈ ch, (b ∈ X.ex \/ X.s₀.heap.objs.size <= b) /\ b ≠ X.env.locals /\ (∀ x c, X.env.cells.lookup x = some c -> c ≠ b) /\ ∀ p ∈ X.pn ++ pins, p.1 ≠ b) : Inv X pins σ H' s' := by
  obtain ⟨h', g', d', t', o'⟩ := s'
  have e : o' = s.os := ho
  subst e
  exact I.call (g' := g') (t' := t') (d' := d') u hok hg hch
end
noncomputable abbrev XK := Value -> Option Addr -> Hp -> Prop
noncomputable abbrev St := List (Option V)
noncomputable abbrev VK := V -> Hp -> Prop
noncomputable abbrev TE := St -> Hp -> VK -> Prop
noncomputable abbrev TT := St -> Hp -> (Bool -> Hp -> Prop) -> Prop
noncomputable abbrev TA := St -> Hp -> (List V -> Hp -> Prop) -> Prop
structure Ends where
  nx : St -> Hp -> Prop
  rt : VK
  bk : St -> Hp -> Prop := λ _ _ => False
  ct : St -> Hp -> Prop := λ _ _ => False
noncomputable abbrev TS := Ends -> St -> Hp -> Prop
noncomputable def EP (X : Cx) (pins : List (Addr × Obj)) (σ : St) (Q : VK) (u : Value) (s' : Shared) : Prop := ∃ v H', Inv X pins σ H' s' /\ RelV v u /\ Q v H'
noncomputable def TP (X : Cx) (pins : List (Addr × Obj)) (σ : St) (Q : Bool -> Hp -> Prop) (b : Bool) (s' : Shared) : Prop := ∃ H', Inv X pins σ H' s' /\ Q b H'
noncomputable def AP (X : Cx) (pins : List (Addr × Obj)) (σ : St) (Q : List V -> Hp -> Prop) (us : List Value) (s' : Shared) : Prop := ∃ vs H', Inv X pins σ H' s' /\ Vals vs us /\ Q vs H'
noncomputable def SP (X : Cx) (pins : List (Addr × Obj)) (D : Ends) (f : Flow) (s' : Shared) : Prop :=
  match f with
  | .next => ∃ σ' H', Inv X pins σ' H' s' /\ D.nx σ' H'
  | .brk => ∃ σ' H', Inv X pins σ' H' s' /\ D.bk σ' H'
  | .cont => ∃ σ' H', Inv X pins σ' H' s' /\ D.ct σ' H'
  | .ret u => ∃ v σ' H', Inv X pins σ' H' s' /\ RelV v u /\ D.rt v H'
noncomputable def PE (X : Cx) (e : Expr) (t : TE) : Prop :=
  ∀ (pins : List (Addr × Obj)) (s : Shared) (σ : St) (H : Hp) (Q : VK), Inv X pins σ H s -> t σ H Q -> wpAny (model X.prog X.w) X.A (eval e X.env) (EP X pins σ Q) X.xe s
noncomputable def PT (X : Cx) (e : Expr) (t : TT) : Prop :=
  ∀ (pins : List (Addr × Obj)) (s : Shared) (σ : St) (H : Hp) (Q : Bool -> Hp -> Prop), Inv X pins σ H s -> t σ H Q -> wpAny (model X.prog X.w) X.A (isTrue e X.env (eval e X.env)) (TP X pins σ Q) X.xe s
noncomputable def PW (X : Cx) (e : Expr) (t : TT) : Prop :=
  ∀ (whole : Sem Value) (pins : List (Addr × Obj)) (s : Shared) (σ : St) (H : Hp) (Q : Bool -> Hp -> Prop), Inv X pins σ H s -> t σ H Q -> wpAny (model X.prog X.w) X.A (isTrue e X.env whole) (TP X pins σ Q) X.xe s
theorem PW.pt {X : Cx} {e : Expr} {t : TT} (h : PW X e t) : PT X e t := h _
noncomputable def PA (X : Cx) (es : List Expr) (t : TA) : Prop :=
  ∀ (pos : Pos) (pins : List (Addr × Obj)) (s : Shared) (σ : St) (H : Hp) (Q : List V -> Hp -> Prop), Inv X pins σ H s -> t σ H Q -> wpAny (model X.prog X.w) X.A (spliced (backTo pos (starEach es X.env))) (AP X pins σ Q) X.xe s
noncomputable def PS (X : Cx) (st : Stmt) (t : TS) : Prop :=
  ∀ (pins : List (Addr × Obj)) (s : Shared) (σ : St) (H : Hp) (D : Ends), Inv X pins σ H s -> t D σ H -> wpAny (model X.prog X.w) X.A (exec st X.env) (SP X pins D) X.xe s
noncomputable def PSs (X : Cx) (st : List Stmt) (t : TS) : Prop :=
  ∀ (pins : List (Addr × Obj)) (s : Shared) (σ : St) (H : Hp) (D : Ends), Inv X pins σ H s -> t D σ H -> wpAny (model X.prog X.w) X.A (execs st X.env) (SP X pins D) X.xe s
theorem thn {α : Type} {t : Sem α} {Q Q' : α -> Shared -> Prop} {M : Model} {A : Around} {E : Value -> Shared -> Prop} {s : Shared} (h : wpAny M A t Q E s) (hQ : ∀ a s, Q a s -> Q' a s) : wpAny M A t Q' E s := wpAny_mono h hQ λ _ _ x => x
end L2
namespace L2
open PySem PySem.Spec PyProof.Rows
section
variable {X : Cx}
noncomputable def tVar (i : Nat) : TE := λ σ H Q => ∃ v, σ[i]? = some (some v) /\ Q v H
noncomputable def tC (v : V) : TE := λ _ H Q => Q v H
theorem pe_var {i : Nat} {x : Str} {pos : Pos} (hN : X.N[i]? = some x) (hv : Vis X.env.scope x) (hd : (x == ("__debug__" : Str)) = false := by decide) (hcd : (x == ("__classdict__" : Str)) = false := by decide) : PE X (.Name x pos) (tVar i) := by
  intro pins s σ H Q I h
  obtain ⟨v, e, h⟩ := h
  obtain ⟨m, hn, hl⟩ := I.loc
  obtain ⟨u, r, l⟩ := hl i x v hN e hv
  have fin : EP X pins σ Q u s := ⟨v, H, I, r, h⟩
  rcases l with ⟨hk, hm⟩ | ⟨hk, c, hc, hcell⟩
  . exact wpAny_Name (wpAny_loadName_local I.ok.kind hk hn hm fin) hd
  . rcases hk with hk | hk
    . exact wpAny_Name (wpAny_loadName_cell I.ok.kind hk hc hcell fin) hd
    . exact wpAny_Name (wpAny_loadName_free I.ok.kind hk hc hcell fin hcd) hd
theorem pe_int {i j pos} : PE X (.Constant (.int i) j pos) (tC (.int i)) := λ _ _ _ H _ I h => wpAny_Constant_int ⟨.int i, H, I.tok _, ⟨_, rfl⟩, h⟩
theorem pe_bl {b j pos} : PE X (.Constant (.bool b) j pos) (tC (.bl b)) := λ _ _ _ H _ I h => Constant_bool ⟨.bl b, H, I, rfl, h⟩
theorem pe_non {j pos} : PE X (.Constant .none j pos) (tC .non) := λ _ _ _ H _ I h => Constant_none ⟨.non, H, I, rfl, h⟩
theorem pe_str {x j pos} : PE X (.Constant (.str x) j pos) (tC (.str x)) := λ _ _ _ H _ I h => Calls.Constant_str ⟨.str x, H, I.tok _, ⟨_, rfl⟩, h⟩
noncomputable def Gl (X : Cx) (x : Str) : Prop := X.env.kindOf x = some .globalImplicit
theorem ld_glob {E : Value -> Shared -> Prop} {pins : List (Addr × Obj)} {s : Shared} {σ : St} {H : Hp} {x : Str} {u : Value} {pos : Pos} {Q : Value -> Shared -> Prop} (I : Inv X pins σ H s) (hg : Gl X x) (hm : X.mg x = some u) (h : Q u s)
    (hd : (x == ("__debug__" : Str)) = false := by decide) : wpAny (model X.prog X.w) X.A (eval (.Name x pos) X.env) Q E s :=
  Calls.Name_function_global I.ok.kind hg (Calls.loadGlobal_global (by rw [I.ok.glob]; exact I.mod.glob.keeps I.bk) hm h) hd
theorem ld_blt {E : Value -> Shared -> Prop} {pins : List (Addr × Obj)} {s : Shared} {σ : St} {H : Hp} {x : Str} {u : Value} {pos : Pos} {Q : Value -> Shared -> Prop} (I : Inv X pins σ H s) (hg : Gl X x) (hm : X.mg x = none) (hv : bootBuiltins x = some u) (h : Q u s)
    (hn : x ≠ "__name__" := by decide) (hd : (x == ("__debug__" : Str)) = false := by decide) : wpAny (model X.prog X.w) X.A (eval (.Name x pos) X.env) Q E s := by
  obtain ⟨mb, h1, h2⟩ := I.mod.blt
  exact Calls.Name_function_global I.ok.kind hg (Calls.loadGlobal_builtin (by rw [I.ok.glob]; exact I.mod.glob.keeps I.bk) hm (by rw [I.ok.blt]; exact h1.keeps I.bk) ((h2 x hn).trans hv) h) hd
theorem pe_glob {x : Str} {v : V} {u : Value} {pos : Pos} (hg : Gl X x) (hm : X.mg x = some u) (r : RelV v u) (hd : (x == ("__debug__" : Str)) = false := by decide) : PE X (.Name x pos) (tC v) :=
  λ _ _ _ H _ I h => ld_glob I hg hm ⟨v, H, I, r, h⟩ hd
theorem pe_bltn {x : Str} {v : V} {u : Value} {pos : Pos} (hg : Gl X x) (hm : X.mg x = none) (hv : bootBuiltins x = some u) (r : RelV v u) (hn : x ≠ "__name__" := by decide) (hd : (x == ("__debug__" : Str)) = false := by decide) : PE X (.Name x pos) (tC v) :=
  λ _ _ _ H _ I h => ld_blt I hg hm hv ⟨v, H, I, r, h⟩ hn hd
variable {a b : Expr} {ta tb : TE} {pos : Pos}
variable {tA tB' : TT} {rest : List Expr}
noncomputable def tAnd (t u : TT) : TT := λ σ H Q => t σ H λ c H1 => if c = true then u σ H1 Q else Q false H1
noncomputable def tOr (t u : TT) : TT := λ σ H Q => t σ H λ c H1 => if c = true then Q true H1 else u σ H1 Q
noncomputable def tNot (t : TT) : TT := λ σ H Q => t σ H λ c H1 => Q (!c) H1
theorem pw_and1 (ha : PT X a tA) : PW X (.BoolOp .And [a] pos) tA := by
  intro wh pins s σ H Q I h
  refine isTrue_and (thn (ha pins s σ H Q I h) λ c s1 e => ?_)
  cases c with
  | true => exact isTrue_and_nil e
  | false => exact e
theorem pw_or1 (ha : PT X a tA) : PW X (.BoolOp .Or [a] pos) tA := by
  intro wh pins s σ H Q I h
  refine isTrue_or (thn (ha pins s σ H Q I h) λ c s1 e => ?_)
  cases c with
  | false => exact isTrue_or_nil e
  | true => exact e
theorem pw_and (ha : PT X a tA) (hb : PW X (.BoolOp .And (b :: rest) pos) tB') : PW X (.BoolOp .And (a :: b :: rest) pos) (tAnd tA tB') := by
  intro wh pins s σ H Q I h
  refine isTrue_and (thn (ha pins s σ H _ I h) λ c s1 ⟨H1, I1, q1⟩ => ?_)
  cases c with
  | true => exact hb wh pins s1 σ H1 Q I1 q1
  | false => exact ⟨H1, I1, q1⟩
theorem pw_or (ha : PT X a tA) (hb : PW X (.BoolOp .Or (b :: rest) pos) tB') : PW X (.BoolOp .Or (a :: b :: rest) pos) (tOr tA tB') := by
  intro wh pins s σ H Q I h
  refine isTrue_or (thn (ha pins s σ H _ I h) λ c s1 ⟨H1, I1, q1⟩ => ?_)
  cases c with
  | true => exact ⟨H1, I1, q1⟩
  | false => exact hb wh pins s1 σ H1 Q I1 q1
theorem pt_not (ha : PT X a tA) : PT X (.UnaryOp .Not a pos) (tNot tA) := by
  intro pins s σ H Q I h
  exact isTrue_not (ha pins s σ H (λ c H1 => Q (!c) H1) I h)
noncomputable def tAndV (ta tb : TE) : TE := λ σ H Q => ta σ H λ x H1 => ∃ c, x = .bl c /\ if c = true then tb σ H1 Q else Q (.bl false) H1
noncomputable def tOrV (ta tb : TE) : TE := λ σ H Q => ta σ H λ x H1 => ∃ c, x = .bl c /\ if c = true then Q (.bl true) H1 else tb σ H1 Q
noncomputable def tNotV (ta : TE) : TE := λ σ H Q => ta σ H λ x H1 => ∃ c, x = .bl c /\ Q (.bl (!c)) H1
theorem pe_one {op} {t : TE} (h : PE X a t) : PE X (.BoolOp op [a] pos) t := λ pins s σ H Q I hw => BoolOp_one (h pins s σ H Q I hw)
theorem pe_and (ha : PE X a ta) (hb : PE X (.BoolOp .And (b :: rest) pos) tb) : PE X (.BoolOp .And (a :: b :: rest) pos) (tAndV ta tb) := by
  intro pins s σ H Q I h
  refine BoolOp_and (thn (ha pins s σ H _ I h) λ v s1 ⟨x, H1, I1, r1, q1⟩ => ?_)
  obtain ⟨c, rfl, q1⟩ := q1
  cases r1
  refine wpAny_truthy_bool ?_
  cases c with
  | true => exact hb pins s1 σ H1 Q I1 q1
  | false => exact ⟨.bl false, H1, I1, rfl, q1⟩
theorem pe_or (ha : PE X a ta) (hb : PE X (.BoolOp .Or (b :: rest) pos) tb) : PE X (.BoolOp .Or (a :: b :: rest) pos) (tOrV ta tb) := by
  intro pins s σ H Q I h
  refine BoolOp_or (thn (ha pins s σ H _ I h) λ v s1 ⟨x, H1, I1, r1, q1⟩ => ?_)
  obtain ⟨c, rfl, q1⟩ := q1
  cases r1
  refine wpAny_truthy_bool ?_
  cases c with
  | false => exact hb pins s1 σ H1 Q I1 q1
  | true => exact ⟨.bl true, H1, I1, rfl, q1⟩
theorem pe_not (ha : PE X a ta) : PE X (.UnaryOp .Not a pos) (tNotV ta) := by
  intro pins s σ H Q I h
  refine UnaryOp_ (thn (ha pins s σ H _ I h) λ v s1 ⟨x, H1, I1, r1, q1⟩ => ?_)
  obtain ⟨c, rfl, q1⟩ := q1
  cases r1
  exact not_of (wpAny_truthy_bool ⟨.bl (!c), H1, I1, rfl, q1⟩)
noncomputable def tIf (t : TT) (ta tb : TE) : TE := λ σ H Q => t σ H λ c H1 => if c = true then ta σ H1 Q else tb σ H1 Q
theorem pe_ifExp {c : Expr} (hc : PT X c tA) (ha : PE X a ta) (hb : PE X b tb) : PE X (.IfExp c a b pos) (tIf tA ta tb) := by
  intro pins s σ H Q I h
  refine wpAny_IfExp (thn (hc pins s σ H _ I h) λ d s1 ⟨H1, I1, q1⟩ => ?_)
  cases d with
  | true => exact ha pins s1 σ H1 Q I1 q1
  | false => exact hb pins s1 σ H1 Q I1 q1
end
end L2
namespace L2
open PySem PySem.Spec PyProof.Rows
noncomputable def SqL (K : PySem.W.Frag) (H : Hp) (a : Addr) (xs : List V) : Prop :=
  Rd H a (.lst xs) ∨
    ∃ (o : Obj) (its : Array Value) (n : Nat), K.lookup a = some o /\ o.cls = .type "list" /\ o.dict = none /\ o.data = .seq its n /\ its.size <= sizeLine /\ Vals xs its.toList
noncomputable def SqT (K : PySem.W.Frag) (H : Hp) (a : Addr) (xs : List V) : Prop :=
  Rd H a (.tup xs) ∨
    ∃ (o : Obj) (its : Array Value) (n : Nat), K.lookup a = some o /\ o.cls = .type "tuple" /\ o.data = .seq its n /\ its.size <= sizeLine /\ Vals xs its.toList
noncomputable def absV : Value -> Option V
  | .none => some .non
  | .bool b => some (.bl b)
  | .int i _ => some (.int i)
  | .str x _ => some (.str x)
  | .bytes b _ => some (.byt b)
  | .float b _ => some (.flt b)
  | .ref a => some (.ref a)
  | .type n => some (.ty n)
  | _ => none
theorem RelV.abs {x : V} {u : Value} (r : RelV x u) : absV u = some x := by
  cases x with
  | non => cases r; rfl
  | bl _ => cases r; rfl
  | int _ => obtain ⟨t, rfl⟩ := r; rfl
  | str _ => obtain ⟨t, rfl⟩ := r; rfl
  | byt _ => obtain ⟨t, rfl⟩ := r; rfl
  | flt _ => obtain ⟨t, rfl⟩ := r; rfl
  | ref _ => cases r; rfl
  | ty _ => cases r; rfl
theorem RelV.inj {x y : V} {u : Value} (r : RelV x u) (q : RelV y u) : x = y := Option.some.inj (r.abs.symm.trans q.abs)
theorem Vals.inj : ∀ {xs ys : List V} {us : List Value}, Vals xs us -> Vals ys us -> xs = ys
  | _, _, _, .nil, .nil => rfl
  | _, _, _, .cons r t, .cons r' t' => by rw [r.inj r', Vals.inj t t']
section
variable {X : Cx} {pins : List (Addr × Obj)} {σ : St} {H : Hp} {s : Shared} {a : Addr} {xs ys : List V}
theorem Inv.list (I : Inv X pins σ H s) (h : SqL X.K H a xs) : ∃ its : List Value, Vals xs its /\ PlainL s.heap a its.toArray /\ xs.length <= sizeLine := by
  rcases h with h | ⟨o, its, n, hk, hc, hd, hs, hz, r⟩
  . obtain ⟨z, its, n, r, e⟩ := h.ok I.hok
    exact ⟨its, r, ⟨_, n, e, rfl, rfl, rfl⟩, z⟩
  . refine ⟨its.toList, r, ⟨o, n, I.kIn a o hk, hc, hd, by simpa using hs⟩, ?_⟩
    have e := r.length
    simp only [Array.length_toList] at e
    omega
theorem Inv.tuple (I : Inv X pins σ H s) (h : SqT X.K H a xs) : ∃ its : List Value, Vals xs its /\ IsTup s.heap a its.toArray /\ xs.length <= sizeLine := by
  rcases h with h | ⟨o, its, n, hk, hc, hs, hz, r⟩
  . obtain ⟨z, its, r, p⟩ := h.ok I.hok
    exact ⟨its, r, p, z⟩
  . refine ⟨its.toList, r, ⟨o, I.kIn a o hk, hc, n, by simpa using hs⟩, ?_⟩
    have e := r.length
    simp only [Array.length_toList] at e
    omega
theorem Inv.list_inj (I : Inv X pins σ H s) (h : SqL X.K H a xs) (h' : SqL X.K H a ys) : xs = ys := by
  obtain ⟨its, r, ⟨o, n, e, _, _, d⟩, _⟩ := I.list h
  obtain ⟨its', r', ⟨o', n', e', _, _, d'⟩, _⟩ := I.list h'
  rw [e] at e'; cases e'
  rw [d] at d'
  injection d' with d1 _
  have : its = its' := by simpa using congrArg Array.toList d1
  subst this
  exact r.inj r'
theorem Inv.tuple_inj (I : Inv X pins σ H s) (h : SqT X.K H a xs) (h' : SqT X.K H a ys) : xs = ys := by
  obtain ⟨its, r, ⟨o, e, _, n, d⟩, _⟩ := I.tuple h
  obtain ⟨its', r', ⟨o', e', _, n', d'⟩, _⟩ := I.tuple h'
  rw [e] at e'; cases e'
  rw [d] at d'
  injection d' with d1 _
  have : its = its' := by simpa using congrArg Array.toList d1
  subst this
  exact r.inj r'
end
noncomputable abbrev Cx.wish (X : Cx) (E : Value -> Shared -> Prop) : Cx := { X with xe := E }
noncomputable abbrev Cx.nox (X : Cx) : Cx := X.wish λ _ _ => False
theorem Cx.Ok.wish {X : Cx} (ok : X.Ok) (E : Value -> Shared -> Prop) : (X.wish E).Ok :=
  ⟨ok.mod, ok.kind, ok.glob, ok.blt, ok.above, ok.inj, ok.has, ok.cab, ok.hd, ok.frames, ok.stk, ok.exf, ok.bs, ok.bsz, ok.noex, ok.exfs, ok.funs, ok.frf⟩
theorem Cx.Ok.unwish {X : Cx} {E : Value -> Shared -> Prop} (ok : (X.wish E).Ok) : X.Ok :=
  ⟨ok.mod, ok.kind, ok.glob, ok.blt, ok.above, ok.inj, ok.has, ok.cab, ok.hd, ok.frames, ok.stk, ok.exf, ok.bs, ok.bsz, ok.noex, ok.exfs, ok.funs, ok.frf⟩
section
variable {X : Cx} {pins : List (Addr × Obj)} {σ : St} {H : Hp} {s : Shared} {E : Value -> Shared -> Prop}
theorem Inv.wish (I : Inv X pins σ H s) (E : Value -> Shared -> Prop) : Inv (X.wish E) pins σ H s := ⟨I.ok.wish E, I.os, I.bare, I.base, I.loc, I.cell, I.free, I.freeC, I.pin, I.hok, I.len⟩
theorem Inv.unwish (I : Inv (X.wish E) pins σ H s) : Inv X pins σ H s := ⟨I.ok.unwish, I.os, I.bare, I.base, I.loc, I.cell, I.free, I.freeC, I.pin, I.hok, I.len⟩
theorem SP.unwish {D : Ends} {f : Flow} {s' : Shared} (h : SP (X.wish E) pins D f s') : SP X pins D f s' := by
  cases f with
  | next => obtain ⟨σ', H', I, q⟩ := h; exact ⟨σ', H', I.unwish, q⟩
  | brk => obtain ⟨σ', H', I, q⟩ := h; exact ⟨σ', H', I.unwish, q⟩
  | cont => obtain ⟨σ', H', I, q⟩ := h; exact ⟨σ', H', I.unwish, q⟩
  | ret u => obtain ⟨v, σ', H', I, r, q⟩ := h; exact ⟨v, σ', H', I.unwish, r, q⟩
theorem PSs.nox {st : List Stmt} {t : TS} (h : PSs X.nox st t) : PSs X st t := λ pins s σ H D I hw =>
  wpAny_mono (h pins s σ H D (I.wish _) hw) (λ _ _ q => q.unwish) λ _ _ z => False.elim z
end
section
variable {X : Cx} {st : Stmt} {rest : List Stmt} {t u : TS} {e : Expr} {te : TE} {pos : Pos}
noncomputable def tNext : TS := λ D σ H => D.nx σ H
noncomputable def tSeq (t u : TS) : TS := λ D σ H => t { D with nx := u D } σ H
theorem pss_nil : PSs X [] tNext := λ _ _ σ H _ I h => wpAny_execs_nil ⟨σ, H, I, h⟩
theorem pss_cons (h1 : PS X st t) (h2 : PSs X rest u) : PSs X (st :: rest) (tSeq t u) := by
  intro pins s σ H D I h
  refine wpAny_execs_cons (thn (h1 pins s σ H { D with nx := u D } I h) λ f s1 q => ?_)
  cases f with
  | next =>
    obtain ⟨σ', H', I', q⟩ := q
    exact h2 pins s1 σ' H' D I' q
  | ret v => exact q
  | brk => exact q
  | cont => exact q
theorem pss_one (h1 : PS X st t) : PSs X [st] t := by
  intro pins s σ H D I h
  refine wpAny_execs_cons (thn (h1 pins s σ H D I h) λ f s1 q => ?_)
  cases f with
  | next => exact wpAny_execs_nil q
  | ret v => exact q
  | brk => exact q
  | cont => exact q
theorem ps_pass : PS X (.Pass pos) tNext := λ _ _ σ H _ I h => wpAny_Pass ⟨σ, H, I, h⟩
theorem Inv.quiet {pins : List (Addr × Obj)} {σ : St} {H : Hp} {s : Shared} (I : Inv X pins σ H s) : interactive X.env = false := by simp [interactive, I.ok.kind]
theorem ps_doc {x j pos pos'} : PS X (.Expr (.Constant (.str x) j pos) pos') tNext := λ _ s σ H _ I h => wpAny_Expr (Calls.Constant_str (show SP X _ _ .next { s with toks := s.toks + 1 } from ⟨σ, H, I.tok _, h⟩)) I.quiet
noncomputable def tDrop (te : TE) : TS := λ D σ H => te σ H λ _ H1 => D.nx σ H1
theorem ps_expr (he : PE X e te) (hs : swapsWith e none pos.line X.env = pure false := by rfl) : PS X (.Expr e pos) (tDrop te) := by
  intro pins s σ H D I h
  exact wpAny_Expr_any (thn (he pins s σ H _ I h) λ v s1 ⟨x, H1, I1, r1, q1⟩ => ⟨σ, H1, I1, q1⟩) I.quiet hs
noncomputable def tRet (te : TE) : TS := λ D σ H => te σ H D.rt
theorem ps_ret (he : PE X e te) : PS X (.Return (some e) pos) (tRet te) := by
  intro pins s σ H D I h
  exact wpAny_Return_some (thn (he pins s σ H _ I h) λ v s1 ⟨x, H1, I1, r1, q1⟩ => ⟨x, σ, H1, I1, r1, q1⟩)
noncomputable def tRetN : TS := λ D _ H => D.rt .non H
theorem ps_retN : PS X (.Return none pos) tRetN := λ _ _ σ H _ I h => wpAny_Return_none ⟨.non, σ, H, I, rfl, h⟩
noncomputable def tIfS (c : TT) (t u : TS) : TS := λ D σ H => c σ H λ b H1 => if b = true then t D σ H1 else u D σ H1
theorem ps_if {c : Expr} {a b : List Stmt} {tc : TT} (hc : PT X c tc) (ha : PSs X a t) (hb : PSs X b u) : PS X (.If c a b pos) (tIfS tc t u) := by
  intro pins s σ H D I h
  refine wpAny_If (thn (hc pins s σ H _ I h) λ d s1 ⟨H1, I1, q1⟩ => ?_)
  cases d with
  | true => exact ha pins s1 σ H1 D I1 q1
  | false => exact hb pins s1 σ H1 D I1 q1
end
noncomputable abbrev TG := V -> St -> Hp -> (St -> Hp -> Prop) -> Prop
noncomputable abbrev TGs := List V -> St -> Hp -> (St -> Hp -> Prop) -> Prop
noncomputable def PG (X : Cx) (target : Expr) (t : TG) : Prop :=
  ∀ (pins : List (Addr × Obj)) (s : Shared) (σ : St) (H : Hp) (v : V) (u : Value) (Q : St -> Hp -> Prop), Inv X pins σ H s -> RelV v u -> t v σ H Q →
    wpAny (model X.prog X.w) X.A (assign target X.env u) (λ _ s' => ∃ σ' H', Inv X pins σ' H' s' /\ Q σ' H') X.xe s
noncomputable def PGs (X : Cx) (ts : List Expr) (t : TGs) : Prop :=
  ∀ (pins : List (Addr × Obj)) (s : Shared) (σ : St) (H : Hp) (vs : List V) (us : List Value) (Q : St -> Hp -> Prop), Inv X pins σ H s -> Vals vs us -> t vs σ H Q →
    wpAny (model X.prog X.w) X.A (assignInOrder ((assignEach ts X.env).map (·.2)) us) (λ _ s' => ∃ σ' H', Inv X pins σ' H' s' /\ Q σ' H') X.xe s
noncomputable abbrev TSet := V -> V -> V -> Hp -> (Hp -> Prop) -> Prop
noncomputable def PSet (X : Cx) (t : TSet) : Prop :=
  ∀ (pins : List (Addr × Obj)) (s : Shared) (σ : St) (H : Hp) (o i v : V) (ov iv u : Value) (Q : Hp -> Prop), Inv X pins σ H s -> RelV o ov -> RelV i iv -> RelV v u -> t o i v H Q →
    wpAny (model X.prog X.w) X.A (setItem ov iv u) (λ _ s' => ∃ H', Inv X pins σ H' s' /\ Q H') X.xe s
section
variable {X : Cx} {pos : Pos}
noncomputable def gName (i : Nat) : TG := λ v σ H Q => Q (σ.set i (some v)) H
theorem pg_name {i : Nat} {x : Str} (hN : X.N.Nodup) (hi : X.N[i]? = some x) (hx : Loc X.env.scope x) (hf : X.fn x = true \/ X.env.scope.names.lookup x = some .local := by first | exact .inl rfl | exact .inr rfl | assumption) : PG X (.Name x pos) (gName i) := by
  intro pins s σ H v u Q I r h
  exact wpAny_assign_Name (store_ok I hN hi hx r (λ s' I' => ⟨_, H, I', h⟩) hf)
noncomputable def gNil : TGs := λ vs σ H Q => vs = [] /\ Q σ H
noncomputable def gCons (t : TG) (u : TGs) : TGs := λ vs σ H Q => ∃ v r, vs = v :: r /\ t v σ H λ σ' H' => u r σ' H' Q
theorem pgs_nil : PGs X [] gNil := by
  intro pins s σ H vs us Q I r h
  obtain ⟨e, h⟩ := h
  subst e
  cases r
  exact assignInOrder_nil ⟨σ, H, I, h⟩
theorem pgs_cons {e : Expr} {es : List Expr} {t : TG} {u : TGs} (h1 : PG X e t) (h2 : PGs X es u)
    (hs : (assignEach (e :: es) X.env).map (·.2) = assign e X.env :: (assignEach es X.env).map (·.2) := by rfl) : PGs X (e :: es) (gCons t u) := by
  intro pins s σ H vs us Q I r h
  obtain ⟨v, vr, e1, h⟩ := h
  subst e1
  cases r with
  | cons r rr =>
    rw [hs]
    refine assignInOrder_cons (thn (h1 pins s σ H _ _ _ I r h) λ _ s1 ⟨σ1, H1, I1, q1⟩ => ?_)
    exact h2 pins s1 σ1 H1 _ _ Q I1 rr q1
noncomputable def gTup (K : PySem.W.Frag) (n : Nat) (t : TGs) : TG := λ v σ H Q => ∃ a xs, v = .ref a /\ SqT K H a xs /\ xs.length = n /\ t xs σ H Q
theorem pg_tup {es : List Expr} {k : Nat} {t : TGs} {n : Nat} (hc : X.calm = true) (h : PGs X es t)
    (hn : (assignEach es X.env).length = n := by rfl) (hst : (assignEach es X.env).findIdx? (·.1) = none := by rfl) : PG X (.Tuple es k pos) (gTup X.K n t) := by
  intro pins s σ H v u Q I r hw
  obtain ⟨a, xs, e1, hq, hl, hw⟩ := hw
  subst e1
  cases r
  obtain ⟨its, rv, ht, hz⟩ := I.tuple hq
  refine assign_Tuple_tuple (I.ok.hd hc) ht (by simp [hn, <- hl, rv.length]) hst λ h' hx => ?_
  have I1 : Inv X pins σ H { s with heap := h' } := I.kept (t' := s.toks) λ b o e => hx b o (Nat.ne_of_lt (Heap.lt_size e)) e
  exact h pins _ σ H xs _ Q I1 (by simpa using rv) hw
noncomputable def gSub (to ti : TE) (t : TSet) : TG := λ v σ H Q => to σ H λ o H1 => ti σ H1 λ i H2 => t o i v H2 λ H3 => Q σ H3
theorem pg_sub {o i : Expr} {to ti : TE} {t : TSet} (ho : PE X o to) (hi : PE X i ti) (hs : PSet X t)
    (ha : ∀ v, assign (.Subscript o i pos) X.env v = (do
      let ov ← holding [v] (eval o X.env)
      let iv ← holding [v, ov] (eval i X.env)
      standAt pos
      holding [v, ov, iv] (setItem ov iv v)
      release [v, ov, iv] []) := by intro _; rfl) : PG X (.Subscript o i pos) (gSub to ti t) := by
  intro pins s σ H v u Q I r h
  rw [ha]
  refine wpAny_bind (wpAny_holding (thn (ho pins s σ H _ I h) λ ov s1 ⟨x, H1, I1, r1, q1⟩ => ?_))
  refine wpAny_bind (wpAny_holding (thn (hi pins s1 σ H1 _ I1 q1) λ iv s2 ⟨y, H2, I2, r2, q2⟩ => ?_))
  refine wpAny_bind (wpAny_standAt (wpAny_bind (wpAny_holding (thn (hs pins s2 σ H2 x y v ov iv u _ I2 r1 r2 r q2) λ _ s3 ⟨H3, I3, q3⟩ => ?_))))
  exact wpAny_release ⟨σ, H3, I3, q3⟩
noncomputable def tAsg (te : TE) (g : TG) : TS := λ D σ H => te σ H λ x H1 => g x σ H1 D.nx
theorem ps_asg {tg e : Expr} {te : TE} {g : TG} (he : PE X e te) (hg : PG X tg g) (hs : swapsWithSole [tg] e pos.line X.env = pure false := by rfl) (hw : swappedStores [tg] e X.env = pure none := by rfl)
    (h1 : (assignEach [tg] X.env).map (·.2) = [assign tg X.env] := by rfl) : PS X (.Assign [tg] e pos) (tAsg te g) := by
  intro pins s σ H D I h
  refine wpAny_Assign_stores (thn (he pins s σ H _ I h) λ v s1 ⟨x, H1, I1, r1, q1⟩ => ?_) hs hw
  rw [h1]
  exact thn (hg pins s1 σ H1 x v _ I1 r1 q1) λ _ s2 q => q
theorem ps_set {i : Nat} {x : Str} {e : Expr} {te : TE} {pos' : Pos} (hN : X.N.Nodup) (hi : X.N[i]? = some x) (hx : Loc X.env.scope x) (he : PE X e te) (hs : swapsWith e (some (.Name x pos')) pos.line X.env = pure false := by rfl) (hf : X.fn x = true \/ X.env.scope.names.lookup x = some .local := by first | exact .inl rfl | exact .inr rfl | assumption) :
    PS X (.Assign [.Name x pos'] e pos) (tAsg te (gName i)) := by
  intro pins s σ H D I h
  refine wpAny_Assign_Name (thn (he pins s σ H _ I h) λ v s1 ⟨y, H1, I1, r1, q1⟩ => ?_) hs
  exact store_ok I1 hN hi hx r1 (λ s2 I2 => ⟨_, H1, I2, q1⟩) hf
end
section
variable {X : Cx} {pos : Pos}
end
structure It where
  go : Nat -> Hp -> Prop
  yld : Nat -> Hp -> V -> Hp -> Prop
  stop : Nat -> Hp -> Prop
noncomputable def FpOk (X : Cx) (pins : List (Addr × Obj)) (H : Hp) (b : Addr) : Prop :=
  H b = none /\ b ≠ X.env.locals /\ b ∉ X.fs /\ (b ∈ X.ex \/ X.s₀.heap.objs.size <= b) /\ (∀ x c, X.env.cells.lookup x = some c -> c ≠ b) /\ ∀ p ∈ X.pn ++ pins, p.1 ≠ b
theorem Inv.fpOk {X : Cx} {pins : List (Addr × Obj)} {σ : St} {H H' : Hp} {s : Shared} {b : Addr} (I : Inv X pins σ H s) (hb : s.heap.objs.size <= b) (hn : H' b = none) : FpOk X pins H' b := by
  refine ⟨hn, Nat.ne_of_gt (Nat.lt_of_lt_of_le I.lt hb), I.nofs hb, .inr (Nat.le_trans I.sz hb), λ x c e z => ?_, λ p hp z => ?_⟩
  . obtain ⟨v, q⟩ := I.cell x c e
    exact absurd (Nat.lt_of_lt_of_le q.lt (by rw [z]; exact hb)) (Nat.lt_irrefl _)
  . exact absurd (Nat.lt_of_lt_of_le (Heap.lt_size (I.pin p hp).1) (by rw [z]; exact hb)) (Nat.lt_irrefl _)
structure Turn (P : Program) (w : World) (K : PySem.W.Frag) (tg : Expr) (J : It) (fp : List Addr) (it : Addr) (tn : Nat -> Heap -> Prop) : Prop where
  mem : it ∈ fp
  obj : ∀ i h, tn i h -> ∀ b ∈ fp, ∃ o, h.get? b = some o /\ ∀ v, o.data ≠ .cell v
  keep : ∀ i h h', tn i h -> (∀ b ∈ fp, ∀ o, h.get? b = some o -> h'.get? b = some o) -> tn i h'
  item : ∀ (X : Cx), X.prog = P -> X.w = w -> X.K = K -> X.calm = true -> ∀ (i : Nat) (pins : List (Addr × Obj)) (s : Shared) (σ : St) (H : Hp) (E : Value -> Shared -> Prop), Inv X pins σ H s -> (∀ b ∈ fp, FpOk X pins H b) -> tn i s.heap -> J.go i H →
    wpAny (model P w) X.A (pyNext (.ref it)) (λ r s1 => ∃ u, r = some u ∧
      wpAny (model P w) X.A (letOwnedTupleGo tg (.ref it) u) (λ _ s2 => ∃ x H', Inv X pins σ H' s2 /\ RelV x u /\ J.yld i H x H' /\ tn (i + 1) s2.heap /\ ∀ b ∈ fp, H' b = none) E s1) E s
  done : ∀ (X : Cx), X.prog = P -> X.w = w -> X.K = K -> X.calm = true -> ∀ (i : Nat) (pins : List (Addr × Obj)) (s : Shared) (σ : St) (H : Hp) (E : Value -> Shared -> Prop), Inv X pins σ H s -> (∀ b ∈ fp, FpOk X pins H b) -> tn i s.heap -> J.stop i H →
    wpAny (model P w) X.A (pyNext (.ref it)) (λ r s1 => r = none /\ Inv X pins σ H s1) E s
  self : ∀ (A : Around) (i : Nat) (s : Shared) (Q : Value -> Shared -> Prop) (E : Value -> Shared -> Prop), tn i s.heap -> Q (.ref it) s -> wpAny (model P w) A (pyIter (.ref it)) Q E s
noncomputable abbrev TI := St -> Hp -> (It -> Hp -> Prop) -> Prop
noncomputable def PIE (X : Cx) (pins : List (Addr × Obj)) (σ : St) (tg : Expr) (R : It -> Hp -> Prop) (itv : Value) (s2 : Shared) : Prop :=
  ∃ (it : Addr) (fp : List Addr) (tn : Nat -> Heap -> Prop) (J : It) (H' : Hp), itv = .ref it /\ Inv X pins σ H' s2 /\ Turn X.prog X.w X.K tg J fp it tn /\ tn 0 s2.heap /\ (∀ b ∈ fp, FpOk X pins H' b) /\ R J H'
noncomputable def PI (X : Cx) (tg iter : Expr) (wi : TI) : Prop :=
  ∀ (pins : List (Addr × Obj)) (s : Shared) (σ : St) (H : Hp) (R : It -> Hp -> Prop), Inv X pins σ H s -> wi σ H R →
    wpAny (model X.prog X.w) X.A (eval iter X.env) (λ v s1 => wpAny (model X.prog X.w) X.A (pyIter v) (PIE X pins σ tg R) X.xe s1) X.xe s
theorem go_of {M : Model} {A : Around} {E : Value -> Shared -> Prop} {s : Shared} {tg : Expr} {it : Addr} {u : Value} {o : Obj} {n : String} {vs : Array Value} {Q : Unit -> Shared -> Prop} (ho : s.heap.get? it = some o) (hc : o.cls = .type n) (hd : o.data = .fields vs)
    (hn : ["enumerate", "zip", "dict_itemiterator", "dict_reverseitemiterator", "odict_iterator", "itertools.zip_longest", "itertools.pairwise"].contains n = false) (hQ : Q () s) : wpAny M A (letOwnedTupleGo tg (.ref it) u) Q E s := by
  unfold letOwnedTupleGo
  cases tg <;> first
    | exact wpAny_pure hQ
    | (cases u <;> first
        | exact wpAny_pure hQ
        | (refine wpAny_bind (wpAny_load ho ?_)
           rw [hc, hd]
           show wpAny M A (if (["enumerate", "zip", "dict_itemiterator", "dict_reverseitemiterator", "odict_iterator", "itertools.zip_longest", "itertools.pairwise"].contains n && vs[0]? == some (rawInt _)) = true then _ else _) Q E s
           rw [if_neg (by intro h; rw [hn, Bool.false_and] at h; cases h)]
           exact wpAny_pure hQ))
noncomputable def Itl (K : PySem.W.Frag) (a : Addr) : It :=
  ⟨λ i H => ∃ xs x, SqL K H a xs /\ xs[i]? = some x, λ i H x H' => H' = H /\ ∀ xs, SqL K H a xs -> xs[i]? = some x, λ i H => ∃ xs, SqL K H a xs /\ xs.length <= i⟩
noncomputable def Itt (K : PySem.W.Frag) (a : Addr) : It :=
  ⟨λ i H => ∃ xs x, SqT K H a xs /\ xs[i]? = some x, λ i H x H' => H' = H /\ ∀ xs, SqT K H a xs -> xs[i]? = some x, λ i H => ∃ xs, SqT K H a xs /\ xs.length <= i⟩
noncomputable def Itr (lo : Int) (n : Nat) : It := ⟨λ i _ => i < n, λ i H x H' => H' = H /\ x = .int (lo + i), λ i _ => n <= i⟩
theorem turn_list {P : Program} {w : World} {K : PySem.W.Frag} {tg : Expr} (a it : Addr) : Turn P w K tg (Itl K a) [it] it (λ i h => h.IsListIter it a i) where
  mem := by simp
  obj := λ i h st b hb => by
    have e : b = it := by simpa using hb
    subst e
    obtain ⟨o, e, c, d⟩ := st
    exact ⟨o, e, λ v z => by rw [d] at z; cases z⟩
  keep := λ i h h' st k => st.at λ o e => k it (by simp) o e
  item := by
    intro X hP hw hK hc i pins s σ H E I hf st hg
    subst hP hw hK
    obtain ⟨xs, x, hq, hx⟩ := hg
    obtain ⟨its, rv, p, hz⟩ := I.list hq
    obtain ⟨u, hu, ru⟩ := rv.get hx
    obtain ⟨f0, f1, f2, f3, f4, f5⟩ := hf it (by simp)
    refine wpAny_pyNext_list_item st p.isList (x := u) (by simpa using hu) λ h' st' sb => ?_
    have I1 : Inv X pins σ H { s with heap := h' } := I.turned (t' := s.toks) (λ b o hb e => (sb.2 b hb).trans e) f0 f1 f3 f4 f5
    obtain ⟨o, e, c, d⟩ := id st'
    exact ⟨u, rfl, go_of (s := { s with heap := h' }) e c d (by decide) ⟨x, H, I1, ru, ⟨rfl, λ ys hy => by rw [I.list_inj hy hq]; exact hx⟩, st', λ b hb => (hf b hb).1⟩⟩
  done := by
    intro X hP hw hK hc i pins s σ H E I hf st hg
    subst hP hw hK
    obtain ⟨xs, hq, hx⟩ := hg
    obtain ⟨its, rv, p, hz⟩ := I.list hq
    obtain ⟨f0, f1, f2, f3, f4, f5⟩ := hf it (by simp)
    have hl := rv.length
    exact wpAny_pyNext_list_end (I.ok.hd hc) st p.isList (by simp; omega) λ h' eb => ⟨rfl, I.turned (t' := s.toks) (λ b o hb e => eb b o hb e) f0 f1 f3 f4 f5⟩
  self := λ _ _ _ _ _ st h => wpAny_pyIter_listiter st h
theorem turn_tuple {P : Program} {w : World} {K : PySem.W.Frag} {tg : Expr} (a it : Addr) : Turn P w K tg (Itt K a) [it] it (λ i h => h.IsTupleIter it a i) where
  mem := by simp
  obj := λ i h st b hb => by
    have e : b = it := by simpa using hb
    subst e
    obtain ⟨o, e, c, d⟩ := st
    exact ⟨o, e, λ v z => by rw [d] at z; cases z⟩
  keep := λ i h h' st k => st.at λ o e => k it (by simp) o e
  item := by
    intro X hP hw hK hc i pins s σ H E I hf st hg
    subst hP hw hK
    obtain ⟨xs, x, hq, hx⟩ := hg
    obtain ⟨its, rv, p, hz⟩ := I.tuple hq
    obtain ⟨u, hu, ru⟩ := rv.get hx
    obtain ⟨f0, f1, f2, f3, f4, f5⟩ := hf it (by simp)
    refine wpAny_pyNext_tuple_item st (show s.heap.IsTuple a its.toArray from p) (x := u) (by simpa using hu) λ h' st' sb => ?_
    have I1 : Inv X pins σ H { s with heap := h' } := I.turned (t' := s.toks) (λ b o hb e => (sb.2 b hb).trans e) f0 f1 f3 f4 f5
    obtain ⟨o, e, c, d⟩ := id st'
    exact ⟨u, rfl, go_of (s := { s with heap := h' }) e c d (by decide) ⟨x, H, I1, ru, ⟨rfl, λ ys hy => by rw [I.tuple_inj hy hq]; exact hx⟩, st', λ b hb => (hf b hb).1⟩⟩
  done := by
    intro X hP hw hK hc i pins s σ H E I hf st hg
    subst hP hw hK
    obtain ⟨xs, hq, hx⟩ := hg
    obtain ⟨its, rv, p, hz⟩ := I.tuple hq
    obtain ⟨f0, f1, f2, f3, f4, f5⟩ := hf it (by simp)
    have hl := rv.length
    exact wpAny_pyNext_tuple_end (I.ok.hd hc) st (show s.heap.IsTuple a its.toArray from p) (by simp; omega) λ h' eb => ⟨rfl, I.turned (t' := s.toks) (λ b o hb e => eb b o hb e) f0 f1 f3 f4 f5⟩
  self := λ _ _ _ _ _ st h => wpAny_pyIter_tupleiter st h
theorem turn_range {P : Program} {w : World} {K : PySem.W.Frag} {tg : Expr} (it : Addr) (lo : Int) (n : Nat) : Turn P w K tg (Itr lo n) [it] it (λ i h => IsRangeIter h it (lo + (i : Nat) * 1) ((n : Int) - (i : Nat)) 1) where
  mem := by simp
  obj := λ i h st b hb => by
    have e : b = it := by simpa using hb
    subst e
    exact ⟨_, st, λ v z => by
      have z' : Data.fields _ = Data.cell v := z
      cases z'⟩
  keep := λ i h h' st k => k it (by simp) _ st
  item := by
    intro X hP hw hK hc i pins s σ H E I hf st hg
    subst hP hw hK
    obtain ⟨f0, f1, f2, f3, f4, f5⟩ := hf it (by simp)
    have W := Walks.range (prog := X.prog) (w := X.w) (I.ok.hd hc) it lo 1 n
    refine W.item i s _ _ hg st λ v h' tk hv st' kk => ?_
    obtain ⟨t, rfl⟩ := hv
    have I1 : Inv X pins σ H { s with heap := h', toks := tk } := I.turned (λ b o hb e => kk b o (by simpa using hb) e) f0 f1 f3 f4 f5
    refine ⟨_, rfl, go_of (s := { s with heap := h', toks := tk }) (n := "range_iterator") st' rfl rfl (by decide) ⟨.int (lo + i), H, I1, ⟨t, ?_⟩, ⟨rfl, rfl⟩, st', λ b hb => (hf b hb).1⟩⟩
    rw [Int.mul_one]
  done := by
    intro X hP hw hK hc i pins s σ H E I hf st hg
    subst hP hw hK
    obtain ⟨f0, f1, f2, f3, f4, f5⟩ := hf it (by simp)
    exact wpAny_pyNext_range_end (I.ok.hd hc) st (by have : n <= i := hg; omega) λ h' eb => ⟨rfl, I.turned (t' := s.toks) (λ b o hb e => eb b o hb e) f0 f1 f3 f4 f5⟩
  self := λ _ _ _ _ _ st h => wpAny_pyIter_rangeiter st h
end L2
namespace L2
open PySem PySem.Spec PyProof.Rows
section
variable {X : Cx} {tg : Expr}
theorem range_it {pins : List (Addr × Obj)} {σ : St} {H : Hp} {s : Shared} {R : It -> Hp -> Prop} {E : Value -> Shared -> Prop} {lo hi : Int} {t u v : Tok} {tk : Nat} (I : Inv X pins σ H s) (h1 : -(2 ^ 62) <= lo) (h2 : lo < 2 ^ 62) (h3 : -(2 ^ 62) <= hi) (h4 : hi < 2 ^ 62)
    (q : R (Itr lo (hi - lo).toNat) H) : wpAny (model X.prog X.w) X.A (pyIter (.ref s.heap.objs.size)) (PIE X pins σ tg R) E { s with heap := s.heap.push { cls := .type "range", data := .fields #[.int lo t, .int hi u, .int 1 v] }, toks := tk } := by
  refine wpAny_pyIter_range (IsRange.new ..) (small_one h1 h2 h3 h4) ?_
  have I1 : Inv X pins σ H { s with heap := s.heap.push { cls := .type "range", data := .fields #[.int lo t, .int hi u, .int 1 v] }, toks := tk } := I.kept λ b o e => Heap.get?_push_of_some _ e
  refine ⟨(s.heap.push { cls := .type "range", data := .fields #[.int lo t, .int hi u, .int 1 v] }).objs.size, [(s.heap.push { cls := .type "range", data := .fields #[.int lo t, .int hi u, .int 1 v] }).objs.size], _, _, H, rfl,
    I1.kept (t' := tk) λ b o e => Heap.get?_push_of_some _ e, turn_range _ lo (hi - lo).toNat, ?_, λ b hb => ?_, q⟩
  . have e1 : lo + ((0 : Nat) : Int) * 1 = lo := by simp
    have e2 : (((hi - lo).toNat : Nat) : Int) - ((0 : Nat) : Int) = Builtin.Range.rangeSize lo hi 1 := by rw [rangeSize_one]; split <;> omega
    show IsRangeIter _ _ (lo + ((0 : Nat) : Int) * 1) ((((hi - lo).toNat : Nat) : Int) - ((0 : Nat) : Int)) 1
    rw [e1, e2]
    exact Heap.get?_push_size _ rfl
  . have e : b = (s.heap.push { cls := .type "range", data := .fields #[.int lo t, .int hi u, .int 1 v] }).objs.size := by simpa using hb
    subst e
    exact I1.fpOk (Nat.le_refl _) (I1.hok.fresh (Nat.le_refl _))
noncomputable def tFor (wi : TI) (g : TG) (tb : TS) : TS := λ D σ H => wi σ H λ J H1 => ∃ W : Nat -> Nat -> St -> Hp -> Prop, (∃ m, W 0 m σ H1) /\ ∀ i m σ H, W i m σ H →
  (J.stop i H /\ D.nx σ H) \/ (J.go i H /\ ∃ N : St -> Hp -> Prop, (∀ σ' H', N σ' H' -> ∃ m', m' < m /\ W (i + 1) m' σ' H') /\ ∀ x H', J.yld i H x H' -> g x σ H' λ σ2 H2 => tb { D with nx := N, ct := N, bk := D.nx } σ2 H2)
noncomputable def pinsAt (fp : List Addr) (h : Heap) : List (Addr × Obj) := fp.filterMap λ b => (h.get? b).map λ o => (b, o)
theorem mem_pinsAt {fp : List Addr} {h : Heap} {b : Addr} {o : Obj} (hb : b ∈ fp) (e : h.get? b = some o) : (b, o) ∈ pinsAt fp h := List.mem_filterMap.mpr ⟨b, hb, by rw [e]; rfl⟩
theorem of_pinsAt {fp : List Addr} {h : Heap} {p : Addr × Obj} (hp : p ∈ pinsAt fp h) : p.1 ∈ fp /\ h.get? p.1 = some p.2 := by
  obtain ⟨b, hb, e⟩ := List.mem_filterMap.mp hp
  cases q : h.get? b with
  | none => rw [q] at e; cases e
  | some o =>
    rw [q] at e
    have e' : (b, o) = p := Option.some.inj e
    subst e'
    exact ⟨hb, q⟩
theorem Inv.pinned {pins : List (Addr × Obj)} {σ : St} {H : Hp} {s : Shared} {fp : List Addr} (I : Inv X pins σ H s) (hf : ∀ b ∈ fp, FpOk X pins H b) (ho : ∀ b ∈ fp, ∃ o, s.heap.get? b = some o /\ ∀ v, o.data ≠ .cell v) : Inv X (pins ++ pinsAt fp s.heap) σ H s :=
  I.pins_of λ p hp => (List.mem_append.mp hp).elim (λ z => I.pin p (List.mem_append_right _ z)) λ z => by
    obtain ⟨hb, e⟩ := of_pinsAt z
    obtain ⟨f0, f1, f2, _⟩ := hf p.1 hb
    obtain ⟨o, e', d⟩ := ho p.1 hb
    rw [e] at e'; cases e'
    exact ⟨e, f0, f1, f2, d⟩
theorem Inv.unpinned {pins pl : List (Addr × Obj)} {σ : St} {H : Hp} {s : Shared} (I : Inv X (pins ++ pl) σ H s) : Inv X pins σ H s := I.pins_of λ p hp => I.pin p (List.mem_append_right _ (List.mem_append_left _ hp))
theorem ps_for {iter : Expr} {body : List Stmt} {wi : TI} {g : TG} {tb : TS} {pos : Pos} (hp : PassesOwn (model X.prog X.w) X.A X.env X.xe) (hc : X.calm = true) (hi : PI X tg iter wi) (hg : PG X tg g) (hb : PSs X body tb)
    (hs : ∀ x, foldedSetIterable iter X.env x = pure x := by intro _; rfl) : PS X (.For tg iter body [] pos) (tFor wi g tb) := by
  intro pins s σ H D I h
  refine wpAny_For (thn (hi pins s σ H _ I h) λ v s1 h1 => thn h1 λ itv s2 h2 => ?_) hs
  obtain ⟨it, fp, tn, J, H2, e, I2, T, st2, f2, W, ⟨m0, w0⟩, turn⟩ := h2
  subst e
  have stat : ∀ {H' : Hp}, (∀ b ∈ fp, H' b = none) -> ∀ b ∈ fp, FpOk X pins H' b := λ hn b hb => ⟨hn b hb, (f2 b hb).2⟩
  refine codeAny_forLoop_any (λ n s' => ∃ i σ' H', Inv X pins σ' H' s' /\ tn i s'.heap /\ (∀ b ∈ fp, H' b = none) /\ W i n σ' H') ?_ m0 ⟨0, σ, H2, I2, st2, λ b hb => (f2 b hb).1, w0⟩
  rintro n s3 ⟨i, σ3, H3, I3, st3, fr3, w3⟩
  rcases turn i n σ3 H3 w3 with ⟨stop, qn⟩ | ⟨go, N, hN, step⟩
  . refine wpAny_passesOwn hp (thn (T.done X rfl rfl rfl hc i pins s3 σ3 H3 X.xe I3 (stat fr3) st3 stop) λ r s4 ⟨hr, I4⟩ => ?_)
    subst hr
    exact wpAny_execs_nil ⟨σ3, H3, I4, qn⟩
  . refine wpAny_passesOwn hp (thn (T.item X rfl rfl rfl hc i pins s3 σ3 H3 X.xe I3 (stat fr3) st3 go) λ r s4 ⟨u, hr, h4⟩ => ?_)
    subst hr
    refine wpAny_passesOwn hp (thn h4 λ _ s5 ⟨x, H5, I5, r5, y5, st5, fr5⟩ => ?_)
    have I5' := I5.pinned (stat fr5) (T.obj _ _ st5)
    refine wpAny_passesOwn hp (thn (hg _ s5 σ3 H5 x u _ I5' r5 (step x H5 y5)) λ _ s6 ⟨σ6, H6, I6, q6⟩ => ?_)
    refine wpAny_passesOwn hp (thn (hb _ s6 σ6 H6 _ I6 q6) λ f s7 q7 => ?_)
    have again : ∀ {σ7 : St} {H7 : Hp}, Inv X (pins ++ pinsAt fp s5.heap) σ7 H7 s7 -> N σ7 H7 -> ∃ m, m < n /\ ∃ i σ' H', Inv X pins σ' H' s7 /\ tn i s7.heap /\ (∀ b ∈ fp, H' b = none) /\ W i m σ' H' := λ {σ7 H7} I7 n7 => by
      obtain ⟨m', hm, w7⟩ := hN σ7 H7 n7
      refine ⟨m', hm, i + 1, σ7, H7, I7.unpinned, T.keep _ _ _ st5 λ b hb o e => (I7.pin (b, o) (List.mem_append_right _ (List.mem_append_right _ (mem_pinsAt hb e)))).1, λ b hb => ?_, w7⟩
      obtain ⟨o, e, d⟩ := T.obj _ _ st5 b hb
      exact (I7.pin (b, o) (List.mem_append_right _ (List.mem_append_right _ (mem_pinsAt hb e)))).2.1
    cases f with
    | next => obtain ⟨σ7, H7, I7, n7⟩ := q7; exact again I7 n7
    | cont => obtain ⟨σ7, H7, I7, n7⟩ := q7; exact again I7 n7
    | brk => obtain ⟨σ7, H7, I7, q7⟩ := q7; exact ⟨σ7, H7, I7.unpinned, q7⟩
    | ret v => obtain ⟨x7, σ7, H7, I7, r7, q7⟩ := q7; exact ⟨x7, σ7, H7, I7.unpinned, r7, q7⟩
end
theorem for_range {lo : Int} {n : Nat} {g : TG} {tb : TS} {D : Ends} {σ : St} {H : Hp} (Pv : Nat -> St -> Hp -> Prop) (h0 : Pv 0 σ H)
    (hs : ∀ i σ H, i < n -> Pv i σ H -> g (.int (lo + i)) σ H λ σ2 H2 => tb { D with nx := Pv (i + 1), ct := Pv (i + 1), bk := D.nx } σ2 H2) (hd : ∀ σ H, Pv n σ H -> D.nx σ H) :
    ∃ W : Nat -> Nat -> St -> Hp -> Prop, (∃ m, W 0 m σ H) /\ ∀ i m σ H, W i m σ H →
      ((Itr lo n).stop i H /\ D.nx σ H) \/ ((Itr lo n).go i H /\ ∃ N : St -> Hp -> Prop, (∀ σ' H', N σ' H' -> ∃ m', m' < m /\ W (i + 1) m' σ' H') /\ ∀ x H', (Itr lo n).yld i H x H' -> g x σ H' λ σ2 H2 => tb { D with nx := N, ct := N, bk := D.nx } σ2 H2) := by
  refine ⟨λ i m σ H => m = n - i /\ i <= n /\ Pv i σ H, ⟨n, by simp, Nat.zero_le _, h0⟩, ?_⟩
  rintro i m σ H ⟨rfl, hi, p⟩
  by_cases hlt : i < n
  . refine .inr ⟨hlt, Pv (i + 1), λ σ' H' p' => ⟨n - (i + 1), by omega, rfl, hlt, p'⟩, λ x H' y => ?_⟩
    obtain ⟨e, y⟩ := y
    subst e y
    exact hs i σ _ hlt p
  . have e : i = n := by omega
    subst e
    exact .inl ⟨Nat.le_refl _, hd σ H p⟩
end L2
namespace L2
open PySem PySem.Spec PyProof.Rows
noncomputable abbrev R2 := V -> V -> Hp -> VK -> Prop
noncomputable def OpR (X : Cx) (f : Value -> Value -> Sem Value) (r : R2) : Prop :=
  ∀ (pins : List (Addr × Obj)) (s : Shared) (σ : St) (H : Hp) (x y : V) (v u : Value) (Q : VK), Inv X pins σ H s -> RelV x v -> RelV y u -> r x y H Q →
    wpAny (model X.prog X.w) X.A (f v u) (EP X pins σ Q) X.xe s
noncomputable def UnR (X : Cx) (f : Value -> Sem Value) (r : V -> Hp -> VK -> Prop) : Prop :=
  ∀ (pins : List (Addr × Obj)) (s : Shared) (σ : St) (H : Hp) (x : V) (v : Value) (Q : VK), Inv X pins σ H s -> RelV x v -> r x H Q →
    wpAny (model X.prog X.w) X.A (f v) (EP X pins σ Q) X.xe s
noncomputable def CallR (X : Cx) (f : Value) (r : List V -> Hp -> VK -> Prop) : Prop :=
  ∀ (pins : List (Addr × Obj)) (s : Shared) (σ : St) (H : Hp) (xs : List V) (us : List Value) (Q : VK), Inv X pins σ H s -> Vals xs us -> r xs H Q →
    wpAny (model X.prog X.w) X.A (call f us) (EP X pins σ Q) X.xe s
noncomputable def TruR (X : Cx) (r : V -> Hp -> (Bool -> Hp -> Prop) -> Prop) : Prop :=
  ∀ (pins : List (Addr × Obj)) (s : Shared) (σ : St) (H : Hp) (x : V) (v : Value) (Q : Bool -> Hp -> Prop), Inv X pins σ H s -> RelV x v -> r x H Q →
    wpAny (model X.prog X.w) X.A (truthy v) (TP X pins σ Q) X.xe s
noncomputable def tOp (r : R2) (ta tb : TE) : TE := λ σ H Q => ta σ H λ x H1 => tb σ H1 λ y H2 => r x y H2 Q
noncomputable def tUn (r : V -> Hp -> VK -> Prop) (ta : TE) : TE := λ σ H Q => ta σ H λ x H1 => r x H1 Q
noncomputable def rI (C : Int -> Int -> Prop) (g : Int -> Int -> V) : R2 := λ x y H Q => ∃ i j, x = .int i /\ y = .int j /\ C i j /\ Q (g i j) H
noncomputable def rI0 (g : Int -> Int -> V) : R2 := λ x y H Q => ∃ i j, x = .int i /\ y = .int j /\ Q (g i j) H
noncomputable def rU (g : Int -> V) : V -> Hp -> VK -> Prop := λ x H Q => ∃ i, x = .int i /\ Q (g i) H
section
variable {X : Cx} {a b c : Expr} {ta tb tc : TE} {pos : Pos}
theorem binT (ha : PE X a ta) (hb : PE X b tb) {pins : List (Addr × Obj)} {s : Shared} {σ : St} {H : Hp} {R : V -> V -> Hp -> Prop} (I : Inv X pins σ H s)
    (h : ta σ H λ x H1 => tb σ H1 λ y H2 => R x y H2) {Q : Value -> Shared -> Prop} {f : Value -> Value -> Sem Value}
    (hf : ∀ v u s2 x y H2, Inv X pins σ H2 s2 -> RelV x v -> RelV y u -> R x y H2 -> wpAny (model X.prog X.w) X.A (f v u) Q X.xe s2) :
    wpAny (model X.prog X.w) X.A (eval a X.env) (λ v s₁ => wpAny (model X.prog X.w) X.A (eval b X.env) (λ u s₂ => wpAny (model X.prog X.w) X.A (f v u) Q X.xe s₂) X.xe s₁) X.xe s := by
  refine thn (ha pins s σ H _ I h) λ v s1 ⟨x, H1, I1, r1, q1⟩ => ?_
  refine thn (hb pins s1 σ H1 _ I1 q1) λ u s2 ⟨y, H2, I2, r2, q2⟩ => ?_
  exact hf v u s2 x y H2 I2 r1 r2 q2
theorem pe_op {op : Operator} {r : R2} (ho : OpR X (binaryOp op) r) (ha : PE X a ta) (hb : PE X b tb) : PE X (.BinOp a op b pos) (tOp r ta tb) := by
  intro pins s σ H Q I h
  exact wpAny_BinOp (binT ha hb I h λ v u s2 x y H2 I2 rx ry q => ho pins s2 σ H2 x y v u Q I2 rx ry q)
theorem pe_un {op : UnaryOp} {r : V -> Hp -> VK -> Prop} (ho : UnR X (unaryOp op) r) (ha : PE X a ta) : PE X (.UnaryOp op a pos) (tUn r ta) := by
  intro pins s σ H Q I h
  exact UnaryOp_ (thn (ha pins s σ H _ I h) λ v s1 ⟨x, H1, I1, r1, q1⟩ => ho pins s1 σ H1 x v Q I1 r1 q1)
theorem opI {f : Value -> Value -> Sem Value} {C : Int -> Int -> Prop} {g : Int -> Int -> Int}
    (rule : ∀ (i j : Int) (t u : Tok) (s : Shared) (Q : Value -> Shared -> Prop) (E : Value -> Shared -> Prop), C i j -> Q (.int (g i j) s.toks) { s with toks := s.toks + 1 } -> wpAny (model X.prog X.w) X.A (f (.int i t) (.int j u)) Q E s) :
    OpR X f (rI C λ i j => .int (g i j)) := by
  intro pins s σ H x y v u Q I rx ry h
  obtain ⟨i, j, rfl, rfl, hc, q⟩ := h
  obtain ⟨t, rfl⟩ := rx
  obtain ⟨t', rfl⟩ := ry
  exact rule i j t t' s _ _ hc ⟨.int (g i j), H, I.tok _, ⟨_, rfl⟩, q⟩
theorem opI0 {f : Value -> Value -> Sem Value} {g : Int -> Int -> Int}
    (rule : ∀ (i j : Int) (t u : Tok) (s : Shared) (Q : Value -> Shared -> Prop) (E : Value -> Shared -> Prop), Q (.int (g i j) s.toks) { s with toks := s.toks + 1 } -> wpAny (model X.prog X.w) X.A (f (.int i t) (.int j u)) Q E s) :
    OpR X f (rI0 λ i j => .int (g i j)) := by
  intro pins s σ H x y v u Q I rx ry h
  obtain ⟨i, j, rfl, rfl, q⟩ := h
  obtain ⟨t, rfl⟩ := rx
  obtain ⟨t', rfl⟩ := ry
  exact rule i j t t' s _ _ ⟨.int (g i j), H, I.tok _, ⟨_, rfl⟩, q⟩
theorem opB0 {f : Value -> Value -> Sem Value} {g : Int -> Int -> Bool}
    (rule : ∀ (i j : Int) (t u : Tok) (s : Shared) (Q : Value -> Shared -> Prop) (E : Value -> Shared -> Prop), Q (.bool (g i j)) s -> wpAny (model X.prog X.w) X.A (f (.int i t) (.int j u)) Q E s) :
    OpR X f (rI0 λ i j => .bl (g i j)) := by
  intro pins s σ H x y v u Q I rx ry h
  obtain ⟨i, j, rfl, rfl, q⟩ := h
  obtain ⟨t, rfl⟩ := rx
  obtain ⟨t', rfl⟩ := ry
  exact rule i j t t' s _ _ ⟨.bl (g i j), H, I, rfl, q⟩
noncomputable def CPow (i j : Int) : Prop := 0 <= j /\ j <= 1000000 /\ i.natAbs < 2 ^ 64
noncomputable def CMul (i j : Int) : Prop := (-(2 ^ 64) < i /\ i < 2 ^ 64) \/ (-(2 ^ 64) < j /\ j < 2 ^ 64)
theorem CMul.ok {i j : Int} (h : CMul i j) : IntMulOk i j := by
  rcases h with ⟨h1, h2⟩ | ⟨h1, h2⟩
  . exact .of_left (intBits_le_64 h1 h2)
  . exact .of_right (intBits_le_64 h1 h2)
theorem op_add : OpR X (binaryOp .Add) (rI0 λ i j => .int (i + j)) := opI0 λ _ _ _ _ _ _ _ q => add_int q
theorem op_sub : OpR X (binaryOp .Sub) (rI0 λ i j => .int (i - j)) := opI0 λ _ _ _ _ _ _ _ q => sub_int q
theorem op_mod : OpR X (binaryOp .Mod) (rI (λ _ j => 0 < j) λ i j => .int (i % j)) := opI λ i j _ _ _ _ _ hc q => by
  have h1 : (0 : Int) < j := hc
  exact mod_int' (by omega) (by rw [Int.fmod_eq_emod_of_nonneg i (by omega)]; exact q)
theorem op_pow : OpR X (binaryOp .Pow) (rI CPow λ i j => .int (i ^ j.toNat)) := opI λ _ _ _ _ _ _ _ hc q => pow_int_small hc.1 hc.2.1 hc.2.2 q
theorem unI {f : Value -> Sem Value} {g : Int -> Int}
    (rule : ∀ (i : Int) (t : Tok) (s : Shared) (Q : Value -> Shared -> Prop) (E : Value -> Shared -> Prop), Q (.int (g i) s.toks) { s with toks := s.toks + 1 } -> wpAny (model X.prog X.w) X.A (f (.int i t)) Q E s) :
    UnR X f (rU λ i => .int (g i)) := by
  intro pins s σ H x v Q I rx h
  obtain ⟨i, rfl, q⟩ := h
  obtain ⟨t, rfl⟩ := rx
  exact rule i t s _ _ ⟨.int (g i), H, I.tok _, ⟨_, rfl⟩, q⟩
theorem un_neg : UnR X (unaryOp .USub) (rU λ i => .int (-i)) := unI λ _ _ _ _ _ q => neg_int q
end
section
variable {X : Cx} {a b c : Expr} {ta tb tc : TE} {pos : Pos}
theorem fin_bl {pins : List (Addr × Obj)} {σ : St} {H : Hp} {s : Shared} {Q : VK} {k k' : Bool} (I : Inv X pins σ H s) (q : Q (.bl k) H) (e : k = k') : EP X pins σ Q (.bool k') s := by
  subst e
  exact ⟨.bl k, H, I, rfl, q⟩
theorem op_lt : OpR X (compareOp .Lt) (rI0 λ i j => .bl (decide (i < j))) := opB0 λ _ _ _ _ _ _ _ q => lt_int q
theorem op_le : OpR X (compareOp .LtE) (rI0 λ i j => .bl (decide (i <= j))) := opB0 λ _ _ _ _ _ _ _ q => le_int q
theorem op_gt : OpR X (compareOp .Gt) (rI0 λ i j => .bl (decide (j < i))) := opB0 λ _ _ _ _ _ _ _ q => gt_int q
theorem op_ge : OpR X (compareOp .GtE) (rI0 λ i j => .bl (decide (j <= i))) := opB0 λ _ _ _ _ _ _ _ q => ge_int q
theorem op_lt_str : OpR X (compareOp .Lt) (λ x y H Q => ∃ i j, x = .str i /\ y = .str j /\ Q (.bl (decide (i.cps.toList < j.cps.toList))) H) := by
  intro pins s σ H x y v u Q I rx ry h
  obtain ⟨i, j, rfl, rfl, q⟩ := h
  obtain ⟨t, rfl⟩ := rx
  obtain ⟨t', rfl⟩ := ry
  exact lt_str (fin_bl I q rfl)
theorem op_in_str : OpR X (compareOp .In) (λ x y H Q => ∃ i j, x = .str i /\ y = .str j /\ Q (.bl (!(Builtin.Str.occurrences j i 0 j.length 1).isEmpty)) H) := by
  intro pins s σ H x y v u Q I rx ry h
  obtain ⟨i, j, rfl, rfl, q⟩ := h
  obtain ⟨t, rfl⟩ := rx
  obtain ⟨t', rfl⟩ := ry
  exact in_str (fin_bl I q rfl)
theorem op_isN : OpR X (compareOp .Is) (λ x y H Q => y = .non /\ Q (.bl (decide (x = .non))) H) := by
  intro pins s σ H x y v u Q I rx ry h
  obtain ⟨rfl, q⟩ := h
  cases ry
  refine is_none_gen (fin_bl I q ?_)
  cases x <;> first
    | (cases rx; rfl)
    | (obtain ⟨t, rfl⟩ := rx; rfl)
theorem op_notN : OpR X (compareOp .IsNot) (λ x y H Q => y = .non /\ Q (.bl (!decide (x = .non))) H) := by
  intro pins s σ H x y v u Q I rx ry h
  obtain ⟨rfl, q⟩ := h
  cases ry
  refine isnot_none_gen (fin_bl I q ?_)
  cases x <;> first
    | (cases rx; rfl)
    | (obtain ⟨t, rfl⟩ := rx; rfl)
theorem op_notin_str : OpR X (compareOp .NotIn) (λ x y H Q => ∃ i j, x = .str i /\ y = .str j /\ Q (.bl (!(!(Builtin.Str.occurrences j i 0 j.length 1).isEmpty))) H) := by
  intro pins s σ H x y v u Q I rx ry h
  obtain ⟨i, j, rfl, rfl, q⟩ := h
  obtain ⟨t, rfl⟩ := rx
  obtain ⟨t', rfl⟩ := ry
  exact notIn_str (fin_bl I q rfl)
theorem OpR.or {f : Value -> Value -> Sem Value} {r r' : R2} (h : OpR X f r) (h' : OpR X f r') : OpR X f (λ x y H Q => r x y H Q \/ r' x y H Q) := by
  intro pins s σ H x y v u Q I rx ry q
  rcases q with q | q
  . exact h pins s σ H x y v u Q I rx ry q
  . exact h' pins s σ H x y v u Q I rx ry q
theorem pe_cmpR {op : CmpOp} {r : R2} (ho : OpR X (compareOp op) r) (ha : PE X a ta) (hb : PE X b tb) (hm : behindInMarks op b = false) : PE X (.Compare a [op] [b] pos) (tOp r ta tb) := by
  intro pins s σ H Q I h
  exact wpAny_Compare1 (binT ha hb I h λ v u s2 x y H2 I2 rx ry q => ho pins s2 σ H2 x y v u Q I2 rx ry q) hm
noncomputable def tTest (t : TE) : TT := λ σ H Q => t σ H λ x H' => ∃ k, x = .bl k /\ Q k H'
theorem pt_cmpR {op : CmpOp} {r : R2} (ho : OpR X (compareOp op) r) (ha : PE X a ta) (hb : PE X b tb) (hm : behindInMarks op b = false) : PT X (.Compare a [op] [b] pos) (tTest (tOp r ta tb)) := by
  intro pins s σ H Q I h
  refine wpAny_isTrue_Compare1 (thn (ha pins s σ H _ I h) λ v s1 ⟨x, H1, I1, r1, q1⟩ => thn (hb pins s1 σ H1 _ I1 q1) λ u s2 ⟨y, H2, I2, r2, q2⟩ =>
    thn (ho pins s2 σ H2 x y v u _ I2 r1 r2 q2) λ c s3 ⟨z, H3, I3, r3, k, e, q3⟩ => ?_) hm
  subst e
  cases r3
  exact wpAny_truthy_bool ⟨H3, I3, q3⟩
noncomputable def tChain (r r' : R2) (ta tb tc : TE) : TE := λ σ H Q => ta σ H λ x H1 => tb σ H1 λ y H2 => r x y H2 λ z H3 => ∃ k, z = .bl k ∧
  (if k = true then tc σ H3 λ w' H4 => r' y w' H4 Q else Q (.bl false) H3)
theorem pe_chain {op op' : CmpOp} {r r' : R2} (ho : OpR X (compareOp op) r) (ho' : OpR X (compareOp op') r') (ha : PE X a ta) (hb : PE X b tb) (hc : PE X c tc)
    (hm : lastMarks [op, op'] [b, c] = false := by with_unfolding_all rfl) : PE X (.Compare a [op, op'] [b, c] pos) (tChain r r' ta tb tc) := by
  intro pins s σ H Q I h
  refine Compare_chain (thn (ha pins s σ H _ I h) λ v s1 ⟨x, H1, I1, r1, q1⟩ => chain_link (thn (hb pins s1 σ H1 _ I1 q1) λ u s2 ⟨y, H2, I2, r2, q2⟩ =>
    thn (ho pins s2 σ H2 x y v u _ I2 r1 r2 q2) λ d s3 ⟨z, H3, I3, r3, k, e, q3⟩ => ?_)) hm
  subst e
  cases r3
  refine wpAny_truthy_bool ?_
  cases k with
  | false => exact ite_ff ⟨.bl false, H3, I3, rfl, q3⟩
  | true => exact ite_tt (chain_last (thn (hc pins s3 σ H3 _ I3 q3) λ w' s4 ⟨z', H4, I4, r4, q4⟩ => ho' pins s4 σ H4 y z' u w' Q I4 r2 r4 q4))
theorem pt_chain {op op' : CmpOp} {r r' : R2} (ho : OpR X (compareOp op) r) (ho' : OpR X (compareOp op') r') (ha : PE X a ta) (hb : PE X b tb) (hc : PE X c tc)
    (hm : lastMarks [op, op'] [b, c] = false := by with_unfolding_all rfl) : PT X (.Compare a [op, op'] [b, c] pos) (tTest (tChain r r' ta tb tc)) := by
  intro pins s σ H Q I h
  refine isTrue_chain (thn (ha pins s σ H _ I h) λ v s1 ⟨x, H1, I1, r1, q1⟩ => test_link (thn (hb pins s1 σ H1 _ I1 q1) λ u s2 ⟨y, H2, I2, r2, q2⟩ =>
    thn (ho pins s2 σ H2 x y v u _ I2 r1 r2 q2) λ d s3 ⟨z, H3, I3, r3, k, e, q3⟩ => ?_)) hm
  subst e
  cases r3
  refine wpAny_truthy_bool ?_
  cases k with
  | false =>
    obtain ⟨k', e', q'⟩ := q3
    cases e'
    exact ite_ff ⟨H3, I3, q'⟩
  | true =>
    refine ite_tt (test_last (thn (hc pins s3 σ H3 _ I3 q3) λ w' s4 ⟨z', H4, I4, r4, q4⟩ => thn (ho' pins s4 σ H4 y z' u w' _ I4 r2 r4 q4) λ d' s5 ⟨z2, H5, I5, r5, k2, e2, q5⟩ => ?_))
    subst e2
    cases r5
    exact wpAny_truthy_bool ⟨H5, I5, q5⟩
noncomputable def TruV (K : PySem.W.Frag) (x : V) (H : Hp) (k : Bool) : Prop :=
  match x with
  | .non => k = false
  | .bl b => k = b
  | .int i => k = (i != 0)
  | .str y => y.length <= sizeLine /\ k = ((y.length : Int) != 0)
  | .byt y => y.size <= sizeLine /\ k = ((y.size : Int) != 0)
  | .ref p => (∃ xs, SqL K H p xs /\ k = !xs.isEmpty) \/ (∃ xs, SqT K H p xs /\ k = !xs.isEmpty) \/ ∃ kvs, H p = some (.dK kvs) /\ k = !kvs.isEmpty
  | _ => False
theorem isEmpty_kv {κ : Type} {kvs : List (κ × V)} {vs : List (κ × Value)} (r : KV kvs vs) : (!vs.isEmpty) = !kvs.isEmpty := by
  cases r <;> rfl
theorem isEmpty_of {xs : List V} {its : List Value} (r : Vals xs its) : (!its.toArray.isEmpty) = !xs.isEmpty := by
  cases r <;> simp
theorem line63 : (sizeLine : Nat) < 2 ^ 63 := by rw [sizeLine_eq]; decide
theorem tru_ok : TruR X (λ x H Q => ∃ k, TruV X.K x H k /\ Q k H) := by
  intro pins s σ H x v Q I rx h
  obtain ⟨k, e, q⟩ := h
  have hl := line63
  have hs : sizeLine = 16777216 := sizeLine_eq
  cases x with
  | non =>
    cases rx
    have e' : k = false := e
    subst e'
    exact truthy_none ⟨H, I, q⟩
  | bl b =>
    cases rx
    have e' : k = b := e
    subst e'
    exact wpAny_truthy_bool ⟨H, I, q⟩
  | int i =>
    obtain ⟨t, rfl⟩ := rx
    have e' : k = (i != 0) := e
    subst e'
    exact PySem.P.truthy_int ⟨H, I, q⟩
  | str y =>
    obtain ⟨t, rfl⟩ := rx
    obtain ⟨hy, e'⟩ : y.length <= sizeLine /\ k = ((y.length : Int) != 0) := e
    subst e'
    exact PySem.P.truthy_str (by omega) ⟨H, I.tok _, q⟩
  | byt y =>
    obtain ⟨t, rfl⟩ := rx
    obtain ⟨hy, e'⟩ : y.size <= sizeLine /\ k = ((y.size : Int) != 0) := e
    subst e'
    exact PySem.W.truthy_bytes (by omega) ⟨H, I.tok _, q⟩
  | ref p =>
    cases rx
    have e' : (∃ xs, SqL X.K H p xs /\ k = !xs.isEmpty) \/ (∃ xs, SqT X.K H p xs /\ k = !xs.isEmpty) \/ ∃ kvs, H p = some (.dK kvs) /\ k = !kvs.isEmpty := e
    rcases e' with ⟨xs, hx, e'⟩ | ⟨xs, hx, e'⟩ | ⟨kvs, hx, e'⟩
    . subst e'
      obtain ⟨its, r, pl, hz⟩ := I.list hx
      have hlen := r.length
      exact wpAny_truthy_list pl.isList (by simp only [List.size_toArray]; omega) ⟨H, I.tok _, by rw [isEmpty_of r]; exact q⟩
    . subst e'
      obtain ⟨its, r, pl, hz⟩ := I.tuple hx
      have hlen := r.length
      exact truthy_tuple pl (by simp only [List.size_toArray]; omega) ⟨H, I.tok _, by rw [isEmpty_of r]; exact q⟩
    . subst e'
      obtain ⟨hz, hS, vs, r, m⟩ : kvs.length <= sizeLine /\ (p == sysModules) = false /\ ∃ vs, KV kvs vs /\ s.heap.DictOf (mixKind X.prog X.w) p vs := I.hok p _ hx
      have hlen : kvs.length = vs.length := Paired.length r
      exact wpAny_truthy_dict hS m (by omega) ⟨H, I.tok _, by rw [isEmpty_kv r]; exact q⟩
  | _ => exact (show False from e).elim
theorem op_add_str : OpR X (binaryOp .Add) (λ x y H Q => ∃ i j, x = .str i /\ y = .str j /\ i.length + j.length <= sizeLine /\ Q (.str (i ++ j)) H) := by
  intro pins s σ H x y v u Q I rx ry h
  obtain ⟨i, j, rfl, rfl, hz, q⟩ := h
  obtain ⟨t, rfl⟩ := rx
  obtain ⟨t', rfl⟩ := ry
  exact add_str (λ t' tk => ⟨.str (i ++ j), H, I.tok _, ⟨_, rfl⟩, q⟩) hz
theorem vals1 {x : V} {us : List Value} (r : Vals [x] us) : ∃ u, us = [u] /\ RelV x u := by
  cases r with
  | cons r1 r2 => cases r2; exact ⟨_, rfl, r1⟩
theorem vals2 {x y : V} {us : List Value} (r : Vals [x, y] us) : ∃ u w', us = [u, w'] /\ RelV x u /\ RelV y w' := by
  cases r with
  | cons r1 r2 =>
    cases r2 with
    | cons r3 r4 => cases r4; exact ⟨_, _, rfl, r1, r3⟩
theorem call_int1 : CallR X (.type "int") (λ xs H Q => (∃ i, xs = [.int i] /\ Q (.int i) H) \/ ∃ k, xs = [.bl k] /\ Q (.int (if k then 1 else 0)) H) := by
  intro pins s σ H xs us Q I r h
  rcases h with ⟨i, rfl, q⟩ | ⟨k, rfl, q⟩
  . obtain ⟨u, rfl, t, rfl⟩ := vals1 r
    exact call_int_int ⟨.int i, H, I, ⟨_, rfl⟩, q⟩
  . obtain ⟨u, rfl, r1⟩ := vals1 r
    cases r1
    exact call_int_bool ⟨.int (if k then 1 else 0), H, I.tok _, ⟨_, rfl⟩, q⟩
end
end L2
namespace L2
open PySem PySem.Spec PyProof.Rows
structure ObjM (h : Heap) (x dx C : Addr) (mA : Str -> Option Value) : Prop where
  obj : h.get? x = some (PySem.W.instObj C dx)
  ns : h.Ns1 dx mA
  ne : dx ≠ x
theorem lookIn_ns {h : Heap} {dx : Addr} {mA : Str -> Option Value} (n : h.Ns1 dx mA) : ∃ od, h.get? dx = some od /\ ∀ name, PySem.W.lookIn name od = some (mA name) := by
  obtain ⟨o, es, ep, ho, hd, hk, _, hm⟩ := n
  refine ⟨o, ho, λ name => ?_⟩
  have e := hm name
  unfold nsFind findBy at e
  rw [<- Array.find?_toList] at e
  unfold PySem.W.lookIn
  rw [hd]
  dsimp only
  split
  . rename_i y q
    rw [q] at e
    exact congrArg some e
  . rename_i q
    rw [q] at e
    have a : es.toList.any (·.refKey) = false := by
      rw [List.any_eq_false]
      intro y hy
      obtain ⟨z, t, hkey⟩ := hk y (Array.mem_toList_iff.mp hy)
      simp [DictEntry.refKey, hkey]
    have a' : ¬ es.toList.any (·.refKey) = true := by rw [a]; exact Bool.false_ne_true
    rw [if_neg a']
    exact congrArg some e
theorem ObjM.look {h : Heap} {x dx C : Addr} {mA : Str -> Option Value} (I : ObjM h x dx C mA) : ∃ od, PySem.W.InstAt h x (PySem.W.instObj C dx) C (some od) /\ ∀ name, PySem.W.lookIn name od = some (mA name) :=
  let ⟨od, ho, hl⟩ := lookIn_ns I.ns
  ⟨od, ⟨I.obj, rfl, rfl, ho⟩, hl⟩
section
variable {prog : Program} {w : World} {A : Around} {E : Value -> Shared -> Prop} {s : Shared} {K : PySem.W.Frag} {x dx C f : Addr} {mA : Str -> Option Value} {name : Str} {v : Value}
theorem get_map {expr : Bool} {Q : Value -> Shared -> Prop} (X : K.In s.heap) (I : ObjM s.heap x dx C mA) (hg : PySem.W.plainGet K C name = true) (hh : PySem.W.hasDictIn K C = true)
    (ha : PySem.W.findIn K (.ref C) name = some none) (hv : mA name = some v) (hv' : PySem.W.handedIn v = true) (h : Q v { s with toks := s.toks + 1 }) :
    wpAny (model prog w) A (getAttr (.ref x) name expr) Q E s := by
  obtain ⟨od, J, hl⟩ := I.look
  exact PySem.W.get_value X J (PySem.W.plainGet_of hg).1 (PySem.W.findObj_own hh ha rfl (by rw [hl, hv])) hv' h
theorem get_meth {pl : Sem Bool} {Q : Value × List Value -> Shared -> Prop} (X : K.In s.heap) (I : ObjM s.heap x dx C mA) (hg : PySem.W.plainGet K C name = true)
    (hf : PySem.W.findIn K (.ref C) name = some (some (.ref f))) (ht : PySem.W.isFn K (.ref f) = true) (hv : mA name = none) (h : Q (.ref f, [.ref x]) s) :
    wpAny (model prog w) A (getMethod (.ref x) name pl) Q E s := by
  obtain ⟨od, J, hl⟩ := I.look
  exact PySem.W.method_fn X J (PySem.W.plainGet_of hg).1 (PySem.W.plainGet_of hg).2 hf (beq_iff_eq.mp ht) (by show (PySem.W.lookIn name od).map (·.isSome) = some false; rw [hl, hv]; rfl) h
theorem set_map {ns : List Str} {Q : Unit -> Shared -> Prop} (X : K.In s.heap) (I : ObjM s.heap x dx C mA)
    (hs : PySem.W.findIn K (.ref C) "__setattr__" = some (some (.builtin "object.__setattr__"))) (hp : PySem.W.plainOver K C = true) (ht : PySem.W.takerIn K C name = some none) (hh : PySem.W.hasDictIn K C = true)
    (hw : PySem.Within mA ns) (hsz : ns.length <= sizeLine)
    (h : ∀ h', ObjM h' x dx C (λ y => if y = name then some v else mA y) -> Heap.SameBut dx s.heap h' -> Q () { s with heap := h', toks := s.toks + 2 }) :
    wpAny (model prog w) A (setAttr (.ref x) name v) Q E s := by
  obtain ⟨od, J, hl⟩ := I.look
  refine PySem.W.set_plain X J hs (PySem.W.osa_open (s := { s with toks := s.toks + 1 }) (r := none) X J hp ht λ b => ?_)
  obtain ⟨cd, hc, hd'⟩ := PySem.W.any_some hh
  have hx : s.heap.get? x = some ⟨.ref C, some dx, .plain, #[]⟩ := I.obj
  refine wpAny_bind (wpAny_pure (wpAny_bind (wpAny_bind (wpAny_loadPart hx (wpAny_bind (PySem.W.Looks.here (s := { s with toks := s.toks + 1 }) (PySem.W.looks_clsIn X hc) ?_))))))
  rw [hd']
  refine wpAny_pure (a := some dx) (wpAny_bind (wpAny_pure (wpAny_bind ?_)))
  refine wpAny_nsSet1 (s := { s with toks := s.toks + 1 }) I.ns λ h' hn2 hs2 => ?_
  obtain ⟨oD, esD, epD, hoD, hdD, hcD⟩ := hn2.count (PySem.Within.cons name v hw)
  refine wpAny_bind (wpAny_lookBehind hoD (by rw [hdD]; exact pastItsLine_dict (Nat.le_trans hcD (by rw [List.length_cons]; omega))) ?_)
  exact wpAny_pure (h _ ⟨(hs2.2 _ (Ne.symm I.ne)).trans I.obj, hn2, I.ne⟩ hs2)
theorem make_map {R : Result -> Shared -> Prop} {vs : List Value} {kw : List (Str × Value)} (X : K.In s.heap) (hm : PySem.W.makesIn K C = true)
    (hi : PySem.W.findIn K (.ref C) "__init__" = some (some (.ref f))) (hf : PySem.W.typeIn K (.ref f) = some (.type "function"))
    (h : codeAny (model prog w) (A.under (.builtin "type.__call__" ⟨.ref C :: vs, kw⟩)) (.call (.ref f) ⟨.ref (s.heap.objs.size + 1) :: vs, kw⟩) (PySem.W.InitBack (s.heap.objs.size + 1) R)
      { s with heap := (s.heap.push PySem.W.emptyDict).push (PySem.W.instObj C s.heap.objs.size) }) :
    codeAny (model prog w) A (.call (.ref C) ⟨vs, kw⟩) R s := by
  obtain ⟨hh, g, d, t, os⟩ := s
  exact PySem.W.make_core (PySem.W.makes_of X hm) (PySem.W.looks_findIn X hi) (λ self => PySem.W.bind_fn X self hf) (.inl rfl) h
end
noncomputable def putF (f : Str) (v : V) : List (Str × V) -> List (Str × V)
  | [] => [(f, v)]
  | (g, x) :: r => if g = f then (g, v) :: r else (g, x) :: putF f v r
theorem lookup_putF (f g : Str) (v : V) : ∀ fs : List (Str × V), (putF f v fs).lookup g = if g = f then some v else fs.lookup g
  | [] => by
    show List.lookup g [(f, v)] = _
    by_cases h : g = f
    . have hb : (g == f) = true := beq_iff_eq.mpr h
      simp only [List.lookup, hb, if_pos h]
    . have hb : (g == f) = false := beq_eq_false_iff_ne.mpr h
      simp only [List.lookup, hb, if_neg h]
  | (k, x) :: r => by
    have ih := lookup_putF f g v r
    rw [show putF f v ((k, x) :: r) = (if k = f then (k, v) :: r else (k, x) :: putF f v r) from rfl]
    by_cases hk : k = f
    . rw [if_pos hk]
      by_cases h : g = k
      . have hb : (g == k) = true := beq_iff_eq.mpr h
        simp only [List.lookup, hb, if_pos (h.trans hk)]
      . have hb : (g == k) = false := beq_eq_false_iff_ne.mpr h
        simp only [List.lookup, hb, if_neg (λ e : g = f => h (e.trans hk.symm))]
    . rw [if_neg hk]
      by_cases h : g = k
      . have hb : (g == k) = true := beq_iff_eq.mpr h
        simp only [List.lookup, hb, if_neg (λ e : g = f => hk (h.symm.trans e))]
      . have hb : (g == k) = false := beq_eq_false_iff_ne.mpr h
        simp only [List.lookup, hb]
        exact ih
theorem keys_putF (f : Str) (v : V) : ∀ fs : List (Str × V), f ∈ (putF f v fs).map (·.1) /\ ∀ g, g ∈ fs.map (·.1) -> g ∈ (putF f v fs).map (·.1)
  | [] => ⟨by simp [putF], λ g h => by simp at h⟩
  | (k, x) :: r => by
    obtain ⟨i1, i2⟩ := keys_putF f v r
    rw [show putF f v ((k, x) :: r) = (if k = f then (k, v) :: r else (k, x) :: putF f v r) from rfl]
    by_cases hk : k = f
    . rw [if_pos hk]
      subst hk
      exact ⟨by simp, λ g h => by simpa using h⟩
    . rw [if_neg hk]
      refine ⟨?_, λ g h => ?_⟩
      . rw [List.map_cons]
        exact List.mem_cons_of_mem _ i1
      . rw [List.map_cons] at h ⊢
        rcases List.mem_cons.mp h with e | e
        . exact List.mem_cons.mpr (.inl e)
        . exact List.mem_cons_of_mem _ (i2 g e)
theorem length_putF (f : Str) (v : V) : ∀ fs : List (Str × V), (putF f v fs).length <= fs.length + 1
  | [] => by simp [putF]
  | (k, x) :: r => by
    have ih := length_putF f v r
    rw [show putF f v ((k, x) :: r) = (if k = f then (k, v) :: r else (k, x) :: putF f v r) from rfl]
    by_cases hk : k = f
    . rw [if_pos hk, List.length_cons, List.length_cons]; omega
    . rw [if_neg hk, List.length_cons, List.length_cons]; omega
theorem RelO.some_of {v : V} {o : Option Value} (r : RelO (some v) o) : ∃ u, o = some u /\ RelV v u := by
  cases o with
  | none => exact (show False from r).elim
  | some u => exact ⟨u, rfl, r⟩
theorem RelO.none_of {o : Option Value} (r : RelO none o) : o = none := by
  cases o with
  | none => rfl
  | some u => exact (show False from r).elim
theorem handed_of {v : V} {u : Value} (r : RelV v u) : PySem.W.handedIn u = true := by
  cases v with
  | non => cases (show u = Value.none from r); rfl
  | bl b => cases (show u = Value.bool b from r); rfl
  | int i => obtain ⟨t, e⟩ := (show ∃ t, u = Value.int i t from r); cases e; rfl
  | str x => obtain ⟨t, e⟩ := (show ∃ t, u = Value.str x t from r); cases e; rfl
  | byt b => obtain ⟨t, e⟩ := (show ∃ t, u = Value.bytes b t from r); cases e; rfl
  | flt b => obtain ⟨t, e⟩ := (show ∃ t, u = Value.float b t from r); cases e; rfl
  | ref a => cases (show u = Value.ref a from r); rfl
  | ty n => cases (show u = Value.type n from r); rfl
section
variable {P : Program} {w : World} {H H' : Hp} {h h' : Heap} {a C dx : Addr} {fs fs' : List (Str × V)}
theorem ins_get (hok : HOk P w H h) (e : H a = some (.ins C dx fs)) : ∃ mA, ObjM h a dx C mA /\ (∀ f, RelO (fs.lookup f) (mA f)) /\ PySem.Within mA (fs.map (·.1)) /\ fs.length <= 1000 /\ H dx = some (.own a) := by
  obtain ⟨d, z, ne, ob, mA, n, r, q⟩ := (show ObjOk P w H h a (.ins C dx fs) from hok a _ e)
  exact ⟨mA, ⟨ob, n, ne⟩, r, q, z, d⟩
end
structure Cls (K : PySem.W.Frag) (C : Addr) : Prop where
  pg : PySem.W.plainGet K C Str.empty = true
  hd : PySem.W.hasDictIn K C = true
  po : PySem.W.plainOver K C = true
  sa : PySem.W.findIn K (.ref C) "__setattr__" = some (some (.builtin "object.__setattr__"))
theorem Cls.get {K : PySem.W.Frag} {C : Addr} (c : Cls K C) (f : Str) : PySem.W.plainGet K C f = true := c.pg
noncomputable def NoAttr (K : PySem.W.Frag) (C : Addr) (f : Str) : Prop := PySem.W.findIn K (.ref C) f = some none
theorem NoAttr.taker {K : PySem.W.Frag} {C : Addr} {f : Str} (n : NoAttr K C f) : PySem.W.takerIn K C f = some none := by
  unfold PySem.W.takerIn
  rw [show PySem.W.findIn K (.ref C) f = some none from n]
  rfl
structure Meth (K : PySem.W.Frag) (C : Addr) (m : Str) (f : Addr) : Prop where
  at_ : PySem.W.findIn K (.ref C) m = some (some (.ref f))
  fn : PySem.W.isFn K (.ref f) = true
  kp : PySem.W.keepIn K (.ref f) = true
section
variable {X : Cx} {pins : List (Addr × Obj)} {σ : St} {H : Hp} {s : Shared} {a C dx : Addr} {fs : List (Str × V)} {f : Str} {v : V} {A : Around} {E : Value -> Shared -> Prop}
theorem getattr_ok {b : Bool} {Q : Value -> Shared -> Prop} (I : Inv X pins σ H s) (e : H a = some (.ins C dx fs)) (c : Cls X.K C) (n : NoAttr X.K C f) (l : fs.lookup f = some v)
    (h : ∀ u s', Inv X pins σ H s' -> RelV v u -> Q u s') : wpAny (model X.prog X.w) A (getAttr (.ref a) f b) Q E s := by
  obtain ⟨mA, O, r, _, _, _⟩ := ins_get I.hok e
  obtain ⟨u, hu, ru⟩ := RelO.some_of (v := v) (o := mA f) (by rw [<- l]; exact r f)
  exact get_map I.kIn O (c.get f) c.hd n hu (handed_of ru) (h u _ (I.tok _) ru)
theorem getmeth_ok {m : Str} {g : Addr} {pl : Sem Bool} {Q : Value × List Value -> Shared -> Prop} (I : Inv X pins σ H s) (e : H a = some (.ins C dx fs)) (c : Cls X.K C) (k : Meth X.K C m g) (l : fs.lookup m = none)
    (h : Q (.ref g, [.ref a]) s) : wpAny (model X.prog X.w) A (getMethod (.ref a) m pl) Q E s := by
  obtain ⟨mA, O, r, _, _, _⟩ := ins_get I.hok e
  have hn : mA m = none := RelO.none_of (by rw [<- l]; exact r m)
  exact get_meth I.kIn O (c.get m) k.at_ k.fn hn h
theorem setattr_ok {y : V} {u : Value} {Q : Unit -> Shared -> Prop} (I : Inv X pins σ H s) (e : H a = some (.ins C dx fs)) (c : Cls X.K C) (n : NoAttr X.K C f) (hl : fs.length < 1000) (ry : RelV y u)
    (h : ∀ s', Inv X pins σ (upd H a (.ins C dx (putF f y fs))) s' -> Q () s') : wpAny (model X.prog X.w) A (setAttr (.ref a) f u) Q E s := by
  obtain ⟨mA, O, r, wi, _, ho⟩ := ins_get I.hok e
  have hz : (fs.map (·.1)).length <= sizeLine := by rw [List.length_map, sizeLine_eq]; omega
  refine set_map I.kIn O c.sa c.po n.taker c.hd wi hz λ h' O' sb => h _ ?_
  have hd : ∃ o, h'.get? dx = some o := let ⟨o, _, _, e', _⟩ := O'.ns; ⟨o, e'⟩
  refine I.write (x := a) (e := dx) (by rw [e]; exact True.intro) (.inr ho) (λ b q hb z => (sb.2 b hb).trans z) hd ?_
  refine ⟨by rw [upd_ne O.ne]; exact ho, ?_, O.ne, O'.obj, _, O'.ns, λ g => ?_, λ g hg => ?_⟩
  . have := length_putF f y fs; omega
  . show RelO ((putF f y fs).lookup g) (if g = f then some u else mA g)
    rw [lookup_putF]
    by_cases q : g = f
    . rw [if_pos q, if_pos q]; exact ry
    . rw [if_neg q, if_neg q]; exact r g
  . by_cases q : g = f
    . rw [q]; exact (keys_putF f y fs).1
    . refine (keys_putF f y fs).2 g (wi g λ z => hg ?_)
      show (if g = f then some u else mA g) = none
      rw [if_neg q]; exact z
theorem Inv.made (I : Inv X pins σ H s) : Inv X pins σ (upd (upd H s.heap.objs.size (.own (s.heap.objs.size + 1))) (s.heap.objs.size + 1) (.ins C s.heap.objs.size []))
    { s with heap := (s.heap.push PySem.W.emptyDict).push (PySem.W.instObj C s.heap.objs.size) } := by
  have e1 : (s.heap.push PySem.W.emptyDict).get? s.heap.objs.size = some PySem.W.emptyDict := Heap.get?_push_size s.heap rfl
  have e2 : ((s.heap.push PySem.W.emptyDict).push (PySem.W.instObj C s.heap.objs.size)).get? (s.heap.objs.size + 1) = some (PySem.W.instObj C s.heap.objs.size) := by
    have := Heap.get?_push_size (s.heap.push PySem.W.emptyDict) (o := PySem.W.instObj C s.heap.objs.size) rfl
    rwa [Heap.size_push] at this
  have e3 : (s.heap.push PySem.W.emptyDict).Ns s.heap.objs.size (λ _ => none) := ⟨PySem.W.emptyDict, #[], _, e1, rfl, (λ e he => absurd he (by simp)), λ _ => rfl⟩
  have I1 := I.laid (a := s.heap.objs.size) (o := .own (s.heap.objs.size + 1)) (h' := s.heap.push PySem.W.emptyDict) (t' := s.toks) (λ b u q => Heap.get?_push_of_some _ q) (Nat.le_refl _) ⟨_, e1⟩
  refine I1.laid (a := s.heap.objs.size + 1) (o := .ins C s.heap.objs.size []) (t' := s.toks) (λ b u q => Heap.get?_push_of_some _ q) (Nat.le_of_eq (Heap.size_push _ _)) ?_
  have ne : s.heap.objs.size ≠ s.heap.objs.size + 1 := Nat.ne_of_lt (Nat.lt_succ_self _)
  refine ⟨by rw [upd_ne ne, upd_same], Nat.zero_le _, ne, e2, λ _ => none, (Heap.Ns1.of_empty e3).at λ o q => Heap.get?_push_of_some _ q, λ _ => True.intro, λ y hy => absurd rfl hy⟩
theorem attr_of {prog : Program} {w : World} {env : Env} {e : Expr} {f : Str} {pos : Pos} {s : Shared} {Q : Value -> Shared -> Prop} (hb : attributeBase e f env (eval e env) = eval e env)
    (h : wpAny (model prog w) A (eval e env) (λ o s₁ => wpAny (model prog w) A (getAttr o f true) Q E s₁) E s) : wpAny (model prog w) A (eval (.Attribute e f pos) env) Q E s :=
  Attribute_any_ h (by rw [arm_eval_Attribute, hb])
end
noncomputable def sFld (K : PySem.W.Frag) (ta tv : TE) (f : Str) : TS := λ D σ H => tv σ H λ y H1 => ta σ H1 λ x H2 => ∃ a C dx fs, x = .ref a /\ H2 a = some (.ins C dx fs) /\ Cls K C /\ NoAttr K C f /\ fs.length < 1000 ∧
  D.nx σ (upd H2 a (.ins C dx (putF f y fs)))
section
variable {X : Cx} {o e value : Expr} {f : Str} {pos pos' tpos : Pos} {ta tv : TE}
theorem ps_fld (ha : PE X o ta) (hv : PE X value tv) (hs : swapsWith value (some (.Attribute o f pos')) pos.line X.env = pure false) : PS X (.Assign [.Attribute o f pos'] value pos) (sFld X.K ta tv f) := by
  intro pins s σ H D I h
  refine plainObj_wpAny_Assign_Attribute (thn (hv pins s σ H _ I h) λ u s1 ⟨y, H1, I1, ry, q⟩ => thn (ha pins s1 σ H1 _ I1 q) λ ov s2 ⟨x, H2, I2, rx, a, C, dx, fs, ex, ea, c, n, l, q2⟩ => ?_) hs
  subst ex
  obtain rfl : ov = Value.ref a := rx
  exact setattr_ok I2 ea c n l ry λ s3 I3 => ⟨σ, _, I3, q2⟩
end
section
variable {X : Cx} {pins : List (Addr × Obj)} {σ : St} {H : Hp} {s : Shared} {A : Around} {E : Value -> Shared -> Prop} {Q : Value -> Shared -> Prop} {c : Value} {b : Bool}
inductive TyOf (K : PySem.W.Frag) (H : Hp) : V -> Value -> Prop where
  | non : TyOf K H .non (.type "NoneType")
  | bl (x : Bool) : TyOf K H (.bl x) (.type "bool")
  | int (i : Int) : TyOf K H (.int i) (.type "int")
  | str (x : Str) : TyOf K H (.str x) (.type "str")
  | flt (x : UInt64) : TyOf K H (.flt x) (.type "float")
  | lst {a : Addr} {xs : List V} (e : H a = some (.lst xs)) : TyOf K H (.ref a) (.type "list")
  | frz {a : Addr} {o : Obj} {xs : List V} (e : H a = some (.frz o (.lst xs))) : TyOf K H (.ref a) (.type "list")
  | tup {a : Addr} {xs : List V} (e : H a = some (.tup xs)) : TyOf K H (.ref a) (.type "tuple")
  | dK {a : Addr} {kvs : List (Key × V)} (e : H a = some (.dK kvs)) : TyOf K H (.ref a) (.type "dict")
  | dT {a : Addr} {kvs : List (List Key × V)} (e : H a = some (.dT kvs)) : TyOf K H (.ref a) (.type "dict")
  | ins {a C dx : Addr} {fs : List (Str × V)} (e : H a = some (.ins C dx fs)) (cl : Cls K C) (ha : PySem.W.findIn K (.ref C) "__class__" = some (some (.builtin "object.__class__")))
      (hn : PySem.W.specialIn K (.builtin "object.__class__") "__get__" = some (some (.builtin "getset_descriptor.__get__"))) (htk : PySem.W.takesIn K (.builtin "object.__class__") = some true)
      (hm : PySem.W.mroIn K C (.type "object") = some true) : TyOf K H (.ref a) (.ref C)
theorem isinst_ok {x : V} {u t : Value} (I : Inv X pins σ H s) (rx : RelV x u) (ty : TyOf X.K H x t) (e : PySem.W.kitOne X.K t c = some b) (h : ∀ tk, Q (.bool b) { s with toks := tk }) :
    wpAny (model X.prog X.w) A (call (.builtin "isinstance") [u, c]) Q E s := by
  cases ty with
  | non => cases (show u = Value.none from rx); exact PySem.W.kia_one PySem.W.kitx_none I.kIn True.intro e (λ z => nomatch z) h
  | bl y => cases (show u = Value.bool y from rx); exact PySem.W.kia_one PySem.W.kitx_bool I.kIn True.intro e (λ z => nomatch z) h
  | int i => obtain ⟨t, q⟩ := (show ∃ t, u = Value.int i t from rx); cases q; exact PySem.W.kia_one PySem.W.kitx_int I.kIn True.intro e (λ z => nomatch z) h
  | str y => obtain ⟨t, q⟩ := (show ∃ t, u = Value.str y t from rx); cases q; exact PySem.W.kia_one PySem.W.kitx_str I.kIn True.intro e (λ z => nomatch z) h
  | flt y => obtain ⟨t, q⟩ := (show ∃ t, u = Value.float y t from rx); cases q; exact PySem.W.kia_one PySem.W.kitx_float I.kIn True.intro e (λ z => nomatch z) h
  | @lst a xs ea =>
    cases (show u = Value.ref a from rx)
    obtain ⟨_, _, n, _, h1⟩ := (show ObjOk X.prog X.w H s.heap a (.lst xs) from I.hok a _ ea)
    exact PySem.W.kia_one PySem.W.kitx_list I.kIn ⟨_, h1, rfl⟩ e (λ z => nomatch z) h
  | @frz a ob xs ea =>
    cases (show u = Value.ref a from rx)
    obtain ⟨_, _, _, n, _, h1⟩ := (show ObjOk X.prog X.w H s.heap a (.frz ob (.lst xs)) from I.hok a _ ea)
    exact PySem.W.kia_one PySem.W.kitx_list I.kIn ⟨_, h1, rfl⟩ e (λ z => nomatch z) h
  | @tup a xs ea =>
    cases (show u = Value.ref a from rx)
    obtain ⟨_, _, _, p⟩ := (show ObjOk X.prog X.w H s.heap a (.tup xs) from I.hok a _ ea)
    obtain ⟨o, h1, h2, _⟩ := p
    exact PySem.W.kia_one PySem.W.kitx_tuple I.kIn ⟨o, h1, h2⟩ e (λ z => nomatch z) h
  | @dK a kvs ea =>
    cases (show u = Value.ref a from rx)
    obtain ⟨_, _, vs, _, p⟩ := (show ObjOk X.prog X.w H s.heap a (.dK kvs) from I.hok a _ ea)
    obtain ⟨o, es, ep, h1, h2, _⟩ := p
    exact PySem.W.kia_one PySem.W.kitx_dict I.kIn ⟨o, h1, h2.1⟩ e (λ z => nomatch z) h
  | @dT a kvs ea =>
    cases (show u = Value.ref a from rx)
    obtain ⟨_, _, xs, _, o, es, ep, h1, h2, _⟩ := (show ObjOk X.prog X.w H s.heap a (.dT kvs) from I.hok a _ ea)
    exact PySem.W.kia_one PySem.W.kitx_dict I.kIn ⟨o, h1, h2.1⟩ e (λ z => nomatch z) h
  | @ins a C dx fs ea cl ha hn htk hm =>
    cases (show u = Value.ref a from rx)
    obtain ⟨mA, O, _⟩ := ins_get I.hok ea
    obtain ⟨od, J, _⟩ := O.look
    exact PySem.W.kia_one (PySem.W.kitx_own (cl.get _) cl.hd ha hn htk hm) I.kIn J e (λ z => nomatch z) h
end
end L2
namespace L2
open PySem PySem.Spec PyProof.Rows
structure Room (k : Nat) (A : Around) : Prop where
  hd : A.handled = none
  dp : A.depth + 3 * k + 5 < recursionLimit
  un : A.units + 16 * k + 200 < cLine
theorem Room.mono {j k : Nat} {A : Around} (r : Room k A) (h : j <= k) : Room j A := ⟨r.hd, by have := r.dp; omega, by have := r.un; omega⟩
theorem Room.deeper {k : Nat} {A : Around} (r : Room (k + 1) A) (env : Env) : Room k (A.deeper env) :=
  ⟨r.hd, by have := r.dp; show A.depth + 1 + 3 * k + 5 < _; omega, by have := r.un; show A.units + 3 + 16 * k + 200 < _; omega⟩
theorem make_depth {A : Around} {C : Addr} {us : List Value} {kw : List (Str × Value)} : (A.under (.builtin "type.__call__" ⟨.ref C :: us, kw⟩)).depth = A.depth + 1 := by
  first | rfl | simp [Around.under, Code.weight, Code.isCreation, Code.isGuard, Code.isCaller, Code.frames, Code.isFrame, guardIds]
theorem make_units {A : Around} {C : Addr} {us : List Value} {kw : List (Str × Value)} : (A.under (.builtin "type.__call__" ⟨.ref C :: us, kw⟩)).units = A.units + 1 := by
  first | rfl | simp [Around.under, Code.cUnits, Code.frames, Code.isFrame]
theorem Room.make {k : Nat} {A : Around} (r : Room (k + 1) A) (C : Addr) (us : List Value) (kw : List (Str × Value)) : Room k (A.under (.builtin "type.__call__" ⟨.ref C :: us, kw⟩)) :=
  ⟨r.hd, by have := r.dp; rw [make_depth]; omega, by have := r.un; rw [make_units]; omega⟩
theorem Room.depth {k : Nat} {A : Around} (r : Room k A) : A.depth < recursionLimit := by have := r.dp; omega
theorem Room.units {k : Nat} {A : Around} (r : Room k A) : A.units + 64 < cLine := by have := r.un; omega
noncomputable def tNil : TA := λ _ H Q => Q [] H
noncomputable def tCons (ta : TE) (tr : TA) : TA := λ σ H Q => ta σ H λ x H1 => tr σ H1 λ xs H2 => Q (x :: xs) H2
section
variable {X : Cx} {e : Expr} {es : List Expr} {te : TE} {t : TA} {pos : Pos}
theorem pa_nil : PA X [] tNil := λ _ _ _ _ H Q I h => Calls.spliced_nil ⟨[], H, I, .nil, h⟩
theorem pa_cons (ha : PE X e te) (hr : PA X es t) (hs : starEach (e :: es) X.env = (false, eval e X.env) :: starEach es X.env := by rfl) : PA X (e :: es) (tCons te t) := by
  intro pos pins s σ H Q I h
  rw [hs]
  show wpAny _ _ (spliced ((false, eval e X.env) :: backTo pos (starEach es X.env))) _ _ s
  refine Calls.spliced_cons (thn (ha pins s σ H _ I h) λ u s1 ⟨x, H1, I1, r1, q1⟩ => ?_)
  exact thn (hr pos pins s1 σ H1 _ I1 q1) λ us s2 ⟨xs, H2, I2, r2, q2⟩ => ⟨x :: xs, H2, I2, .cons r1 r2, q2⟩
noncomputable def tTup (t : TA) : TE := λ σ H Q => t σ H λ xs H1 => xs.length <= sizeLine /\ ∀ p, H1 p = none -> Q (.ref p) (upd H1 p (.tup xs))
noncomputable def tLst (t : TA) : TE := λ σ H Q => t σ H λ xs H1 => xs.length <= sizeLine /\ ∀ p, H1 p = none -> Q (.ref p) (upd H1 p (.lst xs))
theorem pe_tup {x1} (h : PA X es t) : PE X (.Tuple es x1 pos) (tTup t) := by
  intro pins s σ H Q I hq
  refine wpAny_Tuple_spliced (thn (h pos pins s σ H _ I hq) λ us s1 ⟨xs, H1, I1, r, z, q⟩ => ⟨by rw [<- r.length]; exact z, ?_⟩)
  have hf : H1 s1.heap.objs.size = none := I1.hok.fresh (Nat.le_refl _)
  refine ⟨.ref s1.heap.objs.size, upd H1 s1.heap.objs.size (.tup xs), I1.laid (t' := s1.toks) (λ b u e => Heap.get?_push_of_some _ e) (Nat.le_refl _) ?_, rfl, q _ hf⟩
  exact ⟨z, us, r, ⟨_, Heap.get?_push_size _ rfl, rfl, _, rfl⟩⟩
theorem pe_lst (h : PA X es t) : PE X (.List es pos) (tLst t) := by
  intro pins s σ H Q I hq
  refine wpAny_List_spliced (thn (h pos pins s σ H _ I hq) λ us s1 ⟨xs, H1, I1, r, z, q⟩ => ⟨by rw [<- r.length]; exact z, ?_⟩)
  have hf : H1 s1.heap.objs.size = none := I1.hok.fresh (Nat.le_refl _)
  refine ⟨.ref s1.heap.objs.size, upd H1 s1.heap.objs.size (.lst xs), I1.laid (t' := s1.toks) (λ b u e => Heap.get?_push_of_some _ e) (Nat.le_refl _) ?_, rfl, q _ hf⟩
  exact ⟨z, us, 0, r, Heap.get?_push_size _ rfl⟩
end
noncomputable abbrev Sp := List V -> Hp -> VK -> XK -> Prop
noncomputable abbrev CXT := List Env -> Hp -> Shared -> XK -> Value -> Shared -> Prop
structure Env0 (P : Program) (w : World) (K : PySem.W.Frag) (mg : Str -> Option Value) (base : Heap) (A : Around) (outer : List Env) (s : Shared) (H : Hp) : Prop where
  frames : A.frames = some outer
  mod : Mod K mg base
  bs : ∀ b o, base.get? b = some o -> s.heap.get? b = some o /\ H b = none
  bsz : base.objs.size <= s.heap.objs.size
  funs : s.heap.FunFrames base outer
  frf : ∀ b ∈ frs outer, H b = none
  hok : HOk P w H s.heap
  bare : AllBare s.gens
noncomputable def CE (outer : List Env) (P : Program) (w : World) (H : Hp) (s : Shared) (Q : VK) (u : Value) (s' : Shared) : Prop :=
  ∃ v H', s'.os = s.os /\ AllBare s'.gens /\ Un (frs outer) [] H H' s.heap s'.heap /\ HOk P w H' s'.heap /\ RelV v u /\ Q v H'
noncomputable def CR (CX : CXT) (outer : List Env) (P : Program) (w : World) (H : Hp) (s : Shared) (Q : VK) (E : XK) (r : Result) (s' : Shared) : Prop :=
  match r with
  | .ok (.ret u) => CE outer P w H s Q u s'
  | .ok _ => False
  | .error e => CX outer H s E e s'
structure FnOk (P : Program) (w : World) (K : PySem.W.Frag) (mg : Str -> Option Value) (base : Heap) (CX : CXT) (k : Nat) (f : Addr) (fd : FuncData) (ps : List Str) (sp : Sp) : Prop where
  len : ∀ vs H Q E, sp vs H Q E -> vs.length = ps.length
  run : ∀ (A : Around) (outer : List Env) (s : Shared) (H : Hp) (args : Args) (us : List Value) (vs : List V) (Q : VK) (E : XK), Room k A -> Env0 P w K mg base A outer s H -> BindsTo s fd args (ps.zip us) -> Vals vs us -> sp vs H Q E →
    codeAny (model P w) A (.call (.ref f) args) (CR CX outer P w H s Q E) s
theorem FnOk.mono {P : Program} {w : World} {K : PySem.W.Frag} {mg : Str -> Option Value} {base : Heap} {CX : CXT} {j k : Nat} {f : Addr} {fd : FuncData} {ps : List Str} {sp : Sp} (F : FnOk P w K mg base CX j f fd ps sp) (h : j <= k) :
    FnOk P w K mg base CX k f fd ps sp := ⟨F.len, λ A outer s H args us vs Q E hr => F.run A outer s H args us vs Q E (hr.mono h)⟩
theorem Env0.make {P : Program} {w : World} {K : PySem.W.Frag} {mg : Str -> Option Value} {base : Heap} {A : Around} {outer : List Env} {s : Shared} {H : Hp} (e : Env0 P w K mg base A outer s H) (C : Addr) (us : List Value) (kw : List (Str × Value)) :
    Env0 P w K mg base (A.under (.builtin "type.__call__" ⟨.ref C :: us, kw⟩)) outer s H := ⟨by first | exact e.frames | (simpa [Around.under, Code.envs, Code.isFrame, pushEnvs] using e.frames), e.mod, e.bs, e.bsz, e.funs, e.frf, e.hok, e.bare⟩
section
variable {X : Cx} {pins : List (Addr × Obj)} {σ : St} {H : Hp} {s s' : Shared}
theorem Inv.env0 (I : Inv X pins σ H s) : Env0 X.prog X.w X.K X.mg X.base X.A X.stack s H :=
  ⟨I.ok.frames, I.ok.mod, I.bs, Nat.le_trans I.ok.bsz I.sz, I.stack, I.stkFree, I.hok, I.bare⟩
theorem Inv.after {Q : VK} {u : Value} (I : Inv X pins σ H s) (h : CE X.stack X.prog X.w H s Q u s') : EP X pins σ Q u s' := by
  obtain ⟨v, H', os, bare, un, hok, r, q⟩ := h
  obtain ⟨hh, g, d, t, os'⟩ := s'
  obtain rfl : os' = s.os := os
  exact ⟨v, H', I.call (h' := hh) (g' := g) (d' := d) (t' := t) (ch := []) un hok bare (λ b z => absurd z (by simp)), r, q⟩
end
noncomputable def tCall (sp : Sp) (dvs : List V) (E : XK) (t : TA) : TE := λ σ H Q => t σ H λ vs H1 => sp (vs ++ dvs) H1 Q E
noncomputable def tMeth (C : Addr) (m : Str) (sp : Sp) (dvs : List V) (E : XK) (ta : TE) (t : TA) : TE := λ σ H Q => ta σ H λ x H1 => ∃ a dx fs, x = .ref a /\ H1 a = some (.ins C dx fs) /\ fs.lookup m = none ∧
  t σ H1 λ vs H2 => sp (x :: (vs ++ dvs)) H2 Q E
noncomputable def tMake (C : Addr) (sp : Sp) (dvs : List V) (E : XK) (t : TA) : TE := λ σ H Q => t σ H λ vs H1 => ∀ x dx, H1 x = none -> H1 dx = none -> dx ≠ x →
  sp (.ref x :: (vs ++ dvs)) (upd (upd H1 dx (.own x)) x (.ins C dx [])) (λ v H2 => v = .non /\ Q (.ref x) H2) E
noncomputable def Binds (K : PySem.W.Frag) (fd : FuncData) (ps : List Str) (ds : List Value) : Prop :=
  ∀ (s : Shared) (us : List Value), K.In s.heap -> (us ++ ds).length = ps.length -> BindsTo s fd ⟨us, []⟩ (ps.zip (us ++ ds))
theorem Binds.all {K : PySem.W.Frag} {fd : FuncData} {ps : List Str} (h : ∀ us : List Value, us.length = ps.length -> bindArgs fd ⟨us, []⟩ = pure (ps.zip us)) : Binds K fd ps [] := λ s us _ hl => by
  rw [List.append_nil] at hl ⊢
  exact .of_eq (h us hl)
noncomputable def Passes (CX : CXT) (X : Cx) (E : XK) : Prop := ∀ (pins : List (Addr × Obj)) (σ : St) (H : Hp) (s : Shared) (e : Value) (s' : Shared), Inv X pins σ H s -> CX X.stack H s E e s' -> X.xe e s'
section
variable {X : Cx} {CX : CXT} {k : Nat} {f C : Addr} {fd : FuncData} {ps : List Str} {sp : Sp} {dvs : List V} {ds : List Value} {E : XK} {x m : Str} {p pos apos : Pos} {e o : Expr} {es : List Expr} {ta : TE} {t : TA}
theorem run_fn {pins : List (Addr × Obj)} {σ : St} {H : Hp} {s : Shared} {Q : VK} {us : List Value} {vs : List V} (F : FnOk X.prog X.w X.K X.mg X.base CX k f fd ps sp) (hr : Room k X.A) (hb : Binds X.K fd ps ds) (hd : Vals dvs ds) (hx : Passes CX X E)
    (I : Inv X pins σ H s) (r : Vals vs us) (h : sp (vs ++ dvs) H Q E) : wpAny (model X.prog X.w) X.A (call (.ref f) us) (EP X pins σ Q) X.xe s := by
  have r2 : Vals (vs ++ dvs) (us ++ ds) := r.append hd
  have hl : (us ++ ds).length = ps.length := by rw [<- r2.length]; exact F.len _ _ _ _ h
  refine wpAny_call (codeAny_mono (F.run X.A X.stack s H ⟨us, []⟩ (us ++ ds) (vs ++ dvs) Q E hr I.env0 (hb s us I.kIn hl) r2 h) λ r s' hq => ?_)
  cases r with
  | error e => exact hx pins σ H s e s' I hq
  | ok fl =>
    cases fl with
    | ret u => exact I.after hq
    | next => exact False.elim hq
    | brk => exact False.elim hq
    | cont => exact False.elim hq
theorem pe_call (F : FnOk X.prog X.w X.K X.mg X.base CX k f fd ps sp) (hr : Room k X.A) (hg : Gl X x) (hm : X.mg x = some (.ref f)) (hk : PySem.W.keepIn X.K (.ref f) = true) (hb : Binds X.K fd ps ds) (hd : Vals dvs ds) (hx : Passes CX X E)
    (ha : PA X (e :: es) t) (hdb : (x == ("__debug__" : Str)) = false := by decide) (he : starEach (e :: es) X.env = (false, eval e X.env) :: starEach es X.env := by rfl) (hpl : (backTo pos (starEach es X.env)).any (·.1) = false := by rfl) :
    PE X (.Call (.Name x p) (e :: es) [] pos) (tCall sp dvs E t) := by
  intro pins s σ H Q I h
  refine wpAny_Call_Name_kw (ld_glob I hg hm ?_ hdb)
  refine PySem.W.callWith_K (h₀ := X.base) I.ok.mod.kin hk (thn (ha pos pins s σ H _ I h) λ us s1 ⟨vs, H1, I1, r, q⟩ => ⟨I1.kIn, ?_⟩) he hpl
  exact run_fn F hr hb hd hx I1 r q
theorem pe_call0 (F : FnOk X.prog X.w X.K X.mg X.base CX k f fd ps sp) (hr : Room k X.A) (hg : Gl X x) (hm : X.mg x = some (.ref f)) (hk : PySem.W.keepIn X.K (.ref f) = true) (hb : Binds X.K fd ps ds) (hd : Vals dvs ds) (hx : Passes CX X E)
    (hdb : (x == ("__debug__" : Str)) = false := by decide) : PE X (.Call (.Name x p) [] [] pos) (tCall sp dvs E tNil) := by
  intro pins s σ H Q I h
  refine wpAny_Call_Name_kw (ld_glob I hg hm ?_ hdb)
  exact PySem.W.callWith_K0 I.kIn hk (run_fn (us := []) F hr hb hd hx I .nil h)
theorem pe_meth {pl : Sem Bool} (he : PE X o ta) (c : Cls X.K C) (hm : Meth X.K C m f) (F : FnOk X.prog X.w X.K X.mg X.base CX k f fd ps sp) (hr : Room k X.A) (hb : Binds X.K fd ps ds) (hd : Vals dvs ds) (hx : Passes CX X E) (ha : PA X (e :: es) t)
    (hst : starEach (e :: es) X.env = (false, eval e X.env) :: starEach es X.env := by rfl) (hpl : (backTo pos (starEach es X.env)).any (·.1) = false := by rfl)
    (ht : eval (.Call (.Attribute o m apos) (e :: es) [] pos) X.env = (do
      let ov ← eval o X.env
      standAt apos.atName
      let (f, first) ← holding [ov] (getMethod ov m pl)
      callWith pos f first (backTo pos (starEach (e :: es) X.env)) (backToKw pos (keywordEach [] X.env))) := by rfl) :
    PE X (.Call (.Attribute o m apos) (e :: es) [] pos) (tMeth C m sp dvs E ta t) := by
  intro pins s σ H Q I h
  refine PySem.W.methodCall_KW (pl := pl) (thn (he pins s σ H _ I h) λ u s1 ⟨x, H1, I1, rx, a, dx, fs, ex, ea, l, q⟩ => ?_) ht
  subst ex
  obtain rfl : u = Value.ref a := rx
  refine getmeth_ok I1 ea c hm l ?_
  refine PySem.W.callWith_K (first := [.ref a]) (h₀ := X.base) I.ok.mod.kin hm.kp (thn (ha pos pins s1 σ H1 _ I1 q) λ us s2 ⟨vs, H2, I2, r, q2⟩ => ⟨I2.kIn, ?_⟩) hst hpl
  exact run_fn (us := .ref a :: us) (vs := .ref a :: vs) F hr hb hd hx I2 (.cons rfl r) q2
theorem pe_meth0 {pl : Sem Bool} (he : PE X o ta) (c : Cls X.K C) (hm : Meth X.K C m f) (F : FnOk X.prog X.w X.K X.mg X.base CX k f fd ps sp) (hr : Room k X.A) (hb : Binds X.K fd ps ds) (hd : Vals dvs ds) (hx : Passes CX X E)
    (ht : eval (.Call (.Attribute o m apos) [] [] pos) X.env = (do
      let ov ← eval o X.env
      standAt apos.atName
      let (f, first) ← holding [ov] (getMethod ov m pl)
      callWith pos f first (backTo pos (starEach [] X.env)) (backToKw pos (keywordEach [] X.env))) := by rfl) :
    PE X (.Call (.Attribute o m apos) [] [] pos) (tMeth C m sp dvs E ta tNil) := by
  intro pins s σ H Q I h
  refine PySem.W.methodCall_KW (pl := pl) (thn (he pins s σ H _ I h) λ u s1 ⟨x, H1, I1, rx, a, dx, fs, ex, ea, l, q⟩ => ?_) ht
  subst ex
  obtain rfl : u = Value.ref a := rx
  refine getmeth_ok I1 ea c hm l ?_
  exact PySem.W.callWith_K0 (first := [.ref a]) I1.kIn hm.kp (run_fn (us := [.ref a]) (vs := [.ref a]) F hr hb hd hx I1 (.cons rfl .nil) q)
structure Mk (K : PySem.W.Frag) (C f : Addr) : Prop where
  makes : PySem.W.makesIn K C = true
  init : PySem.W.findIn K (.ref C) "__init__" = some (some (.ref f))
  fn : PySem.W.isFn K (.ref f) = true
  kp : PySem.W.keepIn K (.ref C) = true
theorem run_make {pins : List (Addr × Obj)} {σ : St} {H : Hp} {s : Shared} {Q : VK} {us : List Value} {vs : List V} (M : Mk X.K C f) (F : FnOk X.prog X.w X.K X.mg X.base CX k f fd ps sp) (hr : Room (k + 1) X.A) (hb : Binds X.K fd ps ds) (hd : Vals dvs ds)
    (hx : Passes CX X E) (I : Inv X pins σ H s) (r : Vals vs us)
    (h : ∀ x dx, H x = none -> H dx = none -> dx ≠ x -> sp (.ref x :: (vs ++ dvs)) (upd (upd H dx (.own x)) x (.ins C dx [])) (λ v H2 => v = .non /\ Q (.ref x) H2) E) :
    wpAny (model X.prog X.w) X.A (call (.ref C) us) (EP X pins σ Q) X.xe s := by
  have hq := h (s.heap.objs.size + 1) s.heap.objs.size (I.hok.fresh (Nat.le_succ _)) (I.hok.fresh (Nat.le_refl _)) (Nat.ne_of_lt (Nat.lt_succ_self _))
  have I2 := Inv.made (C := C) I
  have r2 : Vals (V.ref (s.heap.objs.size + 1) :: (vs ++ dvs)) (Value.ref (s.heap.objs.size + 1) :: (us ++ ds)) := .cons rfl (r.append hd)
  have hl : (Value.ref (s.heap.objs.size + 1) :: us ++ ds).length = ps.length := by
    have e := r2.length
    rw [F.len _ _ _ _ hq] at e
    exact e.symm
  refine wpAny_call (make_map (f := f) I.kIn M.makes M.init (beq_iff_eq.mp M.fn) (codeAny_mono (F.run _ X.stack _ _ ⟨Value.ref (s.heap.objs.size + 1) :: us, []⟩ (Value.ref (s.heap.objs.size + 1) :: (us ++ ds)) _ _ E (hr.make C us [])
    (I2.env0.make C us []) (hb _ (Value.ref (s.heap.objs.size + 1) :: us) I2.kIn hl) r2 hq) λ r s' hq' => ?_))
  cases r with
  | error e => exact hx pins σ _ _ e s' I2 hq'
  | ok fl =>
    cases fl with
    | ret u =>
      obtain ⟨v, H', I3, rv, ev, q3⟩ := I2.after hq'
      subst ev
      exact ⟨rv, ⟨V.ref (s.heap.objs.size + 1), H', I3, rfl, q3⟩⟩
    | next => exact False.elim hq'
    | brk => exact False.elim hq'
    | cont => exact False.elim hq'
theorem pe_make (M : Mk X.K C f) (F : FnOk X.prog X.w X.K X.mg X.base CX k f fd ps sp) (hr : Room (k + 1) X.A) (hg : Gl X x) (hm : X.mg x = some (.ref C)) (hb : Binds X.K fd ps ds) (hd : Vals dvs ds) (hx : Passes CX X E)
    (ha : PA X (e :: es) t) (hdb : (x == ("__debug__" : Str)) = false := by decide) (he : starEach (e :: es) X.env = (false, eval e X.env) :: starEach es X.env := by rfl) (hpl : (backTo pos (starEach es X.env)).any (·.1) = false := by rfl) :
    PE X (.Call (.Name x p) (e :: es) [] pos) (tMake C sp dvs E t) := by
  intro pins s σ H Q I h
  refine wpAny_Call_Name_kw (ld_glob I hg hm ?_ hdb)
  refine PySem.W.callWith_K (h₀ := X.base) I.ok.mod.kin M.kp (thn (ha pos pins s σ H _ I h) λ us s1 ⟨vs, H1, I1, r, q⟩ => ⟨I1.kIn, ?_⟩) he hpl
  exact run_make M F hr hb hd hx I1 r q
theorem pe_make0 (M : Mk X.K C f) (F : FnOk X.prog X.w X.K X.mg X.base CX k f fd ps sp) (hr : Room (k + 1) X.A) (hg : Gl X x) (hm : X.mg x = some (.ref C)) (hb : Binds X.K fd ps ds) (hd : Vals dvs ds) (hx : Passes CX X E)
    (hdb : (x == ("__debug__" : Str)) = false := by decide) : PE X (.Call (.Name x p) [] [] pos) (tMake C sp dvs E tNil) := by
  intro pins s σ H Q I h
  refine wpAny_Call_Name_kw (ld_glob I hg hm ?_ hdb)
  exact PySem.W.callWith_K0 I.kIn M.kp (run_make (us := []) M F hr hb hd hx I .nil h)
end
section
variable {X : Cx} {CX : CXT} {k : Nat} {f C : Addr} {fd : FuncData} {ps ks : List Str} {sp : Sp} {E : XK} {x m : Str} {p pos apos kpos : Pos} {e o : Expr} {es : List Expr} {kws : List Keyword} {te ta : TE} {t tk : TA} {nm : Option Str}
variable {g : List Value -> List Value -> List Value} {gV : List V -> List V -> List V}
end
structure FnScope (N P : List Str) (sc : Scope) : Prop where
  kind : sc.kind = .function
  co : sc.isCoroutine = false
  gen : sc.isGenerator = false
  nd : N.Nodup
  pre : N.take P.length = P
  par : ∀ x ∈ P, sc.names.lookup x = some .local \/ sc.names.lookup x = some .cell
  nofree : ∀ y ∈ sc.names, y.2 ≠ .free
theorem bindL_out {kindOf : Str -> Option NameKind} {x : Str} : ∀ {binds : List (Str × Value)} {m : Str -> Option Value}, (∀ v, (x, v) ∉ binds) -> bindL kindOf binds m x = m x
  | [], _, _ => rfl
  | (n, v) :: r, m, h => by
    unfold bindL
    rw [bindL_out λ w hw => h w (List.mem_cons_of_mem _ hw)]
    split
    . have : x ≠ n := by rintro rfl; exact h v List.mem_cons_self
      simp [this]
    . rfl
theorem bindC_out {kindOf : Str -> Option NameKind} {x : Str} : ∀ {binds : List (Str × Value)} {m : Str -> Option Value}, (∀ v, (x, v) ∉ binds) -> bindC kindOf binds m x = m x
  | [], _, _ => rfl
  | (n, v) :: r, m, h => by
    unfold bindC
    rw [bindC_out λ w hw => h w (List.mem_cons_of_mem _ hw)]
    split
    . rfl
    . have : x ≠ n := by rintro rfl; exact h v List.mem_cons_self
      simp [this]
theorem bindL_get {kindOf : Str -> Option NameKind} {x : Str} {v : Value} : ∀ {P : List Str} {vs : List Value} {i : Nat} {m : Str -> Option Value}, P.Nodup -> P[i]? = some x -> vs[i]? = some v -> kindOf x = some .local →
    bindL kindOf (P.zip vs) m x = some v
  | [], _, _, _, _, h, _, _ => by simp at h
  | _ :: _, [], _, _, _, _, h, _ => by simp at h
  | p :: P, w :: vs, 0, m, nd, h1, h2, hk => by
    simp at h1 h2; subst h1; subst h2
    show bindL kindOf ((p, w) :: P.zip vs) m p = _
    unfold bindL
    rw [bindL_out λ v hv => (List.nodup_cons.mp nd).1 (List.of_mem_zip hv).1, if_pos hk]
    simp
  | p :: P, w :: vs, i + 1, m, nd, h1, h2, hk => by
    show bindL kindOf ((p, w) :: P.zip vs) m x = _
    unfold bindL
    exact bindL_get (i := i) (List.nodup_cons.mp nd).2 (by simpa using h1) (by simpa using h2) hk
theorem bindC_get {kindOf : Str -> Option NameKind} {x : Str} {v : Value} : ∀ {P : List Str} {vs : List Value} {i : Nat} {m : Str -> Option Value}, P.Nodup -> P[i]? = some x -> vs[i]? = some v -> kindOf x ≠ some .local →
    bindC kindOf (P.zip vs) m x = some v
  | [], _, _, _, _, h, _, _ => by simp at h
  | _ :: _, [], _, _, _, _, h, _ => by simp at h
  | p :: P, w :: vs, 0, m, nd, h1, h2, hk => by
    simp at h1 h2; subst h1; subst h2
    show bindC kindOf ((p, w) :: P.zip vs) m p = _
    unfold bindC
    rw [bindC_out λ v hv => (List.nodup_cons.mp nd).1 (List.of_mem_zip hv).1, if_neg hk]
    simp
  | p :: P, w :: vs, i + 1, m, nd, h1, h2, hk => by
    show bindC kindOf ((p, w) :: P.zip vs) m x = _
    unfold bindC
    exact bindC_get (i := i) (List.nodup_cons.mp nd).2 (by simpa using h1) (by simpa using h2) hk
noncomputable def start (N : List Str) (vs : List V) : St := vs.map some ++ List.replicate (N.length - vs.length) none
noncomputable def cxOf (CX : CXT) (P : Program) (w : World) (K : PySem.W.Frag) (mg : Str -> Option Value) (base : Heap) (N : List Str) (qual : Str) (scope : Scope) (f : Addr) (cd : Value) (A : Around) (outer : List Env) (s : Shared) (H : Hp) (E : XK) : Cx where
  prog := P
  w := w
  K := K
  mg := mg
  base := base
  A := A.deeper (envOfC qual scope s.heap.objs.size f cd)
  N := N
  s₀ := s
  H₀ := H
  env := envOfC qual scope s.heap.objs.size f cd
  outer := outer
  stack := envOfC qual scope s.heap.objs.size f cd :: outer
  ex := []
  calm := true
  fn := λ _ => true
  pn := []
  xe := λ e s' => wpAny (model P w) (A.deeper (envOfC qual scope s.heap.objs.size f cd)) (leaving (envOfC qual scope s.heap.objs.size f cd) e) (λ _ s'' => CX outer H s E e s'') (λ e' s'' => CX outer H s E e' s'') s'
theorem cell_has {sc : Scope} {n : Nat} {x : Str} (h : sc.names.lookup x = some .cell) : ∃ c, (cellsFrom n sc.names []).lookup x = some c := by
  have q := PySem.W.cellsFrom_some sc.names n [] (.inl h)
  exact Option.isSome_iff_exists.mp q
theorem inv_start {CX : CXT} {P : Program} {w : World} {K : PySem.W.Frag} {mg : Str -> Option Value} {base : Heap} {N ps : List Str} {qual : Str} {scope : Scope} {f : Addr} {cd : Value} {A : Around} {outer : List Env} {s s1 : Shared} {H : Hp} {E : XK} {us : List Value} {vs : List V}
    (S : FnScope N ps scope) (hd : A.handled = none) (e0 : Env0 P w K mg base A outer s H) (hl : vs.length = ps.length) (r : Vals vs us)
    (x : InCallC s s.heap.objs.size (bindL (envOfC qual scope s.heap.objs.size f cd).kindOf (ps.zip us) λ _ => none) (cellsFrom (s.heap.objs.size + 1) scope.names []) (bindC (envOfC qual scope s.heap.objs.size f cd).kindOf (ps.zip us) λ _ => none) s1) :
    Inv (cxOf CX P w K mg base N qual scope f cd A outer s H E) [] (start N vs) H s1 := by
  have hpl : ps.length <= N.length := by have := congrArg List.length S.pre; rw [List.length_take] at this; omega
  obtain ⟨h1, tk, rfl, hk⟩ := x.done
  have noA : ∀ b : Addr, b ∉ (cxOf CX P w K mg base N qual scope f cd A outer s H E).ex := λ b z => absurd (show b ∈ ([] : List Addr) from z) (by simp)
  refine ⟨⟨e0.mod, S.kind, rfl, rfl, Nat.le_refl _, λ y z c h1 h2 => ?_, λ y hy => ?_, λ y c _ h => ?_, λ _ => hd, Around.frames_deeper e0.frames, .inr ⟨rfl, rfl⟩, λ b z => absurd z (noA b), e0.bs, e0.bsz, λ b _ _ => noA b, λ b z => absurd z (noA b), e0.funs, e0.frf⟩,
    rfl, e0.bare, Un.kept hk, ⟨_, x.toInCall.ns, λ i y v h1 h2 h3 => ?_⟩, λ y c h => ⟨_, x.cell y c h⟩, e0.hok.fresh (Nat.le_refl _), λ y c h => ?_, λ p hp => absurd (show p ∈ ([] : List (Addr × Obj)) from hp) (by simp), e0.hok.kept hk, ?_⟩
  . exact name_of_addr x.apart (PySem.mem_of_lookup h1) (PySem.mem_of_lookup h2)
  . have hy : scope.names.lookup y = some .cell \/ scope.names.lookup y = some .free := hy
    rcases hy with hy | hy
    . exact cell_has hy
    . exact absurd rfl (S.nofree _ (PySem.mem_of_lookup hy))
  . exact Nat.le_of_lt (x.above y c (PySem.mem_of_lookup h))
  . have hi : i < vs.length := by
      unfold start at h2
      by_cases hi : i < vs.length
      . exact hi
      . rw [List.getElem?_append_right (by simpa using hi)] at h2
        rw [List.getElem?_replicate] at h2
        split at h2 <;> cases h2
    have ha : vs[i]? = some v := by
      unfold start at h2
      rw [List.getElem?_append_left (by simpa using hi), List.getElem?_map] at h2
      cases e : vs[i]? with
      | none => rw [e] at h2; cases h2
      | some a => rw [e] at h2; cases h2; rfl
    obtain ⟨u, hu, rv⟩ := r.get ha
    have hp : ps[i]? = some y := by
      rw [<- S.pre, List.getElem?_take_of_lt (by omega)]; exact h1
    have ndP : ps.Nodup := by rw [<- S.pre]; exact S.nd.sublist (List.take_sublist _ _)
    refine ⟨u, rv, ?_⟩
    rcases S.par y (List.mem_of_getElem? hp) with k | k
    . exact .inl ⟨k, bindL_get ndP hp hu k⟩
    . obtain ⟨c, e⟩ := cell_has (n := s.heap.objs.size + 1) k
      refine .inr ⟨.inl k, c, e, ?_⟩
      have q := x.cell y c e
      rw [bindC_get ndP hp hu (by show scope.names.lookup y ≠ _; rw [k]; decide)] at q
      exact q
  . exact e0.hok.fresh (Nat.le_of_lt (x.above y c (PySem.mem_of_lookup h)))
  . unfold start
    show _ = N.length
    rw [List.length_append, List.length_map, List.length_replicate]
    omega
theorem fn_of {CX : CXT} {P : Program} {w : World} {K : PySem.W.Frag} {mg : Str -> Option Value} {base : Heap} {k : Nat} {f : Addr} {name qual : Str} {params : Arguments} {body : List Stmt} {scope : Scope} {dV kV doc pm cdv ct oc : Value} {an od : Option Addr}
    {osl : Array (Option Value)} {N ps : List Str} {sp : Sp} (lk : K.lookup f = some ⟨oc, od, .func (PySem.W.fnOf name qual params body scope dV kV doc pm an cdv ct), osl⟩) (hcd : PySem.W.codeIn K cdv qual = true) (S : FnScope N ps scope)
    (len : ∀ vs H Q E, sp vs H Q E -> vs.length = ps.length)
    (hbody : ∀ (A : Around) (outer : List Env) (s : Shared) (H : Hp) (vs : List V) (Q : VK) (E : XK), Room k (A.deeper (envOfC qual scope s.heap.objs.size f cdv)) -> sp vs H Q E →
      ∃ t, PSs (cxOf CX P w K mg base N qual scope f cdv A outer s H E) body t /\ t { nx := λ _ H' => Q .non H', rt := Q } (start N vs) H) :
    FnOk P w K mg base CX (k + 1) f (PySem.W.fnOf name qual params body scope dV kV doc pm an cdv ct) ps sp := by
  refine ⟨len, λ A outer s H args us vs Q E hr e0 hb r hsp => ?_⟩
  have hl := len _ _ _ _ hsp
  have KX : K.In s.heap := e0.mod.kin.keeps λ b o e => (e0.bs b o e).1
  have lim : s.heap.NoLimit := e0.mod.nolimit.keeps λ b o e => (e0.bs b o e).1
  have hkind : ∀ y ∈ ps.zip us, scope.names.lookup y.1 = some .local \/ (scope.names.lookup y.1 = some .cell /\ ((cellsFrom (s.heap.objs.size + 1) scope.names []).lookup y.1).isSome = true) := λ ⟨n, v⟩ hy => by
    rcases S.par n (List.of_mem_zip hy).1 with q | q
    . exact .inl q
    . exact .inr ⟨q, PySem.W.cellsFrom_some _ _ _ (.inl q)⟩
  refine codeAny_call_function hr.depth (KX _ _ lk) rfl S.co S.gen rfl (PySem.W.codeRec_of KX hcd) (hb _ _ _ _ ?_)
  refine wpAny_newFunctionEnv_cells S.kind hkind λ env he s1 x => ?_
  subst he
  refine ⟨lim.keeps x.toInCall.keep, codeAny_func ?_⟩
  obtain ⟨t, ht, hq⟩ := hbody A outer s H vs Q E (hr.deeper _) hsp
  have I : Inv (cxOf CX P w K mg base N qual scope f cdv A outer s H E) [] (start N vs) H s1 := inv_start S hr.hd e0 hl r x
  refine wpAny_mono (ht [] s1 (start N vs) H _ I hq) (λ fl s' hs => ?_) λ e s' hs => hs
  have fin : ∀ {σ' : St} {H' : Hp} {v : V} {u : Value}, Inv (cxOf CX P w K mg base N qual scope f cdv A outer s H E) [] σ' H' s' -> RelV v u -> Q v H' -> CE outer P w H s Q u s' :=
    λ {σ' H' v u} J rv q => ⟨v, H', J.os, J.bare, J.base, J.hok, rv, q⟩
  cases fl with
  | ret u =>
    obtain ⟨v, σ', H', J, rv, q⟩ := hs
    exact fin J rv q
  | next =>
    obtain ⟨σ', H', J, q⟩ := hs
    exact fin (v := V.non) (u := Value.none) J rfl q
  | brk =>
    obtain ⟨_, _, _, q⟩ := hs
    exact False.elim q
  | cont =>
    obtain ⟨_, _, _, q⟩ := hs
    exact False.elim q
end L2
namespace L2
open PySem PySem.Spec PyProof.Rows
section
variable {X : Cx} {x : Str} {p pos : Pos} {e : Expr} {es : List Expr} {t : TA} {id T : String} {r : List V -> Hp -> VK -> Prop}
noncomputable def tCB (r : List V -> Hp -> VK -> Prop) (t : TA) : TE := λ σ H Q => t σ H λ vs H1 => r vs H1 Q
theorem pe_callB (hc : CallR X (.builtin id) r) (hg : Gl X x) (hm : X.mg x = none) (hv : bootBuiltins x = some (.builtin id)) (ha : PA X (e :: es) t) (hn : x ≠ "__name__" := by decide) (hdb : (x == ("__debug__" : Str)) = false := by decide)
    (he : starEach (e :: es) X.env = (false, eval e X.env) :: starEach es X.env := by rfl) (hpl : (backTo pos (starEach es X.env)).any (·.1) = false := by rfl) : PE X (.Call (.Name x p) (e :: es) [] pos) (tCB r t) := by
  intro pins s σ H Q I h
  refine wpAny_Call_Name_kw (ld_blt I hg hm hv ?_ hn hdb)
  exact PyProof.Rows.callWith_builtin1 (thn (ha pos pins s σ H _ I h) λ us s1 ⟨vs, H1, I1, r1, q1⟩ => hc pins s1 σ H1 vs us Q I1 r1 q1) he hpl
theorem pe_callTy (hc : CallR X (.type T) r) (hg : Gl X x) (hm : X.mg x = none) (hv : bootBuiltins x = some (.type T)) (ha : PA X (e :: es) t) (hn : x ≠ "__name__" := by decide) (hdb : (x == ("__debug__" : Str)) = false := by decide)
    (he : starEach (e :: es) X.env = (false, eval e X.env) :: starEach es X.env := by rfl) (hpl : (backTo pos (starEach es X.env)).any (·.1) = false := by rfl) : PE X (.Call (.Name x p) (e :: es) [] pos) (tCB r t) := by
  intro pins s σ H Q I h
  refine wpAny_Call_Name_kw (ld_blt I hg hm hv ?_ hn hdb)
  exact PyProof.Rows.callWith_type1 (thn (ha pos pins s σ H _ I h) λ us s1 ⟨vs, H1, I1, r1, q1⟩ => hc pins s1 σ H1 vs us Q I1 r1 q1) he hpl
end
end L2
namespace L2
open PySem PySem.Spec PyProof.Rows
section
variable {κ : Type} [DecidableEq κ]
noncomputable def valV (kvs : List (κ × V)) (k : κ) : Option V := (kvs.find? λ kv => decide (kv.1 = k)).map (·.2)
noncomputable def putK (kvs : List (κ × V)) (k : κ) (v : V) : List (κ × V) :=
  if (kvs.any λ kv => decide (kv.1 = k)) = true then kvs.map (λ kv => if kv.1 = k then (kv.1, v) else kv) else kvs ++ [(k, v)]
theorem valV_pos {p : κ × V} {r : List (κ × V)} {k : κ} (e : p.1 = k) : valV (p :: r) k = some p.2 := by simp [valV, List.find?_cons, e]
theorem valV_neg {p : κ × V} {r : List (κ × V)} {k : κ} (e : ¬ p.1 = k) : valV (p :: r) k = valV r k := by simp [valV, List.find?_cons, e]
theorem valV_any (k : κ) : ∀ kvs : List (κ × V), (kvs.any λ kv => decide (kv.1 = k)) = (valV kvs k).isSome
  | [] => rfl
  | p :: r => by
    rw [List.any_cons]
    by_cases e : p.1 = k
    . simp only [valV_pos e, decide_eq_true e, Bool.true_or, Option.isSome_some]
    . rw [valV_neg e, decide_eq_false e, Bool.false_or]; exact valV_any k r
theorem valV_map (k j : κ) (y : V) : ∀ kvs : List (κ × V), valV (kvs.map λ kv => if kv.1 = k then (kv.1, y) else kv) j = (valV kvs j).map λ x => if j = k then y else x
  | [] => rfl
  | p :: r => by
    have ih := valV_map k j y r
    rw [List.map_cons]
    by_cases h : p.1 = k
    . rw [if_pos h]
      by_cases e : p.1 = j
      . rw [valV_pos (p := (p.1, y)) e, valV_pos e, Option.map_some, if_pos (e.symm.trans h)]
      . rw [valV_neg (p := (p.1, y)) e, valV_neg e, ih]
    . rw [if_neg h]
      by_cases e : p.1 = j
      . rw [valV_pos (p := p) e, valV_pos e, Option.map_some, if_neg (λ z => h (e.trans z))]
      . rw [valV_neg (p := p) e, valV_neg e, ih]
theorem valV_snoc (k j : κ) (y : V) : ∀ kvs : List (κ × V), valV kvs k = none -> valV (kvs ++ [(k, y)]) j = if j = k then some y else valV kvs j
  | [], _ => by
    by_cases e : k = j
    . rw [if_pos e.symm]; exact valV_pos (p := (k, y)) e
    . rw [if_neg (λ z => e z.symm)]; exact valV_neg (p := (k, y)) e
  | p :: r, hn => by
    rw [List.cons_append]
    have hk : ¬ p.1 = k := λ z => by rw [valV_pos z] at hn; cases hn
    rw [valV_neg hk] at hn
    have ih := valV_snoc k j y r hn
    by_cases e : p.1 = j
    . rw [valV_pos e, valV_pos e, if_neg (λ z => hk (e.trans z))]
    . rw [valV_neg e, valV_neg e, ih]
theorem valV_put (kvs : List (κ × V)) (k j : κ) (y : V) : valV (putK kvs k y) j = if j = k then some y else valV kvs j := by
  unfold putK
  by_cases a : (kvs.any λ kv => decide (kv.1 = k)) = true
  . rw [if_pos a, valV_map]
    rw [valV_any] at a
    by_cases e : j = k
    . obtain ⟨x, hx⟩ := Option.isSome_iff_exists.mp a
      rw [if_pos e, e, hx, Option.map_some, if_pos rfl]
    . rw [if_neg e]
      cases valV kvs j with
      | none => rfl
      | some x => rw [Option.map_some, if_neg e]
  . rw [if_neg a]
    refine valV_snoc k j y kvs ?_
    rw [valV_any] at a
    cases q : valV kvs k with
    | none => rfl
    | some x => rw [q] at a; exact (a rfl).elim
theorem length_putK (kvs : List (κ × V)) (k : κ) (v : V) : (putK kvs k v).length <= kvs.length + 1 := by
  unfold putK
  split
  . rw [List.length_map]; omega
  . rw [List.length_append, List.length_cons, List.length_nil]; omega
theorem putK_new {kvs : List (κ × V)} {k : κ} (v : V) (h : valV kvs k = none) : putK kvs k v = kvs ++ [(k, v)] := by
  unfold putK
  rw [valV_any, h]
  exact if_neg (by decide)
theorem RelO.isSome_eq {o : Option V} {u : Option Value} (r : RelO o u) : o.isSome = u.isSome := by
  cases o with
  | none => cases u with
    | none => rfl
    | some _ => exact (show False from r).elim
  | some _ => cases u with
    | none => exact (show False from r).elim
    | some _ => rfl
theorem RelO.getD {o : Option V} {u : Option Value} {d : V} {d' : Value} (r : RelO o u) (rd : RelV d d') : RelV (o.getD d) (u.getD d') := by
  cases o with
  | none => cases u with
    | none => exact rd
    | some _ => exact (show False from r).elim
  | some _ => cases u with
    | none => exact (show False from r).elim
    | some _ => exact r
theorem KV.val {kvs : List (κ × V)} {vs : List (κ × Value)} (r : KV kvs vs) (k : κ) : RelO (valV kvs k) (valueAt vs k) := by
  unfold KV at r
  induction r with
  | nil => exact True.intro
  | @cons p q ps qs h t ih =>
    obtain ⟨h1, h2⟩ := h
    by_cases e : p.1 = k
    . have e' : q.1 = k := h1.symm.trans e
      have b : valueAt (q :: qs) k = some q.2 := by simp [valueAt, List.find?_cons, e']
      rw [valV_pos e, b]; exact h2
    . have e' : ¬ q.1 = k := λ z => e (h1.trans z)
      have b : valueAt (q :: qs) k = valueAt qs k := by simp [valueAt, List.find?_cons, e']
      rw [valV_neg e, b]; exact ih
theorem KV.any {kvs : List (κ × V)} {vs : List (κ × Value)} (r : KV kvs vs) (k : κ) : (kvs.any λ kv => decide (kv.1 = k)) = vs.any λ kv => decide (kv.1 = k) := by
  unfold KV at r
  induction r with
  | nil => rfl
  | cons h t ih => rw [List.any_cons, List.any_cons, ih, h.1]
theorem KV.repl {kvs : List (κ × V)} {vs : List (κ × Value)} (r : KV kvs vs) (k : κ) {y : V} {u : Value} (ry : RelV y u) :
    KV (kvs.map λ kv => if kv.1 = k then (kv.1, y) else kv) (vs.map λ kv => if kv.1 = k then (kv.1, u) else kv) := by
  unfold KV at r ⊢
  induction r with
  | nil => exact .nil
  | @cons p q ps qs h t ih =>
    rw [List.map_cons, List.map_cons]
    refine .cons ?_ ih
    obtain ⟨h1, h2⟩ := h
    by_cases e : p.1 = k
    . rw [if_pos e, if_pos (h1.symm.trans e)]; exact ⟨h1, ry⟩
    . rw [if_neg e, if_neg (λ z => e (h1.trans z))]; exact ⟨h1, h2⟩
theorem KV.put {kvs : List (κ × V)} {vs : List (κ × Value)} (r : KV kvs vs) (k : κ) {y : V} {u : Value} (ry : RelV y u) : KV (putK kvs k y) (stored vs k u) := by
  unfold putK stored
  rw [r.any k]
  by_cases e : (vs.any λ kv => decide (kv.1 = k)) = true
  . rw [if_pos e, if_pos e]; exact r.repl k ry
  . rw [if_neg e, if_neg e]; exact Paired.snoc r ⟨rfl, ry⟩
theorem KV.length {kvs : List (κ × V)} {vs : List (κ × Value)} (r : KV kvs vs) : kvs.length = vs.length := Paired.length r
end
theorem kV_is {P : Program} {w : World} {k : Key} {u : Value} (r : RelV (kV k) u) : (mixKind P w).is k u = true := by
  cases k with
  | inl i => obtain ⟨t, e⟩ := (show ∃ t, u = Value.int i t from r); subst e; exact mixKind_int P w i t
  | inr x => obtain ⟨t, e⟩ := (show ∃ t, u = Value.str x t from r); subst e; exact mixKind_str P w x t
theorem items_are {P : Program} {w : World} : ∀ {ks : List Key} {us : List Value}, Vals (ks.map kV) us -> ItemsAre (mixKind P w) ks us
  | [], _, r => by rw [List.map_nil] at r; cases r; exact .nil
  | k :: ks, _, r => by
    rw [List.map_cons] at r
    cases r with
    | cons h t => exact .cons (kV_is h) (items_are t)
noncomputable abbrev KT (H : Hp) : List (List Key × V) -> List (List Key × Addr × Value) -> Prop := Paired λ p q => p.1 = q.1 /\ H q.2.1 = some (.tup (p.1.map kV)) /\ RelV p.2 q.2.2
theorem KT.val {H : Hp} {kvs : List (List Key × V)} {xs : List (List Key × Addr × Value)} (r : KT H kvs xs) (k : List Key) : RelO (valV kvs k) ((atKey xs k).map (·.2)) := by
  induction r with
  | nil => exact True.intro
  | @cons p q ps qs h t ih =>
    obtain ⟨h1, _, h2⟩ := h
    by_cases e : p.1 = k
    . have e' : q.1 = k := h1.symm.trans e
      have b : atKey (q :: qs) k = some q.2 := by simp [atKey, List.find?_cons, e']
      rw [valV_pos e, b]; exact h2
    . have e' : ¬ q.1 = k := λ z => e (h1.trans z)
      have b : atKey (q :: qs) k = atKey qs k := by simp [atKey, List.find?_cons, e']
      rw [valV_neg e, b]; exact ih
theorem KT.repl {H : Hp} {kvs : List (List Key × V)} {xs : List (List Key × Addr × Value)} (r : KT H kvs xs) (k : List Key) {y : V} {u : Value} (ry : RelV y u) :
    KT H (kvs.map λ kv => if kv.1 = k then (kv.1, y) else kv) (xs.map (putAt k u)) := by
  induction r with
  | nil => exact .nil
  | @cons p q ps qs h t ih =>
    rw [List.map_cons, List.map_cons]
    refine .cons ?_ ih
    obtain ⟨h1, h2, h3⟩ := h
    unfold putAt
    by_cases e : p.1 = k
    . rw [if_pos e, if_pos (h1.symm.trans e)]; exact ⟨h1, h2, ry⟩
    . rw [if_neg e, if_neg (λ z => e (h1.trans z))]; exact ⟨h1, h2, h3⟩
theorem KT.put {H : Hp} {kvs : List (List Key × V)} {xs : List (List Key × Addr × Value)} (r : KT H kvs xs) (k : List Key) {b : Addr} {y : V} {u : Value} (hb : H b = some (.tup (k.map kV))) (ry : RelV y u) :
    KT H (putK kvs k y) (storedH xs k b u) := by
  have e : (kvs.any λ kv => decide (kv.1 = k)) = (atKey xs k).isSome := by
    rw [valV_any, (r.val k).isSome_eq, Option.isSome_map]
  unfold putK storedH
  rw [e]
  by_cases q : (atKey xs k).isSome = true
  . rw [if_pos q, if_pos q]; exact r.repl k ry
  . rw [if_neg q, if_neg q]; exact Paired.snoc r ⟨rfl, hb, ry⟩
theorem KT.keeps {H H' : Hp} {kvs : List (List Key × V)} {xs : List (List Key × Addr × Value)} (r : KT H kvs xs) (ht : ∀ b ys, H b = some (.tup ys) -> H' b = some (.tup ys)) : KT H' kvs xs :=
  Paired.mapP r λ _ _ z => ⟨z.1, ht _ _ z.2.1, z.2.2⟩
section
variable {P : Program} {w : World} {H : Hp} {h : Heap} {a : Addr}
theorem rd_of {u : HO} (ok : HOk P w H h) (e : Rd H a u) : ObjOk P w H h a u := e.ok ok
theorem dk_rd {kvs : List (Key × V)} (ok : HOk P w H h) (e : Rd H a (.dK kvs)) : kvs.length <= sizeLine /\ (a == sysModules) = false /\ ∃ vs, KV kvs vs /\ h.DictOf (mixKind P w) a vs :=
  show ObjOk P w H h a (.dK kvs) from rd_of ok e
theorem dk_of {kvs : List (Key × V)} (ok : HOk P w H h) (e : H a = some (.dK kvs)) : kvs.length <= sizeLine /\ (a == sysModules) = false /\ ∃ vs, KV kvs vs /\ h.DictOf (mixKind P w) a vs := dk_rd ok (.inl e)
theorem key_of {ks : List Key} (ok : HOk P w H h) (e : H a = some (.tup (ks.map kV))) : (tupleKind (mixKind P w)).is h ks a := by
  obtain ⟨_, its, r, o, h1, h2, n, h3⟩ := (show ObjOk P w H h a (.tup (ks.map kV)) from ok a _ e)
  exact ⟨o, its.toArray, n, h1, h2, h3, by simpa using items_are r⟩
theorem dt_rd {kvs : List (List Key × V)} (ok : HOk P w H h) (e : Rd H a (.dT kvs)) : kvs.length <= sizeLine /\ (a == sysModules) = false ∧
    ∃ xs, KT H kvs xs /\ h.DictOfH (tupleKind (mixKind P w)) a xs := by
  obtain ⟨z, y, xs, r, o, es, ep, h1, h2, h3, h4, h5⟩ := (show ObjOk P w H h a (.dT kvs) from rd_of ok e)
  refine ⟨z, y, xs, r, o, es, ep, h1, h2, h3, h4, λ x hx => ?_, h5⟩
  have all : ∀ {l : List (List Key × V)} {m : List (List Key × Addr × Value)}, KT H l m -> ∀ x ∈ m, (tupleKind (mixKind P w)).is h x.1 x.2.1 := by
    intro l m q
    induction q with
    | nil => intro x hx; exact nomatch hx
    | @cons p q ps qs hq t ih =>
      intro x hx
      rcases List.mem_cons.mp hx with e | hx
      . subst e
        exact key_of ok (by rw [<- hq.1]; exact hq.2.1)
      . exact ih x hx
  exact all r x hx
theorem dt_of {kvs : List (List Key × V)} (ok : HOk P w H h) (e : H a = some (.dT kvs)) : kvs.length <= sizeLine /\ (a == sysModules) = false ∧
    ∃ xs, KT H kvs xs /\ h.DictOfH (tupleKind (mixKind P w)) a xs := dt_rd ok (.inl e)
end
noncomputable def DGet (H : Hp) (a : Addr) (y : V) (r : Option V) : Prop :=
  (∃ kvs k, Rd H a (.dK kvs) /\ y = kV k /\ r = valV kvs k) \/ ∃ kvs k b, Rd H a (.dT kvs) /\ y = .ref b /\ H b = some (.tup (k.map kV)) /\ r = valV kvs k
noncomputable def DPut (H : Hp) (a : Addr) (y v : V) (H' : Hp) : Prop :=
  (∃ kvs k, H a = some (.dK kvs) /\ y = kV k /\ kvs.length < sizeLine /\ H' = upd H a (.dK (putK kvs k v))) ∨
  ∃ kvs k b, H a = some (.dT kvs) /\ y = .ref b /\ H b = some (.tup (k.map kV)) /\ kvs.length < sizeLine /\ H' = upd H a (.dT (putK kvs k v))
theorem DGet.k {H : Hp} {a : Addr} {kvs : List (Key × V)} {k : Key} (e : H a = some (.dK kvs)) : DGet H a (kV k) (valV kvs k) := .inl ⟨kvs, k, .inl e, rfl, rfl⟩
theorem DGet.t {H : Hp} {a b : Addr} {kvs : List (List Key × V)} {k : List Key} (e : H a = some (.dT kvs)) (eb : H b = some (.tup (k.map kV))) : DGet H a (.ref b) (valV kvs k) := .inr ⟨kvs, k, b, .inl e, rfl, eb, rfl⟩
theorem DPut.k {H : Hp} {a : Addr} {kvs : List (Key × V)} {k : Key} {v : V} (e : H a = some (.dK kvs)) (hl : kvs.length < sizeLine) : DPut H a (kV k) v (upd H a (.dK (putK kvs k v))) := .inl ⟨kvs, k, e, rfl, hl, rfl⟩
theorem DPut.t {H : Hp} {a b : Addr} {kvs : List (List Key × V)} {k : List Key} {v : V} (e : H a = some (.dT kvs)) (eb : H b = some (.tup (k.map kV))) (hl : kvs.length < sizeLine) :
    DPut H a (.ref b) v (upd H a (.dT (putK kvs k v))) := .inr ⟨kvs, k, b, e, rfl, eb, hl, rfl⟩
section
variable {X : Cx} {pins : List (Addr × Obj)} {σ : St} {H : Hp} {s : Shared} {a : Addr} {y v : V} {u r : Value} {o : Option V} {A : Around} {E : Value -> Shared -> Prop}
theorem Inv.big (I : Inv X pins σ H s) : sysModules < s.heap.objs.size := by
  have h : mainGlobals < s.heap.objs.size := (I.mod.glob.keeps I.bk).lt
  exact Nat.lt_trans (by decide) h
theorem d_getItem {Q : Value -> Shared -> Prop} (hu : A.units + 1 < cLine) (I : Inv X pins σ H s) (g : DGet H a y (some v)) (ry : RelV y u) (h : ∀ w' s', Inv X pins σ H s' -> RelV v w' -> Q w' s') :
    wpAny (model X.prog X.w) A (getItem (.ref a) u) Q E s := by
  rcases g with ⟨kvs, k, e, ey, l⟩ | ⟨kvs, k, b, e, ey, eb, l⟩
  . subst ey
    obtain ⟨z, hd, vs, rel, dd⟩ := dk_rd I.hok e
    obtain ⟨w', hw, rw'⟩ := RelO.some_of (v := v) (o := valueAt vs k) (by rw [l]; exact rel.val k)
    exact wpAny_getItem_of (kV_is ry) dd.mapOf hw (h w' _ (I.tok _) rw')
  . subst ey
    cases (show u = Value.ref b from ry)
    obtain ⟨z, hd, xs, rel, dd⟩ := dt_rd I.hok e
    obtain ⟨w', hw, rw'⟩ := RelO.some_of (v := v) (o := (atKey xs k).map (·.2)) (by rw [l]; exact rel.val k)
    obtain ⟨p, hp, hp2⟩ := Option.map_eq_some_iff.mp hw
    refine wpAny_getItem_heap (tupleKind_room_in1 hu) (key_of I.hok eb) dd hp ?_
    rw [hp2]
    exact h w' _ (I.tok _) rw'
theorem d_in {Q : Value -> Shared -> Prop} (hu : A.units + 1 < cLine) (I : Inv X pins σ H s) (g : DGet H a y o) (ry : RelV y u) (h : ∀ s', Inv X pins σ H s' -> Q (.bool o.isSome) s') :
    wpAny (model X.prog X.w) A (compareOp .In u (.ref a)) Q E s := by
  rcases g with ⟨kvs, k, e, ey, l⟩ | ⟨kvs, k, b, e, ey, eb, l⟩
  . subst ey
    obtain ⟨z, hd, vs, rel, dd⟩ := dk_rd I.hok e
    refine wpAny_in_of (kV_is ry) hd dd.mapOf ?_
    rw [<- (rel.val k).isSome_eq, <- l]
    exact h _ (I.tok _)
  . subst ey
    cases (show u = Value.ref b from ry)
    obtain ⟨z, hd, xs, rel, dd⟩ := dt_rd I.hok e
    refine wpAny_in_heap (tupleKind_room_in1 hu) (key_of I.hok eb) hd dd ?_
    have q := (rel.val k).isSome_eq
    rw [Option.isSome_map] at q
    rw [<- q, <- l]
    exact h _ (I.tok _)
theorem d_notIn {Q : Value -> Shared -> Prop} (hu : A.units + 1 < cLine) (I : Inv X pins σ H s) (g : DGet H a y o) (ry : RelV y u) (h : ∀ s', Inv X pins σ H s' -> Q (.bool (!o.isSome)) s') :
    wpAny (model X.prog X.w) A (compareOp .NotIn u (.ref a)) Q E s := by
  rcases g with ⟨kvs, k, e, ey, l⟩ | ⟨kvs, k, b, e, ey, eb, l⟩
  . subst ey
    obtain ⟨z, hd, vs, rel, dd⟩ := dk_rd I.hok e
    refine wpAny_notIn_of (kV_is ry) hd dd.mapOf ?_
    rw [<- (rel.val k).isSome_eq, <- l]
    exact h _ (I.tok _)
  . subst ey
    cases (show u = Value.ref b from ry)
    obtain ⟨z, hd, xs, rel, dd⟩ := dt_rd I.hok e
    refine wpAny_notIn_heap (tupleKind_room_in1 hu) (key_of I.hok eb) hd dd ?_
    have q := (rel.val k).isSome_eq
    rw [Option.isSome_map] at q
    rw [<- q, <- l]
    exact h _ (I.tok _)
theorem d_write {h' : Heap} {t' : Nat} {ob : HO} (I : Inv X pins σ H s) (mu : Mut (H a)) (hs : Heap.SameBut a s.heap h') (he : ∃ q, h'.get? a = some q) (new : ObjOk X.prog X.w (upd H a ob) h' a ob) :
    Inv X pins σ (upd H a ob) { s with heap := h', toks := t' } :=
  I.write (x := a) (e := a) mu (.inl rfl) (λ b q hb z => (hs.2 b hb).trans z) he new
theorem dk_new {P : Program} {w : World} {H' : Hp} {h' : Heap} {kvs : List (Key × V)} {vs : List (Key × Value)} (z : kvs.length <= sizeLine) (hd : (a == sysModules) = false) (rel : KV kvs vs) (dd : h'.DictOf (mixKind P w) a vs) :
    ObjOk P w H' h' a (.dK kvs) := ⟨z, hd, vs, rel, dd⟩
theorem d_setItem {H' : Hp} {Q : Unit -> Shared -> Prop} (hu : A.units + 1 < cLine) (I : Inv X pins σ H s) (g : DPut H a y v H') (ry : RelV y u) (rv : RelV v r) (h : ∀ s', Inv X pins σ H' s' -> Q () s') :
    wpAny (model X.prog X.w) A (setItem (.ref a) u r) Q E s := by
  rcases g with ⟨kvs, k, e, ey, l, eH⟩ | ⟨kvs, k, b, e, ey, eb, l, eH⟩
  . subst ey eH
    obtain ⟨z, hd, vs, rel, dd⟩ := dk_of I.hok e
    have hz : vs.length <= sizeLine := by rw [<- rel.length]; exact z
    have hl : (putK kvs k v).length <= sizeLine := by have := length_putK kvs k v; omega
    refine wpAny_setItem_pairs (hsz := hz) (kV_is ry) dd λ h' dd' hs => h _ ?_
    have he : ∃ q, h'.get? a = some q := let ⟨q, _, _, hq, _⟩ := dd'; ⟨q, hq⟩
    exact d_write I (by rw [e]; exact True.intro) hs he (dk_new hl hd (rel.put k rv) dd')
  . subst ey eH
    cases (show u = Value.ref b from ry)
    obtain ⟨z, hd, xs, rel, dd⟩ := dt_of I.hok e
    have hz : xs.length <= sizeLine := by rw [<- Paired.length rel]; exact z
    have hl : (putK kvs k v).length <= sizeLine := by have := length_putK kvs k v; omega
    refine wpAny_setItem_heap (hsz := hz) (tupleKind_room_in1 hu) (key_of I.hok eb) dd λ h' dd' hs => h _ ?_
    obtain ⟨q, es, ep, hq, h2, h3, h4, _, h5⟩ := dd'
    refine d_write I (by rw [e]; exact True.intro) hs ⟨q, hq⟩ ⟨hl, hd, _, (rel.put k eb rv).keeps λ c ys ec => ?_, q, es, ep, hq, h2, h3, h4, h5⟩
    rw [upd_ne (ne_of ec e (λ z => nomatch z))]
    exact ec
end
section
variable {X : Cx} {pins : List (Addr × Obj)} {σ : St} {H : Hp} {s : Shared} {a : Addr} {kvs : List (Key × V)} {k : Key} {u : Value} {A : Around} {E : Value -> Shared -> Prop}
theorem d_clear {Q : Value -> Shared -> Prop} (I : Inv X pins σ H s) (e : H a = some (.dK kvs)) (h : ∀ s', Inv X pins σ (upd H a (.dK [])) s' -> Q .none s') : wpAny (model X.prog X.w) A (call (.builtin "dict.clear") [.ref a]) Q E s := by
  obtain ⟨z, hd, vs, rel, dd⟩ := dk_of I.hok e
  refine call_meetsIn PySem.F.slot_dict_clear dd.typeIs PySem.F.entry_dict_clear (PySem.F.args_dict_clear_1 _) (meets_dict_clear (mixKind X.prog X.w) a) ⟨vs, dd, by rw [<- rel.length]; exact z, λ h' dd' hs => h _ ?_⟩
  have he : ∃ q, h'.get? a = some q := let ⟨q, _, _, hq, _⟩ := dd'; ⟨q, hq⟩
  exact d_write (t' := s.toks) I (by rw [e]; exact True.intro) hs he (dk_new (Nat.zero_le _) hd .nil dd')
theorem d_len {Q : Value -> Shared -> Prop} (I : Inv X pins σ H s) (e : Rd H a (.dK kvs)) (h : ∀ t s', Inv X pins σ H s' -> Q (.int kvs.length t) s') : wpAny (model X.prog X.w) A (call (.builtin "len") [.ref a]) Q E s := by
  obtain ⟨z, hd, vs, rel, dd⟩ := dk_rd I.hok e
  refine call_len_dict hd dd (by rw [<- rel.length]; rw [sizeLine_eq] at z; omega) ?_
  rw [<- rel.length]
  exact h _ _ (I.tok _)
end
theorem dict_typeIs {X : Cx} {pins : List (Addr × Obj)} {σ : St} {H : Hp} {s : Shared} {a : Addr} {y : V} {o : Option V} (I : Inv X pins σ H s) (g : DGet H a y o) : s.TypeIs (.ref a) "dict" := by
  rcases g with ⟨kvs, k, e, _, _⟩ | ⟨kvs, k, b, e, _, _, _⟩
  . obtain ⟨_, _, vs, _, dd⟩ := dk_rd I.hok e
    exact dd.typeIs
  . obtain ⟨_, _, xs, _, dd⟩ := dt_rd I.hok e
    exact dd.typeIs
section
variable {X : Cx} {o i e value : Expr} {pos pos' tpos : Pos} {td ty tv : TE}
end
theorem dk_empty {P : Program} {w : World} {H : Hp} (h : Heap) (hb : sysModules < h.objs.size) : ObjOk P w H (h.push { cls := .type "dict", data := .dict #[] }) h.objs.size (.dK []) :=
  ⟨Nat.zero_le _, beq_eq_false_iff_ne.mpr (Ne.symm (Nat.ne_of_lt hb)), [], .nil, Heap.DictOf.new h⟩
theorem dt_empty {P : Program} {w : World} {H : Hp} (h : Heap) (hb : sysModules < h.objs.size) : ObjOk P w H (h.push { cls := .type "dict", data := .dict #[] }) h.objs.size (.dT []) :=
  ⟨Nat.zero_le _, beq_eq_false_iff_ne.mpr (Ne.symm (Nat.ne_of_lt hb)), [], .nil, _, #[], 0, Heap.get?_push_size _ rfl, ⟨rfl, rfl, rfl⟩, rfl, rfl, List.nodup_nil⟩
noncomputable def tDNewK : TE := λ _ H Q => ∀ p, H p = none -> Q (.ref p) (upd H p (.dK []))
noncomputable def tDNewT : TE := λ _ H Q => ∀ p, H p = none -> Q (.ref p) (upd H p (.dT []))
section
variable {X : Cx} {pos : Pos}
theorem pe_dnewK : PE X (.Dict [] [] pos) tDNewK := λ pins s σ H Q I h =>
  wpAny_Dict_empty ⟨.ref s.heap.objs.size, _, I.laid (a := s.heap.objs.size) (o := .dK []) (t' := s.toks) (λ _ _ q => Heap.get?_push_of_some _ q) (Nat.le_refl _) (dk_empty s.heap I.big), rfl, h _ (I.hok.fresh (Nat.le_refl _))⟩
theorem pe_dnewT : PE X (.Dict [] [] pos) tDNewT := λ pins s σ H Q I h =>
  wpAny_Dict_empty ⟨.ref s.heap.objs.size, _, I.laid (a := s.heap.objs.size) (o := .dT []) (t' := s.toks) (λ _ _ q => Heap.get?_push_of_some _ q) (Nat.le_refl _) (dt_empty s.heap I.big), rfl, h _ (I.hok.fresh (Nat.le_refl _))⟩
end
noncomputable def tPairs : List (TE × TE) -> St -> Hp -> (List (V × V) -> Hp -> Prop) -> Prop
  | [], _, H, Q => Q [] H
  | (tk, tv) :: r, σ, H, Q => tk σ H λ x H1 => tv σ H1 λ y H2 => tPairs r σ H2 λ ps H3 => Q ((x, y) :: ps) H3
noncomputable abbrev VV : List (V × V) -> List (Value × Value) -> Prop := Paired λ p q => RelV p.1 q.1 /\ RelV p.2 q.2
noncomputable def PPs (X : Cx) (pos : Pos) (keys : List (Option Expr)) (values : List Expr) (trs : List (TE × TE)) : Prop :=
  ∀ (pins : List (Addr × Obj)) (s : Shared) (σ : St) (H : Hp) (Q : List (V × V) -> Hp -> Prop), Inv X pins σ H s -> tPairs trs σ H Q →
    wpAny (model X.prog X.w) X.A (evalPairs (pairTrees keys values X.env pos)) (λ vs s' => ∃ ps H', Inv X pins σ H' s' /\ VV ps vs /\ Q ps H') X.xe s
theorem pps_nil {X : Cx} {pos : Pos} : PPs X pos [] [] [] := λ pins s σ H Q I h => pairTrees_nil_walk ⟨[], H, I, .nil, h⟩
theorem pps_cons {X : Cx} {pos : Pos} {k v : Expr} {ks : List (Option Expr)} {vs : List Expr} {tk tv : TE} {trs : List (TE × TE)} (hk : PE X k tk) (hv : PE X v tv) (hr : PPs X pos ks vs trs) :
    PPs X pos (some k :: ks) (v :: vs) ((tk, tv) :: trs) := λ pins s σ H Q I h =>
  pairTrees_cons_walk (thn (hk pins s σ H _ I h) λ u s1 ⟨x, H1, I1, rx, q1⟩ => thn (hv pins s1 σ H1 _ I1 q1) λ w2 s2 ⟨y, H2, I2, ry, q2⟩ =>
    thn (hr pins s2 σ H2 _ I2 q2) λ ws s3 ⟨ps, H3, I3, rel, q3⟩ => ⟨(x, y) :: ps, H3, I3, .cons ⟨rx, ry⟩ rel, q3⟩)
noncomputable def mergeK (kvs more : List (Key × V)) : List (Key × V) := more.foldl (λ acc kv => putK acc kv.1 kv.2) kvs
theorem KV.merge : ∀ {more : List (Key × V)} {rs : List (Key × Value)} {kvs : List (Key × V)} {vs : List (Key × Value)}, KV more rs -> KV kvs vs -> KV (mergeK kvs more) (merged vs rs) := by
  intro more rs kvs vs r
  unfold KV at r
  induction r generalizing kvs vs with
  | nil => intro q; exact q
  | @cons p q ps qs h t ih =>
    intro r0
    have e : KV (putK kvs p.1 p.2) (stored vs q.1 q.2) := by
      have := r0.put p.1 h.2
      rw [<- h.1]; exact this
    exact ih e
theorem length_mergeK : ∀ (more kvs : List (Key × V)), (mergeK kvs more).length <= kvs.length + more.length
  | [], kvs => by show kvs.length <= kvs.length + 0; omega
  | p :: r, kvs => by
    have h1 := length_mergeK r (putK kvs p.1 p.2)
    have h2 := length_putK kvs p.1 p.2
    show (mergeK (putK kvs p.1 p.2) r).length <= _
    rw [List.length_cons]; omega
theorem carries_of {P : Program} {w : World} : ∀ {kvs : List (Key × V)} {ws : List (Value × Value)}, VV (kvs.map λ kv => (kV kv.1, kv.2)) ws -> ∃ rs, Carries (mixKind P w) ws rs /\ KV kvs rs
  | [], _, r => by rw [List.map_nil] at r; cases r; exact ⟨[], True.intro, .nil⟩
  | p :: kvs, _, r => by
    rw [List.map_cons] at r
    cases r with
    | @cons a b as bs h t =>
      obtain ⟨rs, c, q⟩ := carries_of (P := P) (w := w) t
      obtain ⟨b1, b2⟩ := b
      exact ⟨(p.1, b2) :: rs, ⟨kV_is h.1, rfl, c⟩, .cons ⟨rfl, h.2⟩ q⟩
noncomputable def tDisp (trs : List (TE × TE)) : TE := λ σ H Q => ∀ p, H p = none -> tPairs trs σ (upd H p (.dK [])) λ ps H2 => H2 p = some (.dK []) /\ ∃ kvs : List (Key × V), ps = kvs.map (λ kv => (kV kv.1, kv.2)) /\ kvs.length <= 15 /\ Q (.ref p) (upd H2 p (.dK (mergeK [] kvs)))
theorem pe_disp {X : Cx} {pos : Pos} {keys : List (Option Expr)} {values : List Expr} {trs : List (TE × TE)} (h : PPs X pos keys values trs) (hall : keys.all (·.isSome) = true) (hl : keys.length = values.length) (h0 : keys ≠ [])
    (h15 : keys.length <= 15) : PE X (.Dict keys values pos) (tDisp trs) := by
  intro pins s σ H Q I q
  have hn := I.hok.fresh (Nat.le_refl s.heap.objs.size)
  have I1 := I.laid (a := s.heap.objs.size) (o := .dK []) (h' := s.heap.push { cls := .type "dict", data := .dict #[] }) (t' := s.toks) (λ _ _ q => Heap.get?_push_of_some _ q) (Nat.le_refl _) (dk_empty s.heap I.big)
  refine wpAny_Dict_walk (knd := mixKind X.prog X.w) hall hl h0 h15 (thn (h pins _ σ _ _ I1 (q _ hn)) λ ws s2 ⟨ps, H2, I2, rel, e, kvs, ep, lk, q2⟩ => ?_)
  subst ep
  obtain ⟨rs, c, rk⟩ := carries_of (P := X.prog) (w := X.w) rel
  obtain ⟨z, hd, vs0, r0, dd⟩ := dk_of I2.hok e
  cases r0
  refine ⟨rs, c, dd, λ h' dd' hs => ⟨.ref s.heap.objs.size, _, ?_, rfl, q2⟩⟩
  have hz : (mergeK [] kvs).length <= sizeLine := by
    have h1 := length_mergeK kvs []
    rw [List.length_nil] at h1
    rw [sizeLine_eq]; omega
  have he : ∃ q, h'.get? s.heap.objs.size = some q := let ⟨q, _, _, hq, _⟩ := dd'; ⟨q, hq⟩
  exact d_write I2 (by rw [e]; exact True.intro) hs he (dk_new hz hd (rk.merge .nil) dd')
noncomputable def IsD (H : Hp) (a : Addr) : Prop := (∃ kvs, Rd H a (.dK kvs)) \/ ∃ kvs, Rd H a (.dT kvs)
theorem isD_at {X : Cx} {pins : List (Addr × Obj)} {σ : St} {H : Hp} {s : Shared} {a : Addr} (I : Inv X pins σ H s) (d : IsD H a) :
    s.TypeIs (.ref a) "dict" /\ (∀ b, Value.ref a = .ref b -> ∃ ob, s.heap.get? b = some ob /\ ob.dict = none) /\ (a == sysModules) = false := by
  rcases d with ⟨kvs, e⟩ | ⟨kvs, e⟩
  . obtain ⟨_, hd, vs, _, dd⟩ := dk_rd I.hok e
    refine ⟨dd.typeIs, λ b q => ?_, hd⟩
    cases q
    obtain ⟨ob, _, _, h1, h2, _⟩ := dd
    exact ⟨ob, h1, h2.2.1⟩
  . obtain ⟨_, hd, xs, _, dd⟩ := dt_rd I.hok e
    refine ⟨dd.typeIs, λ b q => ?_, hd⟩
    cases q
    obtain ⟨ob, _, _, h1, h2, _⟩ := dd
    exact ⟨ob, h1, h2.2.1⟩
section
variable {X : Cx} {pins : List (Addr × Obj)} {σ : St} {H : Hp} {s : Shared} {a : Addr} {y d : V} {u r : Value} {o : Option V} {A : Around} {E : Value -> Shared -> Prop}
theorem d_get1 {Q : Value -> Shared -> Prop} (hu : A.units + 1 < cLine) (I : Inv X pins σ H s) (g : DGet H a y o) (ry : RelV y u) (h : ∀ w' s', Inv X pins σ H s' -> RelV (o.getD .non) w' -> Q w' s') :
    wpAny (model X.prog X.w) A (call (.builtin "dict.get") [.ref a, u]) Q E s := by
  rcases g with ⟨kvs, k, e, ey, l⟩ | ⟨kvs, k, b, e, ey, eb, l⟩
  . subst ey
    obtain ⟨z, hd, vs, rel, dd⟩ := dk_rd I.hok e
    refine call_meetsIn PySem.F.slot_dict_get dd.typeIs PySem.F.entry_dict_get (PySem.F.args_dict_get_2 _ _) (meets_dict_get (mixKind X.prog X.w) a (kV_is ry) hd) ⟨_, dd.mapOf, h _ _ (I.tok _) ?_⟩
    rw [l]
    exact (rel.val k).getD rfl
  . subst ey
    cases (show u = Value.ref b from ry)
    obtain ⟨z, hd, xs, rel, dd⟩ := dt_rd I.hok e
    refine call_meetsIn PySem.F.slot_dict_get dd.typeIs PySem.F.entry_dict_get (PySem.F.args_dict_get_2 _ _) (meetsH_dict_get (tupleKind (mixKind X.prog X.w)) a b hd) ⟨tupleKind_room_in1 hu, k, xs, key_of I.hok eb, dd, h _ _ (I.tok _) ?_⟩
    rw [l]
    exact (rel.val k).getD rfl
theorem d_get2 {Q : Value -> Shared -> Prop} (hu : A.units + 1 < cLine) (I : Inv X pins σ H s) (g : DGet H a y o) (ry : RelV y u) (rd : RelV d r) (h : ∀ w' s', Inv X pins σ H s' -> RelV (o.getD d) w' -> Q w' s') :
    wpAny (model X.prog X.w) A (call (.builtin "dict.get") [.ref a, u, r]) Q E s := by
  rcases g with ⟨kvs, k, e, ey, l⟩ | ⟨kvs, k, b, e, ey, eb, l⟩
  . subst ey
    obtain ⟨z, hd, vs, rel, dd⟩ := dk_rd I.hok e
    refine call_meetsIn PySem.F.slot_dict_get dd.typeIs PySem.F.entry_dict_get (PySem.F.args_dict_get_3 _ _ _) (meets_dict_get_default (mixKind X.prog X.w) a (kV_is ry) hd r) ⟨_, dd.mapOf, h _ _ (I.tok _) ?_⟩
    rw [l]
    exact (rel.val k).getD rd
  . subst ey
    cases (show u = Value.ref b from ry)
    obtain ⟨z, hd, xs, rel, dd⟩ := dt_rd I.hok e
    refine call_meetsIn PySem.F.slot_dict_get dd.typeIs PySem.F.entry_dict_get (PySem.F.args_dict_get_3 _ _ _) (meetsH_dict_get_default (tupleKind (mixKind X.prog X.w)) a b hd r) ⟨tupleKind_room_in1 hu, k, xs, key_of I.hok eb, dd, h _ _ (I.tok _) ?_⟩
    rw [l]
    exact (rel.val k).getD rd
end
section
variable {X : Cx} {o e f : Expr} {apos cpos : Pos} {td ty tx : TE}
end
section
variable {X : Cx} {pins : List (Addr × Obj)} {σ : St} {H : Hp} {s : Shared} {a : Addr} {kvs : List (Key × V)} {A : Around} {E : Value -> Shared -> Prop}
end
section
variable {X : Cx} {pins : List (Addr × Obj)} {σ : St} {H : Hp} {s : Shared} {a : Addr} {y : V} {u : Value} {A : Around} {E : Value -> Shared -> Prop}
end
end L2
namespace HT
open PySem PyProof.Rows
section
open PySem.SeqAt
open PySem.AutoSeq1 (wpAny_loadPart')
open PySem.MeetsSeq PySem.MeetsSeq2 PySem.MeetsSeq3
end
section
variable {prog : Program} {w : World} {A : Around} {E : Value -> Shared -> Prop} {s : Shared}
noncomputable def sIx (n d : Nat) : Option Int -> Nat
  | none => d
  | some v => if v < 0 then (v + (n : Int)).toNat else min v.toNat n
end
end HT
namespace L2
open PySem PySem.Spec PyProof.Rows
noncomputable abbrev TO := St -> Hp -> (Option Int -> Hp -> Prop) -> Prop
noncomputable def PO (X : Cx) (e : Option Expr) (t : TO) : Prop :=
  ∀ (pins : List (Addr × Obj)) (s : Shared) (σ : St) (H : Hp) (Q : Option Int -> Hp -> Prop), Inv X pins σ H s -> t σ H Q →
    wpAny (model X.prog X.w) X.A (evalPart e X.env) (λ u s' => ∃ o H', Inv X pins σ H' s' /\ IsPart u o /\ Q o H') X.xe s
noncomputable def tNoPart : TO := λ _ H Q => Q none H
noncomputable def tPart (t : TE) : TO := λ σ H Q => t σ H λ x H1 => ∃ i, x = .int i /\ Q (some i) H1
section
variable {X : Cx} {e : Expr} {te : TE} {lo hi : Option Expr} {tl th : TO} {pos p2 : Pos}
theorem po_none : PO X none tNoPart := by
  intro pins s σ H Q I h
  rw [evalPart_none]
  exact wpAny_pure ⟨none, H, I, .none, h⟩
theorem po_some (h : PE X e te) : PO X (some e) (tPart te) := by
  intro pins s σ H Q I hw
  rw [evalPart_some]
  refine thn (h pins s σ H _ I hw) λ u s1 ⟨x, H1, I1, r1, q1⟩ => ?_
  obtain ⟨i, rfl, q⟩ := q1
  obtain ⟨t, rfl⟩ := r1
  exact ⟨some i, H1, I1, .int i t, q⟩
noncomputable def SlR (X : Cx) (r : V -> Option Int -> Option Int -> Hp -> VK -> Prop) : Prop :=
  ∀ (pins : List (Addr × Obj)) (s : Shared) (σ : St) (H : Hp) (x : V) (v vl vu : Value) (lo hi : Option Int) (sl : Addr) (Q : VK), Inv X pins σ H s -> RelV x v -> s.heap.IsSliceOf sl vl vu .none -> IsPart vl lo -> IsPart vu hi -> r x lo hi H Q →
    ∃ T id, typeLookup (.type T) "__getitem__" = pure (some (.builtin id)) /\ s.TypeIs v T /\ wpAny (model X.prog X.w) X.A (getItem v (.ref sl)) (EP X pins σ Q) X.xe s
noncomputable def tSl (r : V -> Option Int -> Option Int -> Hp -> VK -> Prop) (te : TE) (tl th : TO) : TE := λ σ H Q => te σ H λ x H1 => tl σ H1 λ l H2 => th σ H2 λ u H3 => r x l u H3 Q
theorem pe_slice {r : V -> Option Int -> Option Int -> Hp -> VK -> Prop} (hr : SlR X r) (he : PE X e te) (hl : PO X lo tl) (hu : PO X hi th) : PE X (.Subscript e (.Slice lo hi none p2) pos) (tSl r te tl th) := by
  intro pins s σ H Q I h
  refine Subscript_ (thn (he pins s σ H _ I h) λ v s1 ⟨x, H1, I1, r1, q1⟩ => ?_)
  refine wpAny_Slice (thn (hl pins s1 σ H1 _ I1 q1) λ vl s2 ⟨l, H2, I2, pl, q2⟩ => thn (hu pins s2 σ H2 _ I2 q2) λ vu s3 ⟨u, H3, I3, pu, q3⟩ => ?_)
  rw [evalPart_none]
  refine wpAny_pure ?_
  have I4 : Inv X pins σ H3 { s3 with heap := s3.heap.push { cls := .type "slice", data := .fields #[vl, vu, .none] } } := I3.kept (t' := s3.toks) λ b ob q => Heap.get?_push_of_some _ q
  obtain ⟨T, id, hT, ht, hg⟩ := hr pins { s3 with heap := s3.heap.push { cls := .type "slice", data := .fields #[vl, vu, .none] } } σ H3 x v vl vu l u s3.heap.objs.size Q I4 r1 (Heap.IsSliceOf.new ..) pl pu q3
  show wpAny (model X.prog X.w) X.A (subscriptTail e (.Slice lo hi none p2) v (.ref s3.heap.objs.size)) (EP X pins σ Q) X.xe { s3 with heap := s3.heap.push { cls := .type "slice", data := .fields #[vl, vu, .none] } }
  exact tail_any (ops := [.ref s3.heap.objs.size, v]) ht hT hg (by with_unfolding_all rfl)
noncomputable def cutV (xs : List V) (lo hi : Option Int) : List V := (xs.drop (HT.sIx xs.length 0 lo)).take (HT.sIx xs.length xs.length hi - HT.sIx xs.length 0 lo)
theorem cutV_length (xs : List V) (lo hi : Option Int) : (cutV xs lo hi).length <= xs.length := by
  unfold cutV
  rw [List.length_take, List.length_drop]
  omega
end
end L2
namespace L2
open PySem PySem.Spec PyProof.Rows
noncomputable def ixN (n : Nat) (i : Int) : Option Nat := if 0 <= i then (if i < n then some i.toNat else none) else if -(n : Int) <= i then some (i + n).toNat else none
noncomputable def atI {α : Type} (xs : List α) (i : Int) : Option α := (ixN xs.length i).bind λ j => xs[j]?
theorem ixN_seq {n : Nat} {i : Int} {j : Nat} (h : ixN n i = some j) : seqIndex? i n = some j /\ j < n /\ -(n : Int) <= i /\ i < n := by
  unfold ixN at h
  by_cases h0 : 0 <= i
  . rw [if_pos h0] at h
    by_cases h1 : i < n
    . rw [if_pos h1] at h
      have e : i.toNat = j := Option.some.inj h
      exact ⟨by rw [seqIndex_of h0 h1, e], by omega, by omega, h1⟩
    . rw [if_neg h1] at h; cases h
  . rw [if_neg h0] at h
    by_cases h1 : -(n : Int) <= i
    . rw [if_pos h1] at h
      have e : (i + n).toNat = j := Option.some.inj h
      exact ⟨by rw [seqIndex_neg (by omega) h1, e], by omega, h1, by omega⟩
    . rw [if_neg h1] at h; cases h
theorem atI_get {α : Type} {xs : List α} {i : Int} {v : α} (h : atI xs i = some v) : ∃ j, seqIndex? i xs.length = some j /\ xs[j]? = some v /\ j < xs.length /\ -(xs.length : Int) <= i /\ i < xs.length := by
  unfold atI at h
  cases e : ixN xs.length i with
  | none => rw [e] at h; cases h
  | some j =>
    rw [e] at h
    obtain ⟨h1, h2, h3, h4⟩ := ixN_seq e
    exact ⟨j, h1, h, h2, h3, h4⟩
theorem atI_nat {α : Type} {xs : List α} {j : Nat} {v : α} (h : xs[j]? = some v) : atI xs (j : Int) = some v := by
  have hj : j < xs.length := (List.getElem?_eq_some_iff.mp h).1
  have e : ixN xs.length (j : Int) = some j := by
    unfold ixN
    rw [if_pos (by omega), if_pos (by omega)]; simp
  unfold atI; rw [e]; exact h
noncomputable def PlainIx (b : Expr) : Prop := ∀ o i, subscripted b false o i = operate [o, i] (getItem o i)
noncomputable def IxR (X : Cx) (r : R2) : Prop :=
  ∀ (value slice : Expr) (pins : List (Addr × Obj)) (s : Shared) (σ : St) (H : Hp) (x y : V) (v u : Value) (Q : VK), Inv X pins σ H s -> RelV x v -> RelV y u -> r x y H Q →
    subscripted slice false v u = operate [v, u] (getItem v u) -> wpAny (model X.prog X.w) X.A (subscriptTail value slice v u) (EP X pins σ Q) X.xe s
noncomputable def MtR (X : Cx) (id : String) (r : V -> List V -> Hp -> VK -> Prop) : Prop :=
  ∀ (pins : List (Addr × Obj)) (s : Shared) (σ : St) (H : Hp) (x : V) (xs : List V) (v : Value) (us : List Value) (Q : VK), Inv X pins σ H s -> RelV x v -> Vals xs us -> r x xs H Q →
    wpAny (model X.prog X.w) X.A (call (.builtin id) (v :: us)) (EP X pins σ Q) X.xe s
section
variable {X : Cx} {a b : Expr} {ta tb : TE} {pos : Pos}
theorem IxR.or {r r' : R2} (h : IxR X r) (h' : IxR X r') : IxR X (λ x y H Q => r x y H Q \/ r' x y H Q) := by
  intro value slice pins s σ H x y v u Q I rx ry q hs
  rcases q with q | q
  . exact h value slice pins s σ H x y v u Q I rx ry q hs
  . exact h' value slice pins s σ H x y v u Q I rx ry q hs
theorem pe_ix {r : R2} (hr : IxR X r) (ha : PE X a ta) (hb : PE X b tb) (hs : PlainIx b) : PE X (.Subscript a b pos) (tOp r ta tb) := by
  intro pins s σ H Q I h
  exact Subscript_ (binT ha hb I h λ v u s2 x y H2 I2 rx ry q => hr a b pins s2 σ H2 x y v u Q I2 rx ry q (hs _ _))
noncomputable def rIxL (K : PySem.W.Frag) : R2 := λ x y H Q => ∃ p xs i v, x = .ref p /\ y = .int i /\ SqL K H p xs /\ atI xs i = some v /\ Q v H
noncomputable def rIxT (K : PySem.W.Frag) : R2 := λ x y H Q => ∃ p xs i v, x = .ref p /\ y = .int i /\ SqT K H p xs /\ atI xs i = some v /\ Q v H
noncomputable def rIxS : R2 := λ x y H Q => ∃ z i c, x = .str z /\ y = .int i /\ z.length <= sizeLine /\ atI z.cps.toList i = some c /\ Q (.str ⟨#[c]⟩) H
theorem ix_list : IxR X (rIxL X.K) := by
  intro value slice pins s σ H x y v u Q I rx ry h hs
  obtain ⟨p, xs, i, z, rfl, rfl, hq, he, q⟩ := h
  cases rx
  obtain ⟨t, rfl⟩ := ry
  obtain ⟨its, r, pl, hz⟩ := I.list hq
  obtain ⟨j, h1, h2, h3, h4, h5⟩ := atI_get he
  obtain ⟨w, ew, rw'⟩ := r.get h2
  have hl := r.length
  have hn := line63
  have fin : EP X pins σ Q w s := ⟨z, H, I, rw', q⟩
  by_cases h0 : 0 <= i
  . have hj : i.toNat = j := by
      rw [seqIndex_of h0 h5] at h1
      exact Option.some.inj h1
    exact item_listR pl.isList h0 (by omega) (by rw [hj]; simpa using ew) fin hs
  . have hj : (i + (its.toArray.size : Int)).toNat = j := by
      rw [seqIndex_neg (by omega) h4] at h1
      rw [List.size_toArray, <- hl]
      exact Option.some.inj h1
    exact subscriptTail_builtinR (x := w) pl.isList.typeIs slot_list_getitem.lookup
      (wpAny_getItem_list_neg (Q := λ r s' => r = w /\ EP X pins σ Q r s') pl.isList (by omega) (by rw [List.size_toArray] <;> omega) (by omega) (by rw [hj]; simpa using ew) ⟨rfl, fin⟩) hs
theorem ix_tup : IxR X (rIxT X.K) := by
  intro value slice pins s σ H x y v u Q I rx ry h hs
  obtain ⟨p, xs, i, z, rfl, rfl, hq, he, q⟩ := h
  cases rx
  obtain ⟨t, rfl⟩ := ry
  obtain ⟨its, r, pl, hz⟩ := I.tuple hq
  obtain ⟨j, h1, h2, h3, h4, h5⟩ := atI_get he
  obtain ⟨w, ew, rw'⟩ := r.get h2
  have hl := r.length
  have hn := line63
  have fin : EP X pins σ Q w s := ⟨z, H, I, rw', q⟩
  exact subscriptTail_builtinR (x := w) pl.typeIs slot_tuple_getitem.lookup
    (getItem_tuple (j := j) (Q := λ r s' => r = w /\ EP X pins σ Q r s') pl (by omega) (by omega) (by rw [List.size_toArray, <- hl]; exact h1) (by simpa using ew) ⟨rfl, fin⟩) hs
theorem ix_str : IxR X rIxS := by
  intro value slice pins s σ H x y v u Q I rx ry h hs
  obtain ⟨z, i, c, rfl, rfl, hz, he, q⟩ := h
  obtain ⟨t, rfl⟩ := rx
  obtain ⟨t', rfl⟩ := ry
  obtain ⟨j, h1, h2, h3, h4, h5⟩ := atI_get he
  have hl : z.cps.toList.length = z.length := by simp [Str.length]
  rw [hl] at h1 h4 h5
  have hn := line63
  exact tail_any (typeIs_str s z t) slot_str_getitem.lookup (getItem_str (c := c) (by
    have e1 : decide (i < -(2 ^ 63 : Int)) = false := decide_eq_false (by omega)
    have e2 : decide (i ≥ 2 ^ 63) = false := decide_eq_false (by omega)
    rw [e1, e2, Bool.or_false]) (by rw [h1]; simpa using h2) ⟨.str ⟨#[c]⟩, H, I.tok _, ⟨_, rfl⟩, q⟩) hs
theorem mapSeq_set (its : List Value) (n j : Nat) (u : Value) : Obj.mapSeq (·.setIfInBounds j u) { cls := .type "list", data := .seq its.toArray n } = { cls := .type "list", data := .seq (its.set j u).toArray n } := by
  simp [Obj.mapSeq]
theorem Inv.lst {pins : List (Addr × Obj)} {σ : St} {H : Hp} {s : Shared} {p : Addr} {xs : List V} (I : Inv X pins σ H s) (h : H p = some (.lst xs)) :
    ∃ (its : List Value) (n : Nat), Vals xs its /\ s.heap.get? p = some { cls := .type "list", data := .seq its.toArray n } /\ xs.length <= sizeLine := by
  obtain ⟨z, its, n, r, e⟩ := I.hok p _ h
  exact ⟨its, n, r, e, z⟩
theorem Inv.lstUpd {pins : List (Addr × Obj)} {σ : St} {H : Hp} {s : Shared} {p : Addr} {xs ys : List V} {its its' : List Value} {n n' : Nat} {f : Obj -> Obj} (I : Inv X pins σ H s) (h : H p = some (.lst xs))
    (ho : s.heap.get? p = some { cls := .type "list", data := .seq its.toArray n }) (hf : f { cls := .type "list", data := .seq its.toArray n } = { cls := .type "list", data := .seq its'.toArray n' }) (r : Vals ys its') (hz : ys.length <= sizeLine) (t : Nat) :
    Inv X pins σ (upd H p (.lst ys)) { s with heap := s.heap.update p f, toks := t } := by
  have e : (s.heap.update p f).get? p = some { cls := .type "list", data := .seq its'.toArray n' } := by
    rw [Heap.get?_update_self f ho (by rw [hf] <;> rfl), hf]
  refine I.write (x := p) (e := p) (by rw [h]; trivial) (.inl rfl) (λ b u hb q => (Heap.get?_update_other _ _ (Ne.symm hb)).trans q) ⟨_, e⟩ ?_
  exact ⟨hz, its', n', r, e⟩
noncomputable def rSetL : V -> V -> V -> Hp -> (Hp -> Prop) -> Prop := λ o i v H Q => ∃ p xs k j, o = .ref p /\ i = .int k /\ H p = some (.lst xs) /\ ixN xs.length k = some j /\ Q (upd H p (.lst (xs.set j v)))
theorem set_list : PSet X rSetL := by
  intro pins s σ H o i v ov iv u Q I ro ri rv h
  obtain ⟨p, xs, k, j, rfl, rfl, hp, hj, q⟩ := h
  cases ro
  obtain ⟨t, rfl⟩ := ri
  obtain ⟨its, n, r, ho, hz⟩ := I.lst hp
  obtain ⟨h1, h2, h3, h4⟩ := ixN_seq hj
  have hl := r.length
  have hn := line63
  have I' : Inv X pins σ (upd H p (.lst (xs.set j v))) { s with heap := s.heap.update p (Obj.mapSeq (·.setIfInBounds j u)) } :=
    I.lstUpd hp ho (mapSeq_set its n j u) (r.set rv j) (by rw [List.length_set]; exact hz) s.toks
  by_cases h0 : 0 <= k
  . have hk : k.toNat = j := by
      rw [seqIndex_of h0 h4] at h1
      exact Option.some.inj h1
    exact PySem.W.ki_setAt ho h0 (by omega) (by rw [List.size_toArray, <- hl]; exact h4) (by rw [hk]; exact ⟨_, I', q⟩)
  . have hk : (k + (its.toArray.size : Int)).toNat = j := by
      rw [seqIndex_neg (by omega) h3] at h1
      rw [List.size_toArray, <- hl]
      exact Option.some.inj h1
    exact PySem.W.ki_setBack ho (by omega) (by rw [List.size_toArray, <- hl]; exact h3) (by omega) (by rw [hk]; exact ⟨_, I', q⟩)
theorem slice_bounds (lo hi : Option Int) (n : Nat) : (sliceBounds lo hi none n).1 = ((HT.sIx n 0 lo : Nat) : Int) /\ (sliceBounds lo hi none n).2.1 = ((HT.sIx n n hi : Nat) : Int) /\ (sliceBounds lo hi none n).2.2 = 1 := by
  refine ⟨?_, ?_, rfl⟩
  . cases lo with
    | none => simp [sliceBounds, HT.sIx]
    | some i =>
      simp only [sliceBounds, HT.sIx, Option.getD_none, show (1 : Int) > 0 by decide, if_true]
      by_cases h : i < 0
      . simp only [h, if_true] <;> omega
      . simp only [h, if_false] <;> omega
  . cases hi with
    | none => simp [sliceBounds, HT.sIx]
    | some i =>
      simp only [sliceBounds, HT.sIx, Option.getD_none, show (1 : Int) > 0 by decide, if_true]
      by_cases h : i < 0
      . simp only [h, if_true] <;> omega
      . simp only [h, if_false] <;> omega
theorem slicePick_cut (its : List Value) (lo hi : Option Int) : slicePick its.toArray lo hi none = ((its.drop (HT.sIx its.length 0 lo)).take (HT.sIx its.length its.length hi - HT.sIx its.length 0 lo)).toArray := by
  obtain ⟨h1, h2, h3⟩ := slice_bounds lo hi its.toArray.size
  unfold slicePick
  rw [h1, h2, h3]
  simp only [sliceRange_one, pick_run, List.size_toArray] <;> rfl
noncomputable def rSlL (K : PySem.W.Frag) : V -> Option Int -> Option Int -> Hp -> VK -> Prop := λ x lo hi H Q => ∃ a xs, x = .ref a /\ SqL K H a xs /\ ∀ p, H p = none -> Q (.ref p) (upd H p (.lst (cutV xs lo hi)))
theorem sl_list : SlR X (rSlL X.K) := by
  intro pins s σ H x v vl vu lo hi sl Q I rx hs pl pu h
  obtain ⟨a, xs, rfl, hx, q⟩ := h
  cases rx
  obtain ⟨its, r, ht, hz⟩ := I.list hx
  have hlen := r.length
  refine ⟨"list", _, slot_list_getitem.lookup, ht.isList.typeIs, ?_⟩
  refine wpAny_getItem_list_slice ht.isList hs pl pu .none (by simp) ?_ (by rw [List.size_toArray] <;> omega)
  rw [slicePick_cut, <- hlen]
  refine ⟨.ref s.heap.objs.size, _, I.laid (t' := s.toks) (o := .lst (cutV xs lo hi)) (λ b ob q => Heap.get?_push_of_some _ q) (Nat.le_refl _) ?_, rfl, q _ (I.hok.fresh (Nat.le_refl _))⟩
  exact ⟨Nat.le_trans (cutV_length xs lo hi) hz, _, 0, (r.drop (HT.sIx xs.length 0 lo)).take (HT.sIx xs.length xs.length hi - HT.sIx xs.length 0 lo), Heap.get?_push_size _ rfl⟩
noncomputable def flatV : V -> Bool
  | .non => true
  | .bl _ => true
  | .int _ => true
  | .str _ => true
  | _ => false
noncomputable def eqV : V -> V -> Bool
  | .non, .non => true
  | .bl a, .bl b => a == b
  | .bl a, .int b => (if a then 1 else 0) == b
  | .int a, .bl b => a == (if b then 1 else 0)
  | .int a, .int b => a == b
  | .str a, .str b => a == b
  | _, _ => false
theorem eqAt_V {A : Around} {s : Shared} {y x : V} {u v : Value} (ry : RelV y u) (rx : RelV x v) (fy : flatV y = true) (fx : flatV x = true) : SeqAt.EqAt A s u v (eqV y x) := by
  cases y with
  | non =>
    cases ry
    cases x with
    | non => cases rx; exact SeqAt.EqAt.same _
    | bl b => cases rx; exact SeqAt.EqAt.none_bool b
    | int b => obtain ⟨t, rfl⟩ := rx; exact SeqAt.EqAt.none_int b t
    | str b => obtain ⟨t, rfl⟩ := rx; exact SeqAt.EqAt.none_str b t
    | _ => exact absurd (show false = true from fx) Bool.false_ne_true
  | bl a =>
    cases ry
    cases x with
    | non => cases rx; exact SeqAt.EqAt.bool_none a
    | bl b => cases rx; exact SeqAt.EqAt.bool_bool a b
    | int b => obtain ⟨t, rfl⟩ := rx; exact SeqAt.EqAt.bool_int a b t
    | str b => obtain ⟨t, rfl⟩ := rx; exact SeqAt.EqAt.bool_str a b t
    | _ => exact absurd (show false = true from fx) Bool.false_ne_true
  | int a =>
    obtain ⟨t', rfl⟩ := ry
    cases x with
    | non => cases rx; exact SeqAt.EqAt.int_none a t'
    | bl b => cases rx; exact SeqAt.EqAt.int_bool a t' b
    | int b => obtain ⟨t, rfl⟩ := rx; exact SeqAt.EqAt.int_int a t' b t
    | str b => obtain ⟨t, rfl⟩ := rx; exact SeqAt.EqAt.int_str a t' b t
    | _ => exact absurd (show false = true from fx) Bool.false_ne_true
  | str a =>
    obtain ⟨t', rfl⟩ := ry
    cases x with
    | non => cases rx; exact SeqAt.EqAt.str_none a t'
    | bl b => cases rx; exact SeqAt.EqAt.str_bool a t' b
    | int b => obtain ⟨t, rfl⟩ := rx; exact SeqAt.EqAt.str_int a t' b t
    | str b => obtain ⟨t, rfl⟩ := rx; exact SeqAt.EqAt.str_str a t' b t
    | _ => exact absurd (show false = true from fx) Bool.false_ne_true
  | _ => exact absurd (show false = true from fy) Bool.false_ne_true
theorem call_len_seq : CallR X (.builtin "len") (λ xs H Q => ∃ p ys, xs = [.ref p] /\ (SqL X.K H p ys \/ SqT X.K H p ys) /\ Q (.int ys.length) H) := by
  intro pins s σ H xs us Q I r h
  obtain ⟨p, ys, rfl, hq, q⟩ := h
  obtain ⟨u, rfl, rx⟩ := vals1 r
  cases rx
  have hn := line63
  rcases hq with hq | hq
  . obtain ⟨its, r', pl, hz⟩ := I.list hq
    have hlen := r'.length
    exact Calls.call_len_list pl.isList (by simp only [List.size_toArray] <;> omega) ⟨.int ys.length, H, I.tok _, ⟨s.toks + 1, by rw [List.size_toArray, hlen]⟩, q⟩
  . obtain ⟨its, r', pl, hz⟩ := I.tuple hq
    have hlen := r'.length
    exact len_tuple pl (by simp only [List.size_toArray] <;> omega) ⟨.int ys.length, H, I.tok _, ⟨s.toks + 1, by rw [List.size_toArray, hlen]⟩, q⟩
theorem call_len_str : CallR X (.builtin "len") (λ xs H Q => ∃ z, xs = [.str z] /\ z.length <= sizeLine /\ Q (.int z.length) H) := by
  intro pins s σ H xs us Q I r h
  obtain ⟨z, rfl, hz, q⟩ := h
  obtain ⟨u, rfl, t, rfl⟩ := vals1 r
  have hn := line63
  exact len_str (by omega) ⟨.int z.length, H, I.tok _, ⟨_, rfl⟩, q⟩
theorem CallR.or {f : Value} {r r' : List V -> Hp -> VK -> Prop} (h : CallR X f r) (h' : CallR X f r') : CallR X f (λ xs H Q => r xs H Q \/ r' xs H Q) := by
  intro pins s σ H xs us Q I rs q
  rcases q with q | q
  . exact h pins s σ H xs us Q I rs q
  . exact h' pins s σ H xs us Q I rs q
theorem call_list_of : CallR X (.type "list") (λ xs H Q => ∃ p ys, xs = [.ref p] /\ (SqL X.K H p ys \/ SqT X.K H p ys) /\ ∀ l, H l = none -> Q (.ref l) (upd H l (.lst ys))) := by
  intro pins s σ H xs us Q I r h
  obtain ⟨p, ys, rfl, hq, q⟩ := h
  obtain ⟨u, rfl, rx⟩ := vals1 r
  cases rx
  have fin : ∀ (its : List Value), Vals ys its -> ys.length <= sizeLine -> ∀ (h' : Heap) (c' : Nat), (∀ b o', s.heap.get? b = some o' -> h'.get? b = some o') →
      h'.get? s.heap.objs.size = some { cls := .type "list", dict := none, data := .seq its.toArray c', slots := #[] } -> EP X pins σ Q (.ref s.heap.objs.size) { s with heap := h' } := λ its r' hz h' c' kp e =>
    ⟨.ref s.heap.objs.size, _, I.laid (t' := s.toks) kp (Nat.le_refl _) (show ObjOk X.prog X.w _ h' _ (.lst ys) from ⟨hz, its, c', r', e⟩), rfl, q _ (I.hok.fresh (Nat.le_refl _))⟩
  rcases hq with hq | hq
  . obtain ⟨its, r', pl, hz⟩ := I.list hq
    have hlen := r'.length
    obtain ⟨o, ho, hc, n, hd⟩ := pl.isList
    exact call_list_seq p (.inl rfl) ho hc hd (λ h' c' kp e => fin its r' hz h' c' kp e) (by simp only [List.size_toArray] <;> omega)
  . obtain ⟨its, r', pl, hz⟩ := I.tuple hq
    have hlen := r'.length
    obtain ⟨o, ho, hc, n, hd⟩ := pl
    exact call_list_seq p (.inr rfl) ho hc hd (λ h' c' kp e => fin its r' hz h' c' kp e) (by simp only [List.size_toArray] <;> omega)
theorem call_tuple_of : CallR X (.type "tuple") (λ xs H Q => ∃ p ys, xs = [.ref p] /\ ((SqL X.K H p ys /\ ∀ l, H l = none -> Q (.ref l) (upd H l (.tup ys))) \/ (SqT X.K H p ys /\ Q (.ref p) H))) := by
  intro pins s σ H xs us Q I r h
  obtain ⟨p, ys, rfl, h⟩ := h
  obtain ⟨u, rfl, rx⟩ := vals1 r
  cases rx
  rcases h with ⟨hq, q⟩ | ⟨hq, q⟩
  . obtain ⟨its, r', pl, hz⟩ := I.list hq
    have hlen := r'.length
    refine call_tuple_list pl.isList (λ h' kp => ?_) (by simp only [List.size_toArray] <;> omega)
    have I1 : Inv X pins σ H { s with heap := h' } := I.kept (t' := s.toks) kp
    have I2 : Inv X pins σ (upd H h'.objs.size (.tup ys)) { s with heap := h'.push { cls := .type "tuple", data := .seq its.toArray } } :=
      I1.laid (t' := s.toks) (λ b o e => Heap.get?_push_of_some _ e) (Nat.le_refl _) (show ObjOk X.prog X.w _ _ _ (.tup ys) from ⟨hz, its, r', IsTup.new _ _⟩)
    exact ⟨.ref h'.objs.size, _, I2, rfl, q _ (I1.hok.fresh (Nat.le_refl _))⟩
  . obtain ⟨its, r', pl, hz⟩ := I.tuple hq
    exact call_tuple_same pl ⟨.ref p, H, I, rfl, q⟩
noncomputable def tyV (K : PySem.W.Frag) (T : String) (x : V) (H : Hp) : Prop := match x with
  | .str _ => T = "str"
  | .int _ => T = "int"
  | .ref p => (T = "list" /\ ∃ xs, SqL K H p xs) \/ (T = "tuple" /\ ∃ o, K.lookup p = some o /\ o.cls = .type "tuple" /\ o.dict = none) ∨
      (T = "dict" /\ ((∃ kvs, H p = some (.dK kvs)) \/ ∃ kvs, H p = some (.dT kvs))) \/ (T = "set" /\ ∃ S n, H p = some (.set S n))
  | _ => False
theorem tyV_is {pins : List (Addr × Obj)} {σ : St} {H : Hp} {s : Shared} {T : String} {x : V} {v : Value} (I : Inv X pins σ H s) (r : RelV x v) (ty : tyV X.K T x H) :
    s.TypeIs v T /\ ∀ a, v = .ref a -> ∃ ob, s.heap.get? a = some ob /\ ob.dict = none := by
  cases x with
  | str z =>
    obtain ⟨t, rfl⟩ := r
    cases (show T = "str" from ty)
    exact ⟨typeIs_str s z t, λ _ e => nomatch e⟩
  | int i =>
    obtain ⟨t, rfl⟩ := r
    cases (show T = "int" from ty)
    exact ⟨typeIs_int s i t, λ _ e => nomatch e⟩
  | ref p =>
    cases r
    rcases ty with ⟨rfl, xs, hq⟩ | ⟨rfl, o, hk, hc, hd⟩ | ⟨rfl, hk⟩ | ⟨rfl, S, n, hk⟩
    . obtain ⟨its, _, pl, _⟩ := I.list hq
      refine ⟨pl.isList.typeIs, λ a e => ?_⟩
      cases e
      obtain ⟨o, n, e, c, hd, _⟩ := pl
      exact ⟨o, e, hd⟩
    . refine ⟨⟨o, I.kIn p o hk, hc⟩, λ a e => ?_⟩
      cases e
      exact ⟨o, I.kIn _ o hk, hd⟩
    . have z : ∃ o, s.heap.get? p = some o /\ o.ExactDict := by
        rcases hk with ⟨kvs, hk⟩ | ⟨kvs, hk⟩
        . obtain ⟨_, _, _, _, o, _, _, e, ex, _⟩ := I.hok p _ hk
          exact ⟨o, e, ex⟩
        . obtain ⟨_, _, _, _, o, _, _, e, ex, _⟩ := I.hok p _ hk
          exact ⟨o, e, ex⟩
      obtain ⟨o, e, ex⟩ := z
      refine ⟨⟨o, e, ex.1⟩, λ a e2 => ?_⟩
      cases e2
      exact ⟨o, e, ex.2.1⟩
    . obtain ⟨o, _, _, _, e, ex, _⟩ := I.hok p _ hk
      refine ⟨⟨o, e, ex.1⟩, λ a e2 => ?_⟩
      cases e2
      exact ⟨o, e, ex.2.1⟩
  | _ => exact False.elim ty
variable {o e : Expr} {es : List Expr} {to : TE} {t : TA} {name : Str} {apos cpos : Pos} {T id : String} {r : V -> List V -> Hp -> VK -> Prop}
/- xs.append(e), list.index on a module's tuple .. are MtR facts of 06m -/
end
end L2
namespace L2
open PySem PySem.Spec PyProof.Rows
noncomputable def MtM (X : Cx) (id : String) (r : V -> List V -> Hp -> VK -> Prop) : Prop :=
  ∀ (pins : List (Addr × Obj)) (s : Shared) (σ : St) (H : Hp) (x : V) (xs : List V) (v : Value) (us : List Value) (Q : VK), Inv X pins σ H s -> RelV x v -> Vals xs us -> r x xs H Q →
    wpAny (model X.prog X.w) X.A (call (.builtin id) (v :: us)) (EP X pins σ Q) X.xe s
theorem Vals.one : ∀ {x : V} {us : List Value}, Vals [x] us -> ∃ u, us = [u] /\ RelV x u
  | _, _, .cons r .nil => ⟨_, rfl, r⟩
theorem Vals.zero : ∀ {us : List Value}, Vals [] us -> us = []
  | _, .nil => rfl
theorem Vals.reverse {xs : List V} {us : List Value} (h : Vals xs us) : Vals xs.reverse us.reverse := by
  induction h with
  | nil => exact .nil
  | cons r t ih => rw [List.reverse_cons, List.reverse_cons]; exact Vals.append ih (.cons r .nil)
theorem Vals.rep {xs : List V} {us : List Value} (h : Vals xs us) : ∀ k : Nat, Vals (List.replicate k xs).flatten (List.replicate k us).flatten
  | 0 => .nil
  | k + 1 => by
    rw [List.replicate_succ, List.replicate_succ, List.flatten_cons, List.flatten_cons]
    exact Vals.append h (Vals.rep h k)
theorem foldl_rep (its : List Value) : ∀ (k : Nat) (acc : List Value),
    List.foldl (λ x1 x2 => x1 ++ x2) acc.toArray (List.replicate k its.toArray) = (acc ++ (List.replicate k its).flatten).toArray
  | 0, acc => by simp
  | k + 1, acc => by
    have e : acc.toArray ++ its.toArray = (acc ++ its).toArray := by simp
    have e2 : (acc ++ its) ++ (List.replicate k its).flatten = acc ++ (List.replicate (k + 1) its).flatten := by
      rw [List.replicate_succ, List.flatten_cons, List.append_assoc]
    rw [<- e2, <- foldl_rep its k (acc ++ its), <- e, List.replicate_succ, List.foldl_cons]
section
variable {X : Cx} {pins : List (Addr × Obj)} {σ : St} {H : Hp} {s : Shared} {l b : Addr} {xs ys zs : List V}
theorem Inv.lset {its its' : List Value} {n : Nat} {f : Array Value -> Array Value} {t' : Nat} (I : Inv X pins σ H s) (hH : H l = some (.lst xs))
    (e : s.heap.get? l = some { cls := .type "list", data := .seq its.toArray n }) (hf : f its.toArray = its'.toArray) (hv : Vals ys its') (hz : ys.length <= sizeLine) :
    Inv X pins σ (upd H l (.lst ys)) { s with heap := s.heap.update l (Obj.mapSeq f), toks := t' } := by
  have q := PySem.IsL.update e f
  rw [hf] at q
  refine I.write (x := l) (e := l) (by rw [hH]; exact trivial) (.inl rfl) (λ b' u hb hu => (Heap.get?_update_other s.heap (Obj.mapSeq f) (Ne.symm hb)).trans hu) ⟨_, q⟩ ?_
  exact ⟨hz, its', _, hv, q⟩
theorem Inv.lnew {its : List Value} {t' : Nat} (I : Inv X pins σ H s) (hv : Vals ys its) (hz : ys.length <= sizeLine) :
    Inv X pins σ (upd H s.heap.objs.size (.lst ys)) { s with heap := s.heap.push { cls := .type "list", data := .seq its.toArray }, toks := t' } :=
  I.laid (λ _ _ q => Heap.get?_push_of_some _ q) (Nat.le_refl _) ⟨hz, its, 0, hv, Heap.get?_push_size _ rfl⟩
theorem Inv.fresh (I : Inv X pins σ H s) : H s.heap.objs.size = none := I.hok.fresh (Nat.le_refl _)
theorem Inv.lstM (I : Inv X pins σ H s) (hH : H l = some (.lst xs)) : xs.length <= sizeLine /\ ∃ (its : List Value) (n : Nat), Vals xs its /\ xs.length = its.length /\ s.heap.get? l = some { cls := .type "list", data := .seq its.toArray n } := by
  obtain ⟨z, its, n, r, e⟩ := I.hok l _ hH
  exact ⟨z, its, n, r, r.length, e⟩
theorem notLongL {n : Nat} (h : n <= sizeLine) : Builtin.List.listTooLong n = false := by
  unfold Builtin.List.listTooLong
  exact decide_eq_false (by omega)
end
section
variable {X : Cx}
noncomputable def rAppend : V -> List V -> Hp -> VK -> Prop := λ x vs H Q => ∃ l xs y, x = .ref l /\ vs = [y] /\ H l = some (.lst xs) /\ xs.length < sizeLine /\ Q .non (upd H l (.lst (xs ++ [y])))
theorem mt_append : MtM X "list.append" rAppend := by
  intro pins s σ H x vs v us Q I rx rv h
  obtain ⟨l, xs, y, rfl, rfl, hH, hz, q⟩ := h
  cases rx
  obtain ⟨u, rfl, ru⟩ := rv.one
  obtain ⟨z, its, n, r, hl, e⟩ := I.lstM hH
  refine call_meets F.slot_list_append ⟨_, e, rfl⟩ F.entry_list_append (F.args_list_append_2 _ _) (PySem.list_append l its.toArray n u (by rw [List.size_toArray]; omega)) ⟨e, ?_⟩
  refine ⟨.non, _, I.lset (its' := its ++ [u]) hH e (by simp) (r.append (.cons ru .nil)) ?_, rfl, q⟩
  rw [List.length_append, List.length_singleton]
  omega
noncomputable def rClear : V -> List V -> Hp -> VK -> Prop := λ x vs H Q => ∃ l xs, x = .ref l /\ vs = [] /\ H l = some (.lst xs) /\ Q .non (upd H l (.lst []))
theorem mt_clear : MtM X "list.clear" rClear := by
  intro pins s σ H x vs v us Q I rx rv h
  obtain ⟨l, xs, rfl, rfl, hH, q⟩ := h
  cases rx
  have hus := rv.zero
  subst hus
  obtain ⟨z, its, n, r, hl, e⟩ := I.lstM hH
  refine call_meets F.slot_list_clear ⟨_, e, rfl⟩ F.entry_list_clear (F.args_list_clear_1 _) (AutoSeq1.list_clear_list_0 l its.toArray n (by rw [List.size_toArray]; omega)) ⟨e, ?_⟩
  exact ⟨.non, _, I.lset (its' := []) (ys := []) hH e rfl .nil (Nat.zero_le _), rfl, q⟩
noncomputable def rCat : R2 := λ x y H Q => ∃ l b xs zs, x = .ref l /\ y = .ref b /\ H l = some (.lst xs) /\ H b = some (.lst zs) /\ xs.length + zs.length <= sizeLine /\ ∀ p, H p = none -> Q (.ref p) (upd H p (.lst (xs ++ zs)))
theorem op_cat : OpR X (binaryOp .Add) rCat := by
  intro pins s σ H x y v u Q I rx ry h
  obtain ⟨l, b, xs, zs, rfl, rfl, hH, hB, hz, q⟩ := h
  cases rx
  cases ry
  obtain ⟨z, its, n, r, hl, e⟩ := I.lstM hH
  obtain ⟨z2, its2, n2, r2, hl2, e2⟩ := I.lstM hB
  refine PySem.P.add_list e e2 ?_ (by rw [List.size_toArray, List.size_toArray]; omega)
  have ea : its.toArray ++ its2.toArray = (its ++ its2).toArray := by simp
  rw [ea]
  exact ⟨.ref _, _, I.lnew (t' := s.toks) (r.append r2) (by rw [List.length_append]; omega), rfl, q _ I.fresh⟩
noncomputable def rRep : R2 := λ x y H Q => ∃ l k xs, x = .ref l /\ y = .int k /\ H l = some (.lst xs) /\ -(2 ^ 63) <= k /\ k < 2 ^ 63 /\ xs.length * k.toNat <= sizeLine ∧
  ∀ p, H p = none -> Q (.ref p) (upd H p (.lst (List.replicate k.toNat xs).flatten))
theorem len_rep {α : Type} (xs : List α) (k : Nat) : (List.replicate k xs).flatten.length = k * xs.length := by
  induction k with
  | zero => simp
  | succ k ih => rw [List.replicate_succ, List.flatten_cons, List.length_append, ih, Nat.succ_mul, Nat.add_comm]
theorem op_rep : OpR X (binaryOp .Mult) rRep := by
  intro pins s σ H x y v u Q I rx ry h
  obtain ⟨l, k, xs, rfl, rfl, hH, h1, h2, hz, q⟩ := h
  cases rx
  obtain ⟨t, rfl⟩ := ry
  obtain ⟨z, its, n, r, hl, e⟩ := I.lstM hH
  have hlen : its.toArray.size * k.toNat <= sizeLine := by rw [List.size_toArray, <- hl]; exact hz
  have hcap : ¬ its.toArray.size * k.toNat > (2 ^ 63 - 1) / 8 := by
    have : (sizeLine : Nat) <= (2 ^ 63 - 1) / 8 := by decide
    omega
  have hfit : ¬ (!Builtin.List.listFitsIndex k) = true := by
    rw [fitsIndex_both h1 h2]
    exact Bool.false_ne_true
  have hlong : ¬ Builtin.List.listTooLong (its.toArray.size * k.toNat) = true := by
    rw [notLongL hlen]
    exact Bool.false_ne_true
  have hnew : List.foldl (λ x1 x2 => x1 ++ x2) #[] (List.replicate (if its.toArray.isEmpty = true then 0 else k.toNat) its.toArray) = (List.replicate k.toNat its).flatten.toArray := by
    have f0 : ∀ m : Nat, List.foldl (λ x1 x2 => x1 ++ x2) #[] (List.replicate m its.toArray) = (List.replicate m its).flatten.toArray := λ m => by
      have := foldl_rep its m []
      rw [List.nil_append] at this
      exact this
    rw [f0]
    cases its with
    | nil => simp
    | cons a r' => rw [if_neg (by simp)]
  refine wpAny_binaryOp_repeat_ref (T := "list") (U := "int") (by decide) ⟨_, e, rfl⟩ (λ s' => typeIs_int s' k t) noFill_list_mul F.fills_int_mul F.slot_int_rmul repeat_list F.slot_int_index.lookup
    (call_meets F.slot_int_rmul (typeIs_int s k t) F.entry_int_rmul (F.args_int_rmul_2 _ _) (int___rmul___int_list k t l its.toArray n)
      ⟨e, rfl, ⟨_, e, rfl⟩, call_meets F.slot_list_mul ⟨_, e, rfl⟩ F.entry_list_mul (F.args_list_mul_2 _ _) (AutoListH.list___mul___list_int_3 l its.toArray n k t hfit hcap hlong) ⟨e, ?_⟩⟩)
  rw [hnew]
  exact ⟨.ref _, _, I.lnew (t' := s.toks) (r.rep k.toNat) (by rw [len_rep, Nat.mul_comm]; exact hz), rfl, q _ I.fresh⟩
end
section
variable {prog : Program} {w : World} {A : Around} {E : Value -> Shared -> Prop} {s : Shared}
set_option maxRecDepth 100000 in
end
section
variable {X : Cx}
end
end L2
namespace Att
open PySem PySem.W PySem.Calls PyProof.Rows
theorem ints_of_wellAll {P : Params} {h : Heap} : ∀ (ns : List Int) (vs : List Value), WellAll P h vs (ns.map WData.int) -> IntsAre vs ns := by
  intro ns
  induction ns with
  | nil =>
    intro vs w
    rw [List.map_nil] at w
    cases w
    exact .nil
  | cons n ns ih =>
    intro vs w
    rw [List.map_cons] at w
    cases w with
    | cons a b =>
      cases a
      exact .cons _ _ (ih _ b)
theorem script_of {l : OpenLaw} {n : Nat} (hn : l.most = some n) {P : Params} {h : Heap} {args : List WData} {vals : List Value}
    (hpre : l.row.toRowW.claim.pre args = true) (hwl : WellAll P h vals args) :
    ∃ a vs ns, vals = [Value.ref a] /\ args = [WData.list (ns.map WData.int)] /\ h.get? a = some { cls := .type "list", data := .seq vs.toArray } /\ IntsAre vs ns /\ ns.length <= n := by
  have hsh : WShape.hasAll [] args [.list .int] = true := (pre_splitW hpre).1
  have hc : l.pre.holds [] { args := args } = true := (pre_splitW hpre).2
  obtain ⟨d, r, rfl, h1, h2⟩ := hasAllW_cons hsh
  obtain rfl := hasAllW_nil h2
  obtain ⟨xs, rfl, h3⟩ := hasW_list h1
  obtain ⟨ns, rfl⟩ := items_int h3
  have hlen : ns.length <= n := by
    unfold OpenLaw.pre at hc
    have h4 : (WTm.not (.lt (.lit (.int (n : Int))) (.len (.arg 0)))).holds [] { args := [.list (ns.map .int)] } = true := by
      have h4 := (holds_andW hc).1
      rw [hn] at h4
      exact h4
    have h5 := condW_of h4 (w_not (w_lt w_lit (w_len_list (w_arg rfl))))
    rw [List.length_map] at h5
    refine Nat.le_of_not_lt λ q => ?_
    have q' : (n : Int) < ((ns.length : Nat) : Int) := by omega
    first
      | (rw [decide_eq_true q'] at h5; exact absurd h5 (by decide))
      | (simp at h5; omega)
  cases hwl with
  | cons w1 w2 =>
    cases w2
    cases w1 with
    | list ho hall => exact ⟨_, _, ns, rfl, rfl, ho, ints_of_wellAll ns _ hall, hlen⟩
theorem post_true (l : OpenLaw) (args : List WData) : l.row.toRowW.claim.post args (.bool true) args = true :=
  postW_of (r := l.row.toRowW) (X := (true == true))
    (show WShape.has [] (.bool true) .bool = true by first | rfl | decide | simp [WShape.has, WShape.arms, WShape.armsAll])
    (show (WTm.eq .res (.lit (.bool true))).value [] { args := args, res := some (.bool true), after := args } = some (.bool (true == true)) from w_eq_bool (w_res rfl) w_lit) rfl
theorem attach_call {l : OpenLaw} {n : Nat} {q : Program} {loose : List Str} {XP : (Str -> Option Value) -> Heap -> Prop} {YP : World -> Heap -> Prop} {d : DefRec}
    (hn : l.most = some n) (hdf : d.params.defaults = [])
    (call : ∀ (w : World) (s₀ s₁ : Shared) (mg mb : Str -> Option Value) (fa : Addr) (o : Obj) (pm cd doc : Value) (a : Addr) (vs : List Value) (ns : List Int),
      Ground q loose [] XP w s₀ mg mb s₁.heap -> YP w s₁.heap →
      s₁.heap.get? fa = some o -> o.data = .func (docDef d.name d.params d.body d.scope pm cd doc) -> s₁.heap.CodeRec cd d.name -> mg d.name = some (.ref fa) →
      s₁.heap.get? a = some { cls := .type "list", data := .seq vs.toArray } -> IntsAre vs ns -> ns.length <= n -> s₁.gens = #[] →
      codeAny (model l.prog w) callerA (.call (.ref fa) ⟨[.ref a], []⟩) (λ r s' => r = .ok (.ret (.bool true)) /\ OldK s₁.heap s'.heap /\ s'.os = s₁.os /\ AllBare s'.gens) s₁) :
    WalkO q loose XP YP l.row.toRowW d [] (λ f vs => PySem.call f vs) := by
  intro w s₀ s₁ mg mb G Y fa o pm cd doc dV kV ho hd hcd hD hmg hg args vals as hpre hlay hrd hwl hlo
  obtain rfl : dV = .none := Dflts.none hD hdf
  obtain rfl : kV = .none := Dflts.noKw hD
  obtain ⟨a, vs, ns, rfl, rfl, hobj, hints, hlen⟩ := script_of hn hpre hwl
  refine enter_call (codeAny_mono (call w s₀ s₁ mg mb fa o pm cd doc a vs ns G Y ho (fd_plain hd) hcd hmg hobj hints hlen hg) λ r s' hq => ?_)
  obtain ⟨rfl, h2, h3, h4⟩ := hq
  exact ⟨.inl ⟨.bool true, .bool true, [], rfl, λ _ => rfl, .bool true, post_true l _, λ _ => ⟨List.Pairwise.nil, λ _ hm => (nomatch hm)⟩⟩, h2, h3, h4⟩
section
variable {prog : Program} {w : World} {A : Around} {E : Value -> Shared -> Prop} {s : Shared} {K : Frag}
end
end Att
namespace L2
open PySem PySem.Spec PyProof.Rows
theorem vals_ints : ∀ {vs : List Value} {ns : List Int}, IntsAre vs ns -> Vals (ns.map V.int) vs
  | _, _, .nil => .nil
  | _, _, .cons n t h => .cons ⟨t, rfl⟩ (vals_ints h)
noncomputable def Only (H : Hp) : Prop := ∀ b, H b = none \/ ∃ o xs, H b = some (.frz o (.lst xs))
theorem law_call {P : Program} {w : World} {K : PySem.W.Frag} {mg mb : Str -> Option Value} {CX : CXT} {k : Nat} {fa a : Addr} {fd : FuncData} {x : Str} {sp : Sp} {s₁ : Shared} {vs : List Value} {ns : List Int}
    (KX : K.In s₁.heap) (hns : s₁.heap.Ns mainGlobals mg) (hb : s₁.heap.Ns builtinsNs mb) (hbb : ∀ x : Str, x ≠ "__name__" -> mb x = bootBuiltins x) (hlim : s₁.heap.NoLimit) (hg : s₁.gens = #[])
    (ha : s₁.heap.get? a = some { cls := .type "list", data := .seq vs.toArray }) (hi : IntsAre vs ns) (hl : ns.length <= sizeLine) (hr : Room k callerA)
    (F : ∀ base : Heap, K.In base -> base.Ns mainGlobals mg -> FnOk P w K mg base CX k fa fd [x] sp) (hbind : ∀ (s : Shared) (u : Value), BindsTo s fd ⟨[u], []⟩ [(x, u)])
    (hsp : ∀ H : Hp, Only H -> SqL K H a (ns.map V.int) -> sp [.ref a] H (λ v _ => v = .bl true) λ _ _ _ => False)
    (hCX : ∀ H e s', CX [] H s₁ (λ _ _ _ => False) e s' -> False) :
    codeAny (model P w) callerA (.call (.ref fa) ⟨[.ref a], []⟩) (λ r s' => r = .ok (.ret (.bool true)) /\ OldK s₁.heap s'.heap /\ s'.os = s₁.os /\ AllBare s'.gens) s₁ := by
  have rv := vals_ints hi
  have lenV := hi.length
  have core : ∀ H : Hp, Only H -> SqL K H a (ns.map V.int) -> HOk P w H s₁.heap -> (∀ b, H b ≠ none -> b = a) -> (H a ≠ none -> K.lookup a = none) →
      codeAny (model P w) callerA (.call (.ref fa) ⟨[.ref a], []⟩) (λ r s' => r = .ok (.ret (.bool true)) /\ OldK s₁.heap s'.heap /\ s'.os = s₁.os /\ AllBare s'.gens) s₁ := by
    intro H hO hS hok hA hK
    have base_of : ∀ {b : Addr} {o : Obj}, s₁.heap.get? b = some o -> H b = none -> (hidT s₁.heap H).get? b = some o := λ e n => hidT_get e n
    have noA : ∀ {b : Addr} {o : Obj} {es : Array DictEntry} {ep : Nat}, s₁.heap.get? b = some o -> o.data = .dict es ep -> H b = none := λ {b o es ep} e d => by
      cases q : H b with
      | none => rfl
      | some u =>
        have e' : b = a := hA b (by rw [q]; simp)
        subst e'
        rw [ha] at e; cases e
        have d' : Data.seq vs.toArray _ = Data.dict es ep := d
        cases d'
    have nsK : ∀ {b : Addr} {m : Str -> Option Value}, s₁.heap.Ns b m -> (hidT s₁.heap H).Ns b m := λ {b m} ⟨o, es, ep, e, d, r⟩ => ⟨o, es, ep, base_of e (noA e d), d, r⟩
    have hKb : K.In (hidT s₁.heap H) := λ b o e => base_of (KX b o e) (by
      cases q : H b with
      | none => rfl
      | some u =>
        have e' : b = a := hA b (by rw [q]; simp)
        subst e'
        rw [hK (by rw [q]; simp)] at e; cases e)
    have hM : Mod K mg (hidT s₁.heap H) := ⟨hKb, nsK hns, ⟨mb, nsK hb, hbb⟩, let ⟨mc, h1, h2⟩ := hlim; ⟨mc, nsK h1, h2⟩⟩
    have e0 : Env0 P w K mg (hidT s₁.heap H) callerA [] s₁ H := ⟨rfl, hM, λ b o e => of_hidT e, Nat.le_of_eq (hidT_size _ _), trivial, λ b hb => absurd (show b ∈ ([] : List Addr) from hb) (by simp), hok, .of_eq hg⟩
    refine codeAny_mono ((F _ hKb (nsK hns)).run callerA [] s₁ H ⟨[.ref a], []⟩ [.ref a] [.ref a] _ _ hr e0 (hbind s₁ (.ref a)) (.cons rfl .nil) (hsp H hO hS)) λ r s' h => ?_
    cases r with
    | error e => exact (hCX H e s' h).elim
    | ok fl =>
      cases fl with
      | next => exact False.elim h
      | brk => exact False.elim h
      | cont => exact False.elim h
      | ret u =>
        obtain ⟨v, H', os, bare, un, hok', r', q⟩ := h
        have q' : v = .bl true := q
        subst q'
        obtain rfl : u = Value.bool true := r'
        refine ⟨rfl, OldK.of_keep λ b o e => ?_, os, bare⟩
        cases q : H b with
        | none => exact un.keep b o e q (by intro z; exact absurd (show b ∈ ([] : List Addr) from z) (by simp)) (by simp)
        | some u =>
          rcases hO b with z | ⟨ob, xs, z⟩
          . rw [q] at z; cases z
          . have z2 := un.frzs b ob _ z
            obtain ⟨e1, _⟩ := hok b _ z
            obtain ⟨e2, _⟩ := hok' b _ z2
            rw [e] at e1; cases e1
            exact e2
  cases hk : K.lookup a with
  | some o =>
    have e := KX a o hk
    rw [ha] at e
    cases e
    refine core (λ _ => none) (λ _ => .inl rfl) (.inr ⟨_, vs.toArray, _, hk, rfl, rfl, rfl, by rw [List.size_toArray, lenV]; exact hl, by simpa using rv⟩) (λ b u z => by have z' : (none : Option HO) = some u := z; cases z') (λ b z => absurd rfl z) λ z => absurd rfl z
  | none =>
    refine core (λ b => if b = a then some (.frz { cls := .type "list", data := .seq vs.toArray } (.lst (ns.map V.int))) else none) (λ b => ?_) (.inl (.inr ⟨{ cls := .type "list", data := .seq vs.toArray }, if_pos rfl⟩)) (λ b u z => ?_) (λ b z => ?_) λ _ => hk
    . by_cases hb : b = a
      . exact .inr ⟨_, _, if_pos hb⟩
      . exact .inl (if_neg hb)
    . by_cases hb : b = a
      . have z' := (if_pos hb).symm.trans z
        cases z'
        subst hb
        exact ⟨ha, by rw [List.length_map]; exact hl, vs, _, rv, ha⟩
      . have z' := (if_neg hb).symm.trans z
        cases z'
    . by_cases hb : b = a
      . exact hb
      . exact absurd (if_neg hb) z
end L2
namespace L2
open PySem PySem.Spec PyProof.Rows
theorem walk_of {l : PySem.W.OpenLaw} {n k : Nat} {q : Program} {loose : List Str} {XP : (Str -> Option Value) -> Heap -> Prop} {YP : World -> Heap -> Prop} {d : DefRec} {K : Params -> PySem.W.Frag} {CX : World -> CXT} {sp : World -> Sp} {x : Str}
    (hn : l.most = some n) (hn2 : n <= sizeLine) (hdf : d.params.defaults = []) (hr : Room k callerA)
    (hY : ∀ (w : World) (h : Heap), YP w h -> (K w.params).In h)
    (F : ∀ (w : World) (mg : Str -> Option Value) (fa : Addr) (h : Heap), (K w.params).In h -> h.Ns mainGlobals mg -> mg d.name = some (.ref fa) →
      ∃ fd : FuncData, (∀ (s : Shared) (u : Value), BindsTo s fd ⟨[u], []⟩ [(x, u)]) ∧
        ∀ base : Heap, (K w.params).In base -> base.Ns mainGlobals mg -> FnOk l.prog w (K w.params) mg base (CX w) k fa fd [x] (sp w))
    (hsp : ∀ (w : World) (H : Hp) (a : Addr) (ns : List Int), ns.length <= n -> Only H -> SqL (K w.params) H a (ns.map V.int) -> sp w [.ref a] H (λ v _ => v = .bl true) λ _ _ _ => False)
    (hCX : ∀ (w : World) (H : Hp) (s : Shared) (e : Value) (s' : Shared), CX w [] H s (λ _ _ _ => False) e s' -> False) :
    PySem.W.WalkO q loose XP YP l.row.toRowW d [] (λ f vs => PySem.call f vs) := by
  refine Att.attach_call hn hdf λ w s₀ s₁ mg mb fa o pm cd doc a vs ns G Y ho hd hcd hmg hobj hints hlen hg => ?_
  have KX := hY w _ Y
  obtain ⟨fd, hb, hF⟩ := F w mg fa _ KX G.T.g hmg
  exact law_call KX G.T.g G.T.b G.T.builtins G.T.nolimit hg hobj hints (Nat.le_trans hlen hn2) hr hF hb (λ H hO hS => hsp w H a ns hlen hO hS) λ H e s' => hCX w H s₁ e s'
end L2
/- THE LAST THEOREM (shape; LID, My.* are yours):
   My.Adr: a structure of the addresses that your layer names (classes, functions); My.Txt K t: a structure (Prop) of the equations over K;
   My.txt_mk : {K} {implicit addresses ..} (e1 : nsIn K mainGlobals "law" = some (some (.ref f))) (e2 : K.lookup f = some ⟨oc, od, .func (fnOf "law" "law" params body scope dV kV doc pm an cdv ct), sl⟩) (e3 : codeIn K cdv "law" = true) .. : ∃ t, My.Txt K t
set_option maxRecDepth 100000 in
set_option maxHeartbeats 0 in
(the tactic k_is has no namespace: write k_is) -/
namespace L2
open PySem PySem.Spec PyProof.Rows
noncomputable def inClass (s : Stmt) (j : Nat) : Stmt := match s with
  | .ClassDef _ _ _ body _ _ _ _ _ _ _ => body.getD j (.Pass ⟨0, 0, 0, 0⟩)
  | _ => .Pass ⟨0, 0, 0, 0⟩
noncomputable def defArgs (s : Stmt) : Arguments := match s with
  | .FunctionDef _ a _ _ _ _ _ _ _ _ => a
  | _ => { posonlyargs := [], args := [], vararg := none, kwonlyargs := [], kw_defaults := [], kwarg := none, defaults := [] }
noncomputable def defBody (s : Stmt) : List Stmt := match s with
  | .FunctionDef _ _ b _ _ _ _ _ _ _ => b
  | _ => []
noncomputable def defScope (s : Stmt) : Scope := match s with
  | .FunctionDef _ _ _ _ _ _ sc _ _ _ => sc
  | _ => { kind := .function, names := [], isGenerator := false, isCoroutine := false }
noncomputable abbrev CX0 : CXT := λ _ _ _ _ _ _ => False
noncomputable abbrev E0 : XK := λ _ _ _ => False
theorem pass0 {X : Cx} : Passes CX0 X E0 := λ _ _ _ _ _ _ _ h => h.elim
structure Fun (K : PySem.W.Frag) (x qual : Str) (st : Stmt) (f : Addr) (fd : FuncData) : Prop where
  ex : ∃ (oc : Value) (od : Option Addr) (kV doc pm : Value) (an : Option Addr) (cdv ct : Value) (osl : Array (Option Value)),
    fd = PySem.W.fnOf x qual (defArgs st) (defBody st) (defScope st) .none kV doc pm an cdv ct /\ K.lookup f = some ⟨oc, od, .func fd, osl⟩ /\ PySem.W.codeIn K cdv qual = true
  kp : PySem.W.keepIn K (.ref f) = true
section
variable {P : Program} {w : World} {K : PySem.W.Frag} {mg : Str -> Option Value} {base : Heap}
theorem Fun.ok {x qual : Str} {st : Stmt} {f : Addr} {fd : FuncData} {N ps : List Str} {k : Nat} {sp : Sp} (F : Fun K x qual st f fd) (S : FnScope N ps (defScope st)) (len : ∀ vs H Q E, sp vs H Q E -> vs.length = ps.length)
    (hbody : ∀ (cdv : Value) (A : Around) (outer : List Env) (s : Shared) (H : Hp) (vs : List V) (Q : VK) (E : XK), Room k (A.deeper (envOfC qual (defScope st) s.heap.objs.size f cdv)) -> sp vs H Q E →
      ∃ t, PSs (cxOf CX0 P w K mg base N qual (defScope st) f cdv A outer s H E).nox (defBody st) t /\ t { nx := λ _ H' => Q .non H', rt := Q } (start N vs) H) : FnOk P w K mg base CX0 (k + 1) f fd ps sp := by
  obtain ⟨oc, od, kV, doc, pm, an, cdv, ct, osl, rfl, lk, hcd⟩ := F.ex
  refine fn_of lk hcd S len λ A outer s H vs Q E hr hsp => ?_
  obtain ⟨t, h, q⟩ := hbody cdv A outer s H vs Q E hr hsp
  exact ⟨t, h.nox, q⟩
theorem Fun.binds {x qual : Str} {st : Stmt} {f : Addr} {fd : FuncData} {ps : List Str} (F : Fun K x qual st f fd)
    (h : ∀ (kV doc pm : Value) (an : Option Addr) (cdv ct : Value) (us : List Value), us.length = ps.length -> bindArgs (PySem.W.fnOf x qual (defArgs st) (defBody st) (defScope st) .none kV doc pm an cdv ct) ⟨us, []⟩ = pure (ps.zip us)) : Binds K fd ps [] := by
  obtain ⟨oc, od, kV, doc, pm, an, cdv, ct, osl, rfl, lk, hcd⟩ := F.ex
  exact .all (h kV doc pm an cdv ct)
theorem fun_mk {x qual : Str} {st : Stmt} {f : Addr} {oc : Value} {od an : Option Addr} {osl : Array (Option Value)} {kV doc pm cdv ct : Value} (l : K.lookup f = some ⟨oc, od, .func (PySem.W.fnOf x qual (defArgs st) (defBody st) (defScope st) .none kV doc pm an cdv ct), osl⟩)
    (c : PySem.W.codeIn K cdv qual = true) (k : PySem.W.keepIn K (.ref f) = true) : Fun K x qual st f (PySem.W.fnOf x qual (defArgs st) (defBody st) (defScope st) .none kV doc pm an cdv ct) := ⟨⟨oc, od, kV, doc, pm, an, cdv, ct, osl, rfl, l, c⟩, k⟩
end
theorem hu_of {A : Around} {k : Nat} (hr : Room k A) : A.units + 1 < cLine := Nat.lt_of_le_of_lt (Nat.add_le_add_left (by decide : 1 <= 64) _) hr.units
theorem small1000 {n : Nat} (h : n <= 1000) : n < sizeLine := Nat.lt_of_le_of_lt h (by decide)
section
variable {X : Cx}
theorem call_lenD : CallR X (.builtin "len") (λ xs H Q => ∃ a kvs, xs = [V.ref a] /\ H a = some (.dK kvs) /\ Q (.int kvs.length) H) := by
  intro pins s σ H xs us Q I r h
  obtain ⟨a, kvs, rfl, ha, q⟩ := h
  obtain ⟨u, rfl, ru⟩ := vals1 r
  cases ru
  exact d_len I (.inl ha) λ t s' I' => ⟨.int kvs.length, H, I', ⟨t, rfl⟩, q⟩
end
noncomputable def Same (H H' : Hp) : Prop := ∀ b o, H b = some o -> H' b = some o
theorem Same.refl (H : Hp) : Same H H := λ _ _ h => h
theorem Same.trans {H H1 H2 : Hp} (a : Same H H1) (b : Same H1 H2) : Same H H2 := λ c o h => b c o (a c o h)
theorem Same.free {H H' : Hp} (e : Same H H') {l : Addr} (h : H' l = Option.none) : H l = Option.none := by
  cases q : H l with
  | none => rfl
  | some o =>
    rw [e l o q] at h
    cases h
theorem Same.seq {K : PySem.W.Frag} {H H' : Hp} {a : Addr} {xs : List V} (e : Same H H') (h : SqL K H a xs) : SqL K H' a xs := by
  rcases h with (h | ⟨o, h⟩) | h
  . exact .inl (.inl (e _ _ h))
  . exact .inl (.inr ⟨o, e _ _ h⟩)
  . exact .inr h
section
variable {κ : Type} [DecidableEq κ]
theorem nd_snoc : ∀ {l : List κ} {k : κ}, l.Nodup -> ¬ k ∈ l -> (l ++ [k]).Nodup
  | [], k, _, _ => by simp
  | a :: r, k, h, hk => by
    obtain ⟨h1, h2⟩ := List.nodup_cons.mp h
    show (a :: (r ++ [k])).Nodup
    refine List.nodup_cons.mpr ⟨λ m => ?_, nd_snoc h2 λ m => hk (List.mem_cons.mpr (Or.inr m))⟩
    rcases List.mem_append.mp m with q | q
    . exact h1 q
    . exact hk (List.mem_cons.mpr (Or.inl (List.mem_singleton.mp q).symm))
end
end L2
set_option maxHeartbeats 4000000
namespace L2
open PySem PySem.Spec PyProof.Rows
theorem same_upd {H : Hp} {p : Addr} {o : HO} (h : H p = none) : Same H (upd H p o) := λ b u e => by
  rw [upd_ne (ne_of_none e h)]
  exact e
theorem Same.put {H H' : Hp} {p : Addr} {o : HO} (s : Same H H') (h : H p = none) : Same H (L2.upd H' p o) := λ b u e => by
  rw [upd_ne (ne_of_none e h)]
  exact s b u e
@[irreducible] noncomputable def br (c : Bool) (A B : Prop) : Prop := match c with
  | true => A
  | false => B
theorem br_t {c : Bool} {A B : Prop} (hc : c = true) (h : A) : br c A B := by
  subst hc
  unfold br
  exact h
theorem br_f {c : Bool} {A B : Prop} (hc : c = false) (h : B) : br c A B := by
  subst hc
  unfold br
  exact h
theorem br_true {A B : Prop} : br true A B = A := by unfold br; rfl
theorem br_false {A B : Prop} : br false A B = B := by unfold br; rfl
theorem br_ite {c : Bool} {A B : Prop} (h : br c A B) : if c = true then A else B := by
  cases c
  . rw [br_false] at h
    simpa using h
  . rw [br_true] at h
    simpa using h
theorem br_of {c : Bool} {A B : Prop} (h1 : c = true -> A) (h2 : c = false -> B) : br c A B := by
  cases c
  . exact br_f rfl (h2 rfl)
  . exact br_t rfl (h1 rfl)
theorem br_dec {c : Prop} [Decidable c] {A B : Prop} (h1 : c -> A) (h2 : ¬ c -> B) : br (decide c) A B := br_of (λ h => h1 (of_decide_eq_true h)) (λ h => h2 (of_decide_eq_false h))
theorem br_not {c : Bool} {A B : Prop} (h : br c B A) : br (!c) A B := by
  cases c
  . rw [br_false] at h
    exact br_t rfl h
  . rw [br_true] at h
    exact br_f rfl h
theorem call_isinst {X : Cx} : CallR X (.builtin "isinstance") (λ xs H Q => ∃ (x : V) (t : Value) (b : Bool) (T : String), xs = [x, .ty T] /\ TyOf X.K H x t /\ PySem.W.kitOne X.K t (.type T) = some b /\ Q (.bl b) H) := by
  intro pins s σ H xs us Q I r h
  obtain ⟨x, t, b, T, rfl, ty, e, q⟩ := h
  obtain ⟨u, w', rfl, ru, rw'⟩ := vals2 r
  cases rw'
  exact isinst_ok I ru ty e λ tk => ⟨.bl b, H, I.tok tk, rfl, q⟩
noncomputable def kindV (H : Hp) : V -> Option String
  | .non => some "NoneType"
  | .bl _ => some "bool"
  | .int _ => some "int"
  | .str _ => some "str"
  | .ref a => match H a with
    | some (.lst _) => some "list"
    | some (.frz _ (.lst _)) => some "list"
    | some (.tup _) => some "tuple"
    | some (.dK _) => some "dict"
    | some (.dT _) => some "dict"
    | _ => none
  | _ => none
theorem tyOf_kind {K : PySem.W.Frag} {H : Hp} {x : V} {T : String} (e : kindV H x = some T) : TyOf K H x (.type T) := by
  unfold kindV at e
  split at e
  . cases e; exact .non
  . cases e; exact .bl _
  . cases e; exact .int _
  . cases e; exact .str _
  . split at e
    . cases e; exact .lst (by assumption)
    . cases e; exact .frz (by assumption)
    . cases e; exact .tup (by assumption)
    . cases e; exact .dK (by assumption)
    . cases e; exact .dT (by assumption)
    . cases e
  . cases e
noncomputable def isKind (S T : String) : Bool := S == T || (S == "bool" && T == "int")
noncomputable def ownKinds : List String := ["NoneType", "bool", "int", "str", "list", "tuple", "dict"]
theorem kit_tt {K : PySem.W.Frag} {S T : String} {l : List Value} (hm : PySem.W.kitMeta T = true) (hl : fastBuiltinMro S = some l) : PySem.W.kitOne K (.type S) (.type T) = some ((Value.type S == Value.type T) || l.contains (.type T)) := by
  show (if (Value.type S == Value.type T) = true then some true else if PySem.W.kitMeta T = true then (fastBuiltinMro S).map (·.contains (.type T)) else none) = _
  rw [hm, hl]
  cases (Value.type S == Value.type T) <;> rfl
noncomputable def rIsi : List V -> Hp -> VK -> Prop := λ xs H Q => ∃ (x : V) (S T : String), xs = [x, .ty T] /\ kindV H x = some S /\ T ∈ ["str", "int", "bool", "list", "tuple", "dict"] /\ Q (.bl (isKind S T)) H
theorem kindV_own {H : Hp} {x : V} {S : String} (e : kindV H x = some S) : S ∈ ownKinds := by
  unfold kindV at e
  split at e
  . cases e; decide
  . cases e; decide
  . cases e; decide
  . cases e; decide
  . split at e <;> first | (cases e; done) | (cases e; decide)
  . cases e
theorem kit_own {K : PySem.W.Frag} : ∀ S ∈ ownKinds, ∀ T ∈ ["str", "int", "bool", "list", "tuple", "dict"], PySem.W.kitOne K (.type S) (.type T) = some (isKind S T) := by
  intro S hS T hT
  have hm : PySem.W.kitMeta T = true := by
    revert T
    decide +kernel
  have hl : ∃ l, fastBuiltinMro S = some l /\ ∀ T ∈ ["str", "int", "bool", "list", "tuple", "dict"], ((Value.type S == Value.type T) || l.contains (.type T)) = isKind S T := by
    revert S
    have : ∀ S ∈ ownKinds, (match fastBuiltinMro S with | some l => ["str", "int", "bool", "list", "tuple", "dict"].all λ T => ((Value.type S == Value.type T) || l.contains (.type T)) == isKind S T | none => false) = true := by decide +kernel
    intro S hS
    have e := this S hS
    split at e
    . rename_i l hl
      refine ⟨l, hl, λ T hT => ?_⟩
      exact eq_of_beq (List.all_eq_true.mp e T hT)
    . cases e
  obtain ⟨l, h1, h2⟩ := hl
  rw [kit_tt hm h1, h2 T hT]
theorem call_isi {X : Cx} : CallR X (.builtin "isinstance") rIsi := by
  intro pins s σ H xs us Q I r h
  obtain ⟨x, S, T, rfl, e, hT, q⟩ := h
  exact call_isinst pins s σ H _ us Q I r ⟨x, .type S, isKind S T, T, rfl, tyOf_kind e, kit_own S (kindV_own e) T hT, q⟩
theorem op_le_str {X : Cx} : OpR X (compareOp .LtE) (λ x y H Q => ∃ i j, x = .str i /\ y = .str j /\ Q (.bl (!decide (j.cps.toList < i.cps.toList))) H) := by
  intro pins s σ H x y v u Q I rx ry h
  obtain ⟨i, j, rfl, rfl, q⟩ := h
  obtain ⟨t, rfl⟩ := rx
  obtain ⟨t', rfl⟩ := ry
  exact PySem.P.le_str (fin_bl I q rfl)
theorem sl_str {X : Cx} : SlR X (λ x lo hi H Q => ∃ z, x = .str z /\ z.length <= sizeLine /\ Q (.str (Txt.slice z lo hi)) H) := by
  intro pins s σ H x v vl vu lo hi sl Q I rx hs pl pu h
  obtain ⟨z, rfl, hz, q⟩ := h
  obtain ⟨t, rfl⟩ := rx
  refine ⟨"str", _, F.slot_str_getitem.lookup, typeIs_str _ _ _, ?_⟩
  have go : ∀ (l u : Option (Int × Tok)), vl = partValue l -> vu = partValue u -> lo = l.map (·.1) -> hi = u.map (·.1) -> wpAny (model X.prog X.w) X.A (getItem (.str z t) (.ref sl)) (EP X pins σ Q) X.xe s := by
    intro l u e1 e2 e3 e4
    subst e1 e2 e3 e4
    refine wpAny_getItem_str_slice (l := l) (u := u) (st := none) hs rfl ?_
    exact post_val_or_str ⟨Nat.le_trans (Txt.slice_le z _ _) hz, λ t' k => ⟨.str _, H, I.tok k, ⟨t', rfl⟩, q⟩⟩
  cases pl with
  | none =>
    cases pu with
    | none => exact go none none rfl rfl rfl rfl
    | int i t' => exact go none (some (i, t')) rfl rfl rfl rfl
  | int j t2 =>
    cases pu with
    | none => exact go (some (j, t2)) none rfl rfl rfl rfl
    | int i t' => exact go (some (j, t2)) (some (i, t')) rfl rfl rfl rfl
noncomputable def repS (z : Str) (n : Nat) : Str := ⟨(List.replicate n z.cps.toList).flatten.toArray⟩
theorem repS_length (z : Str) (n : Nat) : (repS z n).length = n * z.length := by
  show ((List.replicate n z.cps.toList).flatten.toArray).size = n * z.cps.size
  rw [List.size_toArray, List.length_flatten, List.map_replicate, List.sum_replicate_nat, Array.length_toList]
theorem foldl_app (a : Array Nat) : ∀ (n : Nat) (acc : Array Nat), ((List.replicate n a).foldl (· ++ ·) acc).toList = acc.toList ++ (List.replicate n a.toList).flatten
  | 0, acc => by simp
  | n + 1, acc => by
    rw [List.replicate_succ, List.foldl_cons, foldl_app a n, Array.toList_append, List.replicate_succ, List.flatten_cons, List.append_assoc]
theorem op_mul_str {X : Cx} : OpR X (binaryOp .Mult) (λ x y H Q => ∃ z n, x = .str z /\ y = .int n /\ 0 < z.length /\ 0 <= n /\ n < 2 ^ 31 /\ n.toNat * z.length <= sizeLine /\ Q (.str (repS z n.toNat)) H) := by
  intro pins s σ H x y v u Q I rx ry h
  obtain ⟨z, n, rfl, rfl, h0, hn, h1, hz, q⟩ := h
  obtain ⟨t, rfl⟩ := rx
  obtain ⟨t', rfl⟩ := ry
  have hs : sizeLine = 16777216 := sizeLine_eq
  by_cases hn0 : n < 1
  . have e : n = 0 := by omega
    subst e
    refine PySem.P.mul_str_none (by decide) (by decide) ⟨.str (repS z 0), H, I.tok _, ⟨_, rfl⟩, q⟩
  . have hz' : z.length * n.toNat <= sizeLine := by rw [Nat.mul_comm]; exact hz
    have ez : ⟨(List.replicate n.toNat z.cps).foldl (· ++ ·) #[]⟩ = repS z n.toNat := by
      unfold repS
      congr 1
      apply Array.toList_inj.mp
      rw [foldl_app]
      simp
    refine PySem.P.mul_str (by simp; omega) (λ _ _ => ?_) (λ _ _ => ?_) ?_
    . have e1 : (z.length : Int) * n <= 16777216 := by
        have := hz'
        have e2 : ((z.length * n.toNat : Nat) : Int) = (z.length : Int) * n := by rw [Int.natCast_mul, Int.toNat_of_nonneg hn]
        omega
      intro h3
      have h4 : (2 ^ 63 - 1) / n < (z.length : Int) := h3
      have h5 : (2 ^ 63 - 1 : Int) < (z.length : Int) * n := Int.lt_mul_of_ediv_lt (by omega) h4
      omega
    . unfold Builtin.Str.tooLong
      exact decide_eq_false (by omega)
    . rw [if_neg hn0]
      by_cases h1' : (n == 1 || z.length == 0) = true
      . rw [if_pos h1']
        have en : n = 1 := by
          rcases Bool.or_eq_true _ _ ▸ h1' with z1 | z1
          . exact eq_of_beq z1
          . have := eq_of_beq z1; omega
        subst en
        have er : repS z (1 : Int).toNat = z := by
          unfold repS
          simp
        rw [er] at q
        exact ⟨.str z, H, I, ⟨_, rfl⟩, q⟩
      . rw [if_neg h1', ez]
        exact ⟨by show (repS z n.toNat).length <= sizeLine; rw [repS_length]; exact hz, .str _, H, I.tok _, ⟨_, rfl⟩, q⟩
theorem call_all_bl {X : Cx} (hc : X.calm = true) : CallR X (.builtin "all") (λ xs H Q => ∃ p bs, xs = [.ref p] /\ SqL X.K H p (List.map V.bl bs) /\ Q (.bl (bs.all id)) H) := by
  intro pins s σ H xs us Q I r h
  obtain ⟨p, bs, rfl, hp, q⟩ := h
  obtain ⟨u, rfl, ru⟩ := vals1 r
  cases ru
  obtain ⟨its, rv, pl, hz⟩ := I.list hp
  have hlt : p < s.heap.objs.size := by
    obtain ⟨o, n, e, _⟩ := pl
    exact Heap.lt_size e
  have hlen : its.length = bs.length := by rw [<- rv.length, List.length_map]
  refine call_all_walk (wpAny_pyIter_list pl.isList ?_)
  refine ⟨s.heap.objs.size, _, _, _, _, _, λ i => bs.getD i true, rfl, Walks.list (show X.A.in1.handled = none from I.ok.hd hc) s.heap.objs.size p (Nat.ne_of_lt hlt) its.toArray, ⟨⟨_, Heap.get?_push_size _ rfl, rfl, rfl⟩, pl.isList.at λ o e => Heap.get?_push_of_some _ e⟩, ?_, ?_⟩
  . intro i v s' Q' E' hv hq
    have hv' : its[i]? = some v := by simpa using hv
    have hb : bs[i]? = some (bs.getD i true) := by
      have hi : i < bs.length := by rw [<- hlen]; exact (List.getElem?_eq_some_iff.mp hv').1
      simp [List.getD, hi]
    obtain ⟨u, hu, ru⟩ := rv.get (i := i) (x := .bl (bs.getD i true)) (by rw [List.getElem?_map, hb]; rfl)
    rw [hv'] at hu
    cases hu
    cases ru
    exact wpAny_truthy_bool hq
  . intro h' tk hk
    have e : ((List.range its.toArray.size).all λ i => bs.getD i true) = bs.all id := by
      rw [List.size_toArray, hlen]
      rw [Bool.eq_iff_iff, List.all_eq_true, List.all_eq_true]
      constructor
      . intro h b hb
        obtain ⟨i, hi, e⟩ := List.mem_iff_getElem.mp hb
        have := h i (List.mem_range.mpr hi)
        simp [List.getD, hi, e] at this
        exact this
      . intro h i hi
        have hi' := List.mem_range.mp hi
        have := h bs[i] (List.getElem_mem hi')
        simp [List.getD, hi']
        exact this
    rw [e]
    exact ⟨.bl _, H, I.kept (h' := h') (t' := tk) λ b o eo => hk b o (by
      have : b < s.heap.objs.size := Heap.lt_size eo
      simp
      exact Nat.ne_of_lt this) (Heap.get?_push_of_some _ eo), rfl, q⟩
theorem call_all0 {X : Cx} (hc : X.calm = true) : CallR X (.builtin "all") (λ xs H Q => ∃ p bs, xs = [.ref p] /\ Rd H p (.lst (List.map V.bl bs)) /\ Q (.bl (bs.all id)) H) := by
  intro pins s σ H xs us Q I r h
  obtain ⟨p, bs, e, hp, q⟩ := h
  exact call_all_bl hc pins s σ H xs us Q I r ⟨p, bs, e, .inl hp, q⟩
theorem Turn.imp {P : Program} {w : World} {K : PySem.W.Frag} {tg : Expr} {J J' : It} {fp : List Addr} {it : Addr} {tn : Nat -> Heap -> Prop} (T : Turn P w K tg J fp it tn)
    (hg : ∀ i H, J'.go i H -> J.go i H) (hy : ∀ i H x H', J'.go i H -> J.yld i H x H' -> J'.yld i H x H') (hs : ∀ i H, J'.stop i H -> J.stop i H) : Turn P w K tg J' fp it tn :=
  ⟨T.mem, T.obj, T.keep, λ X e1 e2 e3 hc i pins s σ H E I hf st g => thn (T.item X e1 e2 e3 hc i pins s σ H E I hf st (hg i H g)) λ r s1 ⟨u, e, h⟩ => ⟨u, e, thn h λ _ s2 ⟨x, H', I', rx, y, st', fr⟩ => ⟨x, H', I', rx, hy i H x H' g y, st', fr⟩⟩,
    λ X e1 e2 e3 hc i pins s σ H E I hf st g => T.done X e1 e2 e3 hc i pins s σ H E I hf st (hs i H g), T.self⟩
noncomputable def Itl0 (a : Addr) : It := ⟨λ i H => ∃ xs x, Rd H a (.lst xs) /\ xs[i]? = some x, λ i H x H' => H' = H /\ ∀ xs, Rd H a (.lst xs) -> xs[i]? = some x, λ i H => ∃ xs, Rd H a (.lst xs) /\ xs.length <= i⟩
noncomputable def Itt0 (a : Addr) : It := ⟨λ i H => ∃ xs x, Rd H a (.tup xs) /\ xs[i]? = some x, λ i H x H' => H' = H /\ ∀ xs, Rd H a (.tup xs) -> xs[i]? = some x, λ i H => ∃ xs, Rd H a (.tup xs) /\ xs.length <= i⟩
noncomputable def Its (z : Str) : It := ⟨λ i _ => i < z.length, λ i H x H' => H' = H /\ ∃ c, z.cps[i]? = some c /\ x = .str ⟨#[c]⟩, λ i _ => z.length <= i⟩
theorem turn_str {P : Program} {w : World} {K : PySem.W.Frag} {tg : Expr} (it : Addr) (z : Str) (t : Tok) (ty : String) (hty : ty = "str_ascii_iterator" \/ ty = "str_iterator") : Turn P w K tg (Its z) [it] it (λ i h => h.IsStrIter it ty z t i) where
  mem := by simp
  obj := λ i h st b hb => by
    have e : b = it := by simpa using hb
    subst e
    obtain ⟨o, e, c, d⟩ := st
    exact ⟨o, e, λ v z => by rw [d] at z; cases z⟩
  keep := λ i h h' st k => by
    obtain ⟨o, e, r⟩ := st
    exact ⟨o, k it (by simp) o e, r⟩
  item := by
    intro X hP hw hK hc i pins s σ H E I hf st hg
    subst hP hw hK
    obtain ⟨f0, f1, f2, f3, f4, f5⟩ := hf it (by simp)
    have hg' : i < z.cps.size := hg
    have W : Walks X.prog X.w X.A it [it] [it] z.cps.size (SignAt z) (λ i h => h.IsStrIter it ty z t i) := by
      rcases hty with rfl | rfl
      . exact Walks.strAscii (I.ok.hd hc) it z t
      . exact Walks.strWide (I.ok.hd hc) it z t
    refine W.item i s _ _ hg' st λ v h' tk hv st' kk => ?_
    obtain ⟨c, u, hcu, rfl⟩ := hv
    have I1 : Inv X pins σ H { s with heap := h', toks := tk } := I.turned (λ b o hb e => kk b o (by simpa using hb) e) f0 f1 f3 f4 f5
    obtain ⟨o, e, cl, d⟩ := id st'
    have hn : ["enumerate", "zip", "dict_itemiterator", "dict_reverseitemiterator", "odict_iterator", "itertools.zip_longest", "itertools.pairwise"].contains ty = false := by
      rcases hty with rfl | rfl <;> decide
    exact ⟨_, rfl, go_of (s := { s with heap := h', toks := tk }) e cl d hn ⟨.str ⟨#[c]⟩, H, I1, ⟨u, rfl⟩, ⟨rfl, c, hcu, rfl⟩, st', λ b hb => (hf b hb).1⟩⟩
  done := by
    intro X hP hw hK hc i pins s σ H E I hf st hg
    subst hP hw hK
    obtain ⟨f0, f1, f2, f3, f4, f5⟩ := hf it (by simp)
    have hg' : z.cps.size <= i := hg
    rcases hty with rfl | rfl
    . exact wpAny_pyNext_ascii_end (I.ok.hd hc) st (by simp; omega) λ h' eb => ⟨rfl, I.turned (t' := s.toks) (λ b o hb e => eb b o hb e) f0 f1 f3 f4 f5⟩
    . exact wpAny_pyNext_wide_end (I.ok.hd hc) st (by simp; omega) λ h' eb => ⟨rfl, I.turned (t' := s.toks) (λ b o hb e => eb b o hb e) f0 f1 f3 f4 f5⟩
  self := λ A i s Q E st h => by
    rcases hty with rfl | rfl
    . exact wpAny_pyIter_striter_ascii st h
    . exact wpAny_pyIter_striter_wide st h
section
variable {X : Cx} {tg : Expr}
noncomputable def gTup0 (n : Nat) (t : TGs) : TG := λ v σ H Q => ∃ a xs, v = .ref a /\ Rd H a (.tup xs) /\ xs.length = n /\ t xs σ H Q
theorem pg_tup0 {es : List Expr} {k : Nat} {t : TGs} {n : Nat} {pos : Pos} (hc : X.calm = true) (h : PGs X es t) (hn : (assignEach es X.env).length = n := by rfl) (hst : (assignEach es X.env).findIdx? (·.1) = none := by rfl) : PG X (.Tuple es k pos) (gTup0 n t) :=
  λ pins s σ H v u Q I r ⟨a, xs, e, hq, hl, hw⟩ => pg_tup (X := X) hc h hn hst pins s σ H v u Q I r ⟨a, xs, e, .inl hq, hl, hw⟩
noncomputable def tFld0 (C : Addr) (ta : TE) (f : Str) : TE := λ σ H Q => ta σ H λ x H1 => ∃ a dx fs v, x = .ref a /\ H1 a = some (.ins C dx fs) /\ fs.lookup f = some v /\ Q v H1
theorem pe_fld0 {C : Addr} {e : Expr} {f : Str} {pos : Pos} {ta : TE} (c : Cls X.K C) (n : NoAttr X.K C f) (he : PE X e ta) (hb : attributeBase e f X.env (eval e X.env) = eval e X.env) : PE X (.Attribute e f pos) (tFld0 C ta f) := by
  intro pins s σ H Q I h
  refine attr_of hb (thn (he pins s σ H _ I h) λ u s1 ⟨x, H1, I1, rx, a, dx, fs, v, ex, ea, l, q⟩ => ?_)
  subst ex
  obtain rfl : u = Value.ref a := rx
  exact getattr_ok I1 ea c n l λ u' s2 I2 ru => ⟨v, H1, I2, ru, q⟩
end
theorem for_list0 {a : Addr} {xs : List V} {g : TG} {tb : TS} {D : Ends} {σ : St} {H : Hp} (Pv : Nat -> St -> Hp -> Prop) (h0 : Pv 0 σ H) (hl : ∀ i σ H, i <= xs.length -> Pv i σ H -> Rd H a (.lst xs))
    (hs : ∀ i x σ H, xs[i]? = some x -> Pv i σ H -> g x σ H λ σ2 H2 => tb { D with nx := Pv (i + 1), ct := Pv (i + 1), bk := D.nx } σ2 H2) (hd : ∀ σ H, Pv xs.length σ H -> D.nx σ H) :
    ∃ W : Nat -> Nat -> St -> Hp -> Prop, (∃ m, W 0 m σ H) /\ ∀ i m σ H, W i m σ H →
      ((Itl0 a).stop i H /\ D.nx σ H) \/ ((Itl0 a).go i H /\ ∃ N : St -> Hp -> Prop, (∀ σ' H', N σ' H' -> ∃ m', m' < m /\ W (i + 1) m' σ' H') /\ ∀ x H', (Itl0 a).yld i H x H' -> g x σ H' λ σ2 H2 => tb { D with nx := N, ct := N, bk := D.nx } σ2 H2) := by
  refine ⟨λ i m σ H => m = xs.length - i /\ i <= xs.length /\ Pv i σ H, ⟨xs.length, by simp, Nat.zero_le _, h0⟩, ?_⟩
  rintro i m σ H ⟨rfl, hi, p⟩
  have q := hl i σ H hi p
  by_cases hlt : i < xs.length
  . refine .inr ⟨⟨xs, xs[i], q, by simp [hlt]⟩, Pv (i + 1), λ σ' H' p' => ⟨xs.length - (i + 1), by omega, rfl, hlt, p'⟩, λ x H' y => ?_⟩
    obtain ⟨e, y⟩ := y
    subst e
    exact hs i x σ _ (y xs q) p
  . have e : i = xs.length := by omega
    subst e
    exact .inl ⟨⟨xs, q, Nat.le_refl _⟩, hd σ H p⟩
noncomputable def PIfs (X : Cx) (ifs : List Expr) (t : TT) : Prop :=
  ∀ (pins : List (Addr × Obj)) (s : Shared) (σ : St) (H : Hp) (Q : Bool -> Hp -> Prop), Inv X pins σ H s -> t σ H Q →
    wpAny (model X.prog X.w) X.A (forIn ifs true λ c r => if r = true then do let ok ← isTrue c X.env (eval c X.env); pure (ForInStep.yield ok) else pure (ForInStep.yield r)) (TP X pins σ Q) X.xe s
noncomputable def tYes : TT := λ _ H Q => Q true H
theorem pif_nil {X : Cx} : PIfs X [] tYes := λ pins s σ H Q I h => by
  rw [List.forIn_nil]
  exact wpAny_pure ⟨H, I, h⟩
theorem pif_one {X : Cx} {c : Expr} {t : TT} (hc : PT X c t) : PIfs X [c] t := λ pins s σ H Q I h => by
  rw [List.forIn_cons, if_pos rfl]
  refine wpAny_bind (wpAny_bind (thn (hc pins s σ H Q I h) λ b s1 q => ?_))
  refine wpAny_pure ?_
  dsimp only
  rw [List.forIn_nil]
  exact wpAny_pure q
inductive FreeOk (X : Cx) (scope : Scope) (cl : List (Str × Addr)) : List (Str × Nat) -> Prop where
  | nil : FreeOk X scope cl []
  | cons {x : Str} {j : Nat} {fr : List (Str × Nat)} (h1 : X.N[j]? = some x) (h2 : X.env.kindOf x = some .cell) (h3 : (relabel scope X.env).names.lookup x = some .cell) (h4 : cl.lookup x = X.env.cells.lookup x) (r : FreeOk X scope cl fr) : FreeOk X scope cl ((x, j) :: fr)
theorem FreeOk.get {X : Cx} {scope : Scope} {cl : List (Str × Addr)} : ∀ {fr : List (Str × Nat)}, FreeOk X scope cl fr -> ∀ {k : Nat} {q : Str × Nat}, fr[k]? = some q →
    X.N[q.2]? = some q.1 /\ X.env.kindOf q.1 = some .cell /\ (relabel scope X.env).names.lookup q.1 = some .cell /\ cl.lookup q.1 = X.env.cells.lookup q.1
  | _, .nil, _, _, h => by simp at h
  | _, .cons h1 h2 h3 h4 r, 0, q, h => by
    simp at h
    subst h
    exact ⟨h1, h2, h3, h4⟩
  | _, .cons _ _ _ _ r, k + 1, q, h => r.get (k := k) (by simpa using h)
structure CDyn where
  fp : List Addr
  pins : List (Addr × Obj)
  s : Shared
  H : Hp
  C : Addr
noncomputable def compCx (X : Cx) (tn : List Str) (fr : List (Str × Nat)) (scope : Scope) (cl : List (Str × Addr)) (d : CDyn) : Cx where
  prog := X.prog
  w := X.w
  K := X.K
  mg := X.mg
  base := X.base
  A := X.A
  N := tn ++ fr.map (·.1)
  s₀ := d.s
  H₀ := d.H
  env := compEnvC scope cl d.C X.env
  outer := X.stack
  stack := X.stack
  ex := d.fp
  fn := λ _ => false
  calm := X.calm
  pn := X.pn ++ d.pins
  xe := λ _ _ => False
noncomputable def inn (tn : List Str) (fr : List (Str × Nat)) (σ : St) : St := tn.map (λ _ => none) ++ fr.map λ q => (σ[q.2]?).join
noncomputable def KeepsG (n : Nat) (g : TG) : Prop := ∀ v σ H Q, g v σ H Q -> g v σ H λ σ' H' => Q σ' H' /\ σ'.drop n = σ.drop n
noncomputable def KeepsGs (n : Nat) (g : TGs) : Prop := ∀ v σ H Q, g v σ H Q -> g v σ H λ σ' H' => Q σ' H' /\ σ'.drop n = σ.drop n
theorem kg_name {n i : Nat} (h : i < n := by decide) : KeepsG n (gName i) := λ v σ H Q q => ⟨q, List.drop_set_of_lt h⟩
theorem kg_nil {n : Nat} : KeepsGs n gNil := λ v σ H Q ⟨e, q⟩ => ⟨e, q, rfl⟩
theorem kg_tup {n k : Nat} {t : TGs} (h : KeepsGs n t) : KeepsG n (gTup0 k t) := λ v σ H Q ⟨a, xs, e, hr, hl, q⟩ => ⟨a, xs, e, hr, hl, h _ _ _ _ q⟩
noncomputable def tComp (wi : TI) (tn : List Str) (fr : List (Str × Nat)) (g : TG) (tt : TT) (te : TE) : TE := λ σ H Q => wi σ H λ J H1 => ∀ p, H1 p = none →
  ∃ W : Nat -> Nat -> Hp -> Prop, (∃ m, W 0 m (upd H1 p (.lst []))) /\ ∀ i m G, W i m G →
    (J.stop i G /\ Q (.ref p) G) \/ (J.go i G /\ ∃ N : Hp -> Prop, (∀ G', N G' -> ∃ m', m' < m /\ W (i + 1) m' G') /\ ∀ x G', J.yld i G x G' →
      g x (inn tn fr σ) G' λ σ2 G2 => tt σ2 G2 λ b G3 => br b (te σ2 G3 λ y G4 => ∃ ys, G4 p = some (.lst ys) /\ ys.length < sizeLine /\ N (upd G4 p (.lst (ys ++ [y])))) (N G3))
section
variable {prog : Program} {w : World} {A : Around} {R : Result -> Shared -> Prop} {s : Shared}
theorem compLoop_go {elt target iter : Expr} {ifs : List Expr} {scope : Scope} {pos : Pos} {it acc : Value} {env : Env} (I : Nat -> Shared -> Prop)
    (turn : ∀ n s, I n s -> wpAny (model prog w) A (pyNext it) (λ r s₁ => match r with
      | none => R (.ok .next) s₁
      | some v => wpAny (model prog w) A (letOwnedTupleGo target it v) (λ _ s₀ => wpAny (model prog w) A (assign target env v) (λ _ s₂ =>
          wpAny (model prog w) A (forIn ifs true λ c r => if r = true then do let ok ← isTrue c env (eval c env); pure (ForInStep.yield ok) else pure (ForInStep.yield r)) (λ ok s₃ =>
            if ok = true then wpAny (model prog w) A (eval elt env) (λ x s₄ =>
              wpAny (model prog w) A (call (.builtin "list.append") [acc, x]) (λ _ s₅ => ∃ m, m < n /\ I m s₅) (λ _ _ => False) s₄) (λ _ _ => False) s₃
            else ∃ m, m < n /\ I m s₃) (λ _ _ => False) s₂) (λ _ _ => False) s₀) (λ _ _ => False) s₁) (λ _ _ => False) s)
    (n : Nat) (h : I n s) :
    codeAny (model prog w) A (.compLoop (.ListComp elt [⟨target, iter, ifs, 0⟩] scope pos) 0 it acc env) R s := by
  refine codeAny_loop rfl I (λ n s hI => ?_) n h
  show wpAny _ A ((compTurn (.ListComp elt [⟨target, iter, ifs, 0⟩] scope pos) 0 it acc env).onRaise (λ x => do noteFrame x env; theTreesLotGoes x)) _ _ s
  refine wpAny_noted ?_
  rw [compTurn_list]
  refine wpAny_bind (wpAny_standAt (wpAny_bind (wpAny_mono (turn n s hI) (λ r s₁ h₁ => ?_) λ _ _ z => z.elim)))
  cases r with
  | none => exact wpAny_pure h₁
  | some v =>
    refine wpAny_bind (wpAny_mono h₁ (λ _ s₀ h₀ => ?_) λ _ _ z => z.elim)
    refine wpAny_bind (wpAny_mono h₀ (λ _ s₂ h₂ => wpAny_bind (wpAny_mono h₂ (λ ok s₃ h₃ => ?_) λ _ _ z => z.elim)) λ _ _ z => z.elim)
    cases ok with
    | false => exact wpAny_pure ⟨rfl, h₃⟩
    | true =>
      exact wpAny_bind (wpAny_bind (wpAny_mono h₃ (λ x s₄ h₄ => wpAny_bind (wpAny_mono h₄ (λ _ s₅ h₅ => wpAny_pure (wpAny_pure ⟨rfl, h₅⟩)) λ _ _ z => z.elim)) λ _ _ z => z.elim))
end
section
variable {X : Cx} {elt tg iter : Expr} {ifs : List Expr} {scope : Scope} {pos : Pos} {tn : List Str} {fr : List (Str × Nat)} {cl : List (Str × Addr)} {wi : TI} {g : TG} {tt : TT} {te : TE}
structure CompOk (X : Cx) (scope : Scope) (tn : List Str) (fr : List (Str × Nat)) (cl : List (Str × Addr)) : Prop where
  clos : closureFor scope X.env = pure cl
  kind : scope.kind = .function
  nocell : ∀ y ∈ scope.names, y.2 ≠ .cell
  names : ∀ y ∈ scope.names, y.2 = .local -> scope.names.lookup y.1 = some .local
  free : FreeOk X scope cl fr
  has : ∀ x, ((relabel scope X.env).names.lookup x = some .cell \/ (relabel scope X.env).names.lookup x = some .free) -> ∃ c, cl.lookup x = some c
  sub : ∀ x c, cl.lookup x = some c -> X.env.cells.lookup x = some c
theorem comp_core {RR : Value -> Addr -> Result -> Shared -> Prop} {pins : List (Addr × Obj)} {s : Shared} {σ : St} {H : Hp} {Q : VK} (hc : X.calm = true) (ok : CompOk X scope tn fr cl) (kg : KeepsG tn.length g) (hi : PI X tg iter wi)
    (hg : ∀ d, PG (compCx X tn fr scope cl d) tg g) (ht : ∀ d, PIfs (compCx X tn fr scope cl d) ifs tt) (he : ∀ d, PE (compCx X tn fr scope cl d) elt te) (I : Inv X pins σ H s) (h : tComp wi tn fr g tt te σ H Q)
    (hRR : ∀ (p C : Addr) (G : Hp) (s' : Shared), Inv X pins σ G s' -> FpOk X pins G C -> (∃ m, s'.heap.Ns C m) -> Q (.ref p) G -> RR (.ref p) C (.ok .next) s') :
    wpAny (model X.prog X.w) X.A (eval iter X.env) (λ x s₁ => wpAny (model X.prog X.w) X.A (pyIter x) (λ it s₂ => wpAny (model X.prog X.w) X.A (newList []) (λ acc s₃ =>
      wpAny (model X.prog X.w) X.A (newFunctionEnv scope X.env.globals cl [] X.env.qual none .none (some X.env)) (λ cenv s₄ =>
        codeAny (model X.prog X.w) X.A (.compStart (.ListComp elt [⟨tg, iter, ifs, 0⟩] scope pos) 0 it acc { cenv with scope := relabel scope X.env }) (RR acc cenv.locals) s₄) X.xe s₃) X.xe s₂) X.xe s₁) X.xe s := by
  refine thn (hi pins s σ H _ I h) λ v s1 h1 => thn h1 λ itv s2 h2 => ?_
  obtain ⟨it, fp, tk, J, H2, e, I2, T, st2, f2, hq⟩ := h2
  subst e
  refine wpAny_newObj_type (wpAny_newFunctionEnv ok.nocell (by intro y hy; simp at hy) (λ h₁ hns₁ hsb₁ => ?_) ok.kind)
  dsimp only at hns₁ hsb₁ ⊢
  generalize hH2 : s2.heap.push { cls := .type "list", dict := none, data := .seq ([] : List Value).toArray } = HH at hns₁ hsb₁ ⊢
  have hC : HH.objs.size = s2.heap.objs.size + 1 := by rw [<- hH2, Heap.size_push]
  have hDC : s2.heap.objs.size ≠ HH.objs.size := by rw [hC]; exact Nat.ne_of_lt (Nat.lt_succ_self _)
  have hCle : s2.heap.objs.size <= HH.objs.size := by rw [hC]; exact Nat.le_succ _
  have below : ∀ b, b < s2.heap.objs.size -> b ≠ HH.objs.size := λ b hb => by rw [hC]; exact Nat.ne_of_lt (Nat.lt_succ_of_lt hb)
  have old : ∀ b o, s2.heap.get? b = some o -> h₁.get? b = some o := λ b o e => hsb₁.extBut b o (below b (Heap.lt_size e)) (Heap.get?_push_of_some _ (hH2 ▸ Heap.get?_push_of_some _ e))
  have hacc : h₁.get? s2.heap.objs.size = some { cls := .type "list", data := .seq ([] : List Value).toArray } := hsb₁.extBut _ _ hDC (Heap.get?_push_of_some _ (hH2 ▸ Heap.get?_push_size _ rfl))
  generalize hp : s2.heap.objs.size = p at hDC hCle hacc
  generalize hCC : HH.objs.size = C at hDC hCle below hns₁
  have hnp : H2 p = none := I2.hok.fresh (by rw [<- hp]; exact Nat.le_refl _)
  have hnC : H2 C = none := I2.hok.fresh (by rw [hp]; exact hCle)
  obtain ⟨W, ⟨m0, w0⟩, turn⟩ := hq p hnp
  have lt2 : ∀ b o, s2.heap.get? b = some o -> b ≠ C := λ b o e => below b (Heap.lt_size e)
  have ok' : (compCx X tn fr scope cl ⟨fp, pins, s2, H2, C⟩).Ok := by
    refine ⟨I2.ok.mod, ok.kind, I2.ok.glob, I2.ok.blt, (by show s2.heap.objs.size <= C; rw [hp]; exact hCle), λ x y c h1 h2 => I2.ok.inj x y c (ok.sub x c h1) (ok.sub y c h2), ok.has, λ x c z => absurd z (by simp [compCx]), I2.ok.hd, I2.ok.frames, .inl rfl, λ b hb => ⟨?_, λ x c h => (f2 b hb).2.2.2.2.1 x c (ok.sub x c h)⟩, I2.bs,
      Nat.le_trans I2.ok.bsz I2.sz, λ b o e hb => ?_, λ b hb hf => ?_, I2.stack, I2.stkFree⟩
    . obtain ⟨o, e, _⟩ := T.obj 0 _ st2 b hb
      exact lt2 b o e
    . rcases (f2 b hb).2.2.2.1 with z | z
      . exact I2.ok.noex b o e z
      . have := Nat.lt_of_lt_of_le (Heap.lt_size e) (Nat.le_trans I2.ok.bsz z)
        exact absurd this (Nat.lt_irrefl _)
    . rcases List.mem_cons.mp (I2.stkSub b hf) with z | z
      . exact (f2 b hb).2.1 z
      . exact (f2 b hb).2.2.1 z
  have new : ObjOk X.prog X.w (upd H2 p (.lst [])) h₁ p (.lst []) := ⟨Nat.zero_le _, [], 0, .nil, hacc⟩
  have J0 : ∀ tk', Inv (compCx X tn fr scope cl ⟨fp, pins, s2, H2, C⟩) [] (inn tn fr σ) (upd H2 p (.lst [])) { s2 with heap := h₁, toks := tk' } := λ tk' => by
    refine ⟨ok', rfl, I2.bare, Un.laid old (by rw [<- hp]; exact Nat.le_refl _) hnp, ⟨_, hns₁, λ i x v h1 h2 h3 => ?_⟩, λ x c h => ?_, ?_, λ x c h => ?_, λ q hq => ?_, I2.hok.laid old (by rw [<- hp]; exact Nat.le_refl _) new, ?_⟩
    . -- a name from around
      have h2' : (tn.map (λ _ => (none : Option V)) ++ fr.map λ q => (σ[q.2]?).join)[i]? = some (some v) := h2
      have h1' : (tn ++ fr.map (·.1))[i]? = some x := h1
      by_cases hi : i < tn.length
      . rw [List.getElem?_append_left (by simpa using hi), List.getElem?_map] at h2'
        cases e : tn[i]? with
        | none => rw [e] at h2'; cases h2'
        | some a => rw [e] at h2'; cases h2'
      . rw [List.getElem?_append_right (by simpa using hi), List.length_map, List.getElem?_map] at h2'
        rw [List.getElem?_append_right (by omega), List.getElem?_map] at h1'
        cases e : fr[i - tn.length]? with
        | none => rw [e] at h2'; cases h2'
        | some q =>
          rw [e] at h1' h2'
          have e1 : q.1 = x := Option.some.inj h1'
          have e2 : (σ[q.2]?).join = some v := Option.some.inj h2'
          have e3 : σ[q.2]? = some (some v) := by
            cases z : σ[q.2]? with
            | none => rw [z] at e2; cases e2
            | some o => rw [z] at e2; exact congrArg some e2
          obtain ⟨g1, g2, g3, g4⟩ := ok.free.get e
          obtain ⟨m, hn, hl⟩ := I2.loc
          obtain ⟨u, ru, lk⟩ := hl q.2 q.1 v g1 e3 (.inr (.inl g2))
          refine ⟨u, ru, .inr ⟨.inl (by rw [<- e1]; exact g3), ?_⟩⟩
          rcases lk with ⟨z, _⟩ | ⟨_, c, hcl, hcell⟩
          . rw [g2] at z; cases z
          . obtain ⟨o, ho, hd⟩ := hcell
            exact ⟨c, by rw [<- e1]; exact g4.trans hcl, o, old c o ho, hd⟩
    . obtain ⟨v, o, ho, hd⟩ := I2.cell x c (ok.sub x c h)
      exact ⟨v, o, old c o ho, hd⟩
    . show upd H2 p (.lst []) C = none
      rw [upd_ne (Ne.symm hDC)]
      exact hnC
    . obtain ⟨v, o, ho, hd⟩ := I2.cell x c (ok.sub x c h)
      show upd H2 p (.lst []) c = none
      rw [upd_ne (Nat.ne_of_lt (by rw [<- hp]; exact Heap.lt_size ho))]
      exact I2.freeC x c (ok.sub x c h)
    . have hq' : q ∈ X.pn ++ pins := by simpa [compCx] using hq
      obtain ⟨e, n, ne, nf, d⟩ := I2.pin q hq'
      refine ⟨old _ _ e, ?_, lt2 _ _ e, λ hf => ?_, d⟩
      . show upd H2 p (.lst []) q.1 = none
        rw [upd_ne (Nat.ne_of_lt (by rw [<- hp]; exact Heap.lt_size e))]
        exact n
      . rcases List.mem_cons.mp (I2.stkSub _ hf) with z | z
        . exact ne z
        . exact nf z
    . show (inn tn fr σ).length = (tn ++ fr.map (·.1)).length
      unfold inn
      simp
  have stat : ∀ {G : Hp}, (∀ b ∈ fp, G b = none) -> ∀ b ∈ fp, FpOk (compCx X tn fr scope cl ⟨fp, pins, s2, H2, C⟩) [] G b := λ {G} hn b hb => by
    obtain ⟨f0, f1, f3, f4, f5, f6⟩ := f2 b hb
    obtain ⟨o, e, _⟩ := T.obj 0 _ st2 b hb
    refine ⟨hn b hb, lt2 b o e, λ hf => ?_, .inl hb, λ x c h => f5 x c (ok.sub x c h), λ q hq => f6 q (by simpa [compCx] using hq)⟩
    rcases List.mem_cons.mp (I2.stkSub _ hf) with z | z
    . exact f1 z
    . exact f3 z
  have wk : ∀ {σ9 : St}, σ9.drop tn.length = (inn tn fr σ).drop tn.length -> ∀ (i : Nat) (v : V), (inn tn fr σ)[i]? = some (some v) -> σ9[i]? = some (some v) := λ {σ9} hd i v h => by
    by_cases hi : i < tn.length
    . have h' : (tn.map (λ _ => (none : Option V)) ++ fr.map λ q => (σ[q.2]?).join)[i]? = some (some v) := h
      rw [List.getElem?_append_left (by simpa using hi), List.getElem?_map] at h'
      cases e : tn[i]? with
      | none => rw [e] at h'; cases h'
      | some a => rw [e] at h'; cases h'
    . have e1 : ((inn tn fr σ).drop tn.length)[i - tn.length]? = some (some v) := by
        rw [List.getElem?_drop]
        rw [show tn.length + (i - tn.length) = i by omega]
        exact h
      rw [<- hd, List.getElem?_drop, show tn.length + (i - tn.length) = i by omega] at e1
      exact e1
  have loop : ∀ tk', codeAny (model X.prog X.w) X.A (.compLoop (.ListComp elt [⟨tg, iter, ifs, 0⟩] scope pos) 0 (.ref it) (.ref p) (compEnvC scope cl C X.env)) (RR (.ref p) C) { s2 with heap := h₁, toks := tk' } := λ tk' => by
    refine compLoop_go (λ n s' => ∃ i G, Inv (compCx X tn fr scope cl ⟨fp, pins, s2, H2, C⟩) [] (inn tn fr σ) G s' /\ tk i s'.heap /\ (∀ b ∈ fp, G b = none) /\ W i n G) ?_ m0
      ⟨0, _, J0 tk', T.keep 0 _ _ st2 λ b _ o e => old b o e, λ b hb => ?_, w0⟩
    . rintro n s3 ⟨i, G, I3, st3, fr3, w3⟩
      rcases turn i n G w3 with ⟨stop, qn⟩ | ⟨go, N, hN, step⟩
      . refine thn (T.done (compCx X tn fr scope cl ⟨fp, pins, s2, H2, C⟩) rfl rfl rfl hc i [] s3 _ G _ I3 (stat fr3) st3 stop) λ r s4 ⟨hr, I4⟩ => ?_
        subst hr
        obtain ⟨m, hm, _⟩ := I4.loc
        refine hRR p C G s4 ?_ ?_ ⟨m, hm⟩ qn
        . exact I2.call' (ch := fp) I4.os I4.base I4.hok I4.bare λ b hb => ⟨(f2 b hb).2.2.2.1, (f2 b hb).2.1, (f2 b hb).2.2.2.2.1, (f2 b hb).2.2.2.2.2⟩
        . exact I2.fpOk (by rw [hp]; exact hCle) I4.free
      . refine thn (T.item (compCx X tn fr scope cl ⟨fp, pins, s2, H2, C⟩) rfl rfl rfl hc i [] s3 _ G _ I3 (stat fr3) st3 go) λ r s4 ⟨u, hr, h4⟩ => ?_
        subst hr
        refine thn h4 λ _ s5 ⟨x, H5, I5, r5, y5, st5, fr5⟩ => ?_
        have I5' := I5.pinned (stat fr5) (T.obj _ _ st5)
        refine thn (hg _ _ s5 _ H5 x u _ I5' r5 (kg _ _ _ _ (step x H5 y5))) λ _ s6 ⟨σ6, H6, I6, q6, k6⟩ => ?_
        have again : ∀ {H9 : Hp} {s9 : Shared}, Inv (compCx X tn fr scope cl ⟨fp, pins, s2, H2, C⟩) ([] ++ pinsAt fp s5.heap) σ6 H9 s9 -> N H9 -> ∃ m, m < n /\ ∃ i G, Inv (compCx X tn fr scope cl ⟨fp, pins, s2, H2, C⟩) [] (inn tn fr σ) G s9 /\ tk i s9.heap /\ (∀ b ∈ fp, G b = none) /\ W i m G := λ {H9 s9} I9 n9 => by
          obtain ⟨m', hm, w9⟩ := hN H9 n9
          refine ⟨m', hm, i + 1, H9, ?_, T.keep _ _ _ st5 λ b hb o e => (I9.pin (b, o) (List.mem_append_right _ (List.mem_append_right _ (mem_pinsAt hb e)))).1, λ b hb => ?_, w9⟩
          . refine (I9.unpinned).weak ?_ (wk k6)
            rw [I9.len, I3.len]
          . obtain ⟨o, e, d⟩ := T.obj _ _ st5 b hb
            exact (I9.pin (b, o) (List.mem_append_right _ (List.mem_append_right _ (mem_pinsAt hb e)))).2.1
        refine thn (ht _ _ s6 σ6 H6 _ I6 q6) λ b s7 ⟨H7, I7, q7⟩ => ?_
        cases b with
        | false =>
          rw [if_neg Bool.false_ne_true]
          rw [br_false] at q7
          exact again I7 q7
        | true =>
          rw [if_pos rfl]
          rw [br_true] at q7
          refine thn (he _ _ s7 σ6 H7 _ I7 q7) λ y s8 ⟨yv, H8, I8, r8, ys, hp8, hl8, n8⟩ => ?_
          refine thn (mt_append _ s8 σ6 H8 (.ref p) [yv] (.ref p) [y] (λ _ H9 => N H9) I8 rfl (.cons r8 .nil) ⟨p, ys, yv, rfl, rfl, hp8, hl8, n8⟩) λ _ s9 ⟨v9, H9, I9, r9, q9⟩ => ?_
          exact again I9 q9
    . obtain ⟨o, e, _⟩ := T.obj 0 _ st2 b hb
      rw [upd_ne (Nat.ne_of_lt (by rw [<- hp]; exact Heap.lt_size e))]
      exact (f2 b hb).1
  subst hp
  subst hCC
  exact codeAny_compStart_list (loop _) (T.self _ _ _ _ _ (T.keep 0 _ _ st2 λ b _ o e => old b o e) (loop _))
theorem pe_comp (hc : X.calm = true) (ok : CompOk X scope tn fr cl) (kg : KeepsG tn.length g) (hi : PI X tg iter wi)
    (hg : ∀ d, PG (compCx X tn fr scope cl d) tg g) (ht : ∀ d, PIfs (compCx X tn fr scope cl d) ifs tt) (he : ∀ d, PE (compCx X tn fr scope cl d) elt te)
    (hs : ∀ x, foldedSetIterable iter X.env x = pure x := by intro _; rfl) : PE X (.ListComp elt [⟨tg, iter, ifs, 0⟩] scope pos) (tComp wi tn fr g tt te) := by
  intro pins s σ H Q I h
  rw [eval_ListComp]
  refine wpAny_comprehension_free (use := none) rfl hs ok.clos ok.kind ok.names (comp_core (RR := λ acc C => compPost (model X.prog X.w) X.A X.xe none (EP X pins σ Q) acc C) hc ok kg hi hg ht he I h ?_)
  intro p C G s' I' f m q
  obtain ⟨m, hm⟩ := m
  refine ⟨m, hm, λ h' hs' => ⟨.ref p, G, ?_, rfl, q⟩⟩
  exact I'.turned (it := C) (h' := h') (t' := s'.toks) (λ b o hb e => hs'.extBut b o hb e) f.1 f.2.1 f.2.2.2.1 f.2.2.2.2.1 f.2.2.2.2.2
end
end L2
namespace L2
open PySem PySem.Spec PyProof.Rows
theorem comp_str {z : Str} {g : TG} {tt : TT} {te : TE} {τ : St} {p : Addr} {H1 : Hp} {Q : VK} (f : Nat -> Option V) (hz : z.length < sizeLine)
    (turn : ∀ (i c : Nat), z.cps[i]? = some c -> ∀ (G : Hp) (k : Option V -> Hp -> Prop), k (f c) G -> g (.str ⟨#[c]⟩) τ G λ σ2 G2 => tt σ2 G2 λ b G3 => br b (te σ2 G3 λ y G4 => k (some y) G4) (k none G3))
    (fin : Q (.ref p) (upd H1 p (.lst (z.cps.toList.filterMap f)))) :
    ∃ W : Nat -> Nat -> Hp -> Prop, (∃ m, W 0 m (upd H1 p (.lst []))) /\ ∀ i m G, W i m G →
    ((Its z).stop i G /\ Q (.ref p) G) \/ ((Its z).go i G /\ ∃ N : Hp -> Prop, (∀ G', N G' -> ∃ m', m' < m /\ W (i + 1) m' G') /\ ∀ x G', (Its z).yld i G x G' →
      g x τ G' λ σ2 G2 => tt σ2 G2 λ b G3 => br b (te σ2 G3 λ y G4 => ∃ ys, G4 p = some (.lst ys) /\ ys.length < sizeLine /\ N (upd G4 p (.lst (ys ++ [y])))) (N G3)) := by
  have hzl : z.cps.toList.length = z.length := by simp [Str.length]
  refine ⟨λ i m G => m = z.length - i /\ i <= z.length /\ G = upd H1 p (.lst ((z.cps.toList.take i).filterMap f)), ⟨z.length, by simp, Nat.zero_le _, by simp⟩, ?_⟩
  rintro i m G ⟨rfl, hi, rfl⟩
  by_cases hlt : i < z.length
  . refine .inr ⟨hlt, λ G' => G' = upd H1 p (.lst ((z.cps.toList.take (i + 1)).filterMap f)), λ G' e => ⟨z.length - (i + 1), by omega, rfl, hlt, e⟩, λ x G' y => ?_⟩
    obtain ⟨e, c, hc, ex⟩ := y
    subst e ex
    have hc' : z.cps.toList[i]? = some c := by simpa using hc
    have et : (z.cps.toList.take (i + 1)).filterMap f = (z.cps.toList.take i).filterMap f ++ (f c).toList := by
      rw [List.take_add_one, hc', List.filterMap_append]
      cases e : f c <;> simp [e]
    have hlen : ((z.cps.toList.take i).filterMap f).length < sizeLine := Nat.lt_of_le_of_lt (Nat.le_trans (List.length_filterMap_le _ _) (by rw [List.length_take]; exact Nat.min_le_right _ _)) (by rw [hzl]; exact hz)
    refine turn i c hc _ (λ o G' => match o with | some y => ∃ ys, G' p = some (.lst ys) /\ ys.length < sizeLine /\ upd G' p (.lst (ys ++ [y])) = upd H1 p (.lst ((z.cps.toList.take (i + 1)).filterMap f)) | none => G' = upd H1 p (.lst ((z.cps.toList.take (i + 1)).filterMap f))) ?_
    rw [et]
    cases f c with
    | some y => exact ⟨_, upd_same, hlen, by rw [upd_upd]; simp⟩
    | none => simp
  . have e : i = z.length := by omega
    subst e
    refine .inl ⟨Nat.le_refl _, ?_⟩
    rw [<- hzl, List.take_length]
    exact fin
theorem app_list (a b : Str) : (a ++ b).cps.toList = a.cps.toList ++ b.cps.toList := by
  show (a.cps ++ b.cps).toList = _
  simp
theorem app_len (a b : Str) : (a ++ b).length = a.length + b.length := by
  show (a.cps ++ b.cps).size = _
  simp [Str.length]
end L2
namespace L2
open PySem PySem.Spec PyProof.Rows
section
variable {X : Cx} {CX : CXT} {k : Nat} {f : Addr} {fd : FuncData} {st : Stmt} {ps : List Str} {sp : Sp} {x : Str} {p pos : Pos} {e : Expr} {es : List Expr} {t : TA}
end
end L2
namespace L2
open PySem PySem.Spec PyProof.Rows
end L2
namespace Tv
open PySem PySem.Spec PyProof.Rows L2
noncomputable abbrev St := L2.St
section
variable {X : Cx}
theorem PE.imp {e : Expr} {t u : TE} (h : PE X e t) (i : ∀ σ H Q, u σ H Q -> t σ H Q) : PE X e u := λ pins s σ H Q I q => h pins s σ H Q I (i σ H Q q)
theorem PT.imp {e : Expr} {t u : TT} (h : PT X e t) (i : ∀ σ H Q, u σ H Q -> t σ H Q) : PT X e u := λ pins s σ H Q I q => h pins s σ H Q I (i σ H Q q)
theorem OpR.imp {f : Value -> Value -> Sem Value} {r r' : R2} (h : OpR X f r) (i : ∀ x y H Q, r' x y H Q -> r x y H Q) : OpR X f r' := λ pins s σ H x y v u Q I rx ry q => h pins s σ H x y v u Q I rx ry (i x y H Q q)
theorem CallR.imp {f : Value} {r r' : List V -> Hp -> VK -> Prop} (h : CallR X f r) (i : ∀ xs H Q, r' xs H Q -> r xs H Q) : CallR X f r' := λ pins s σ H xs us Q I rx q => h pins s σ H xs us Q I rx (i xs H Q q)
theorem IxR.imp {r r' : R2} (h : IxR X r) (i : ∀ x y H Q, r' x y H Q -> r x y H Q) : IxR X r' := λ value slice pins s σ H x y v u Q I rx ry q => h value slice pins s σ H x y v u Q I rx ry (i x y H Q q)
noncomputable def xE : TE := λ _ _ _ => False
noncomputable def xT : TT := λ _ _ _ => False
noncomputable def xS : TS := λ _ _ _ => False
noncomputable def xA : TA := λ _ _ _ => False
noncomputable def xG : TG := λ _ _ _ _ => False
noncomputable def xR : R2 := λ _ _ _ _ => False
theorem pe_x {e : Expr} : PE X e xE := λ _ _ _ _ _ _ h => h.elim
theorem pt_x {e : Expr} : PT X e xT := λ _ _ _ _ _ _ h => h.elim
theorem ps_x {e : Stmt} : PS X e xS := λ _ _ _ _ _ _ h => h.elim
theorem pa_x {e : List Expr} : PA X e xA := λ _ _ _ _ _ _ _ h => h.elim
theorem pg_x {e : Expr} : PG X e xG := λ _ _ _ _ _ _ _ _ _ h => h.elim
theorem op_x {f : Value -> Value -> Sem Value} : OpR X f xR := λ _ _ _ _ _ _ _ _ _ _ _ _ h => h.elim
noncomputable def gv (i : Nat) : TE := λ σ H Q => match σ[i]? with | some (some v) => Q v H | _ => False
theorem pe_gv {i : Nat} {x : Str} {pos : Pos} (hN : X.N[i]? = some x) (hv : Vis X.env.scope x) (hd : (x == ("__debug__" : Str)) = false) (hcd : (x == ("__classdict__" : Str)) = false) : PE X (.Name x pos) (gv i) :=
  PE.imp (pe_var hN hv hd hcd) λ σ H Q h => by
    unfold gv at h
    split at h
    . exact ⟨_, by assumption, h⟩
    . exact h.elim
noncomputable def slotOf : List Str -> Str -> Option Nat
  | [], _ => none
  | y :: r, x => if y = x then some 0 else (slotOf r x).map (· + 1)
theorem slotOf_get : ∀ {N : List Str} {x : Str} {i : Nat}, slotOf N x = some i -> N[i]? = some x
  | [], _, _, h => by simp [slotOf] at h
  | y :: r, x, i, h => by
    unfold slotOf at h
    split at h
    . rename_i e
      cases h
      simp [e]
    . cases e : slotOf r x with
      | none => rw [e] at h; cases h
      | some j =>
        rw [e] at h
        cases h
        simpa using slotOf_get e
@[irreducible] noncomputable def newO (H : Hp) (o : HO) (Q : VK) : Prop := ∀ p, H p = none -> Q (.ref p) (upd H p o)
theorem newO_eq {H : Hp} {o : HO} {Q : VK} : newO H o Q = ∀ p, H p = none -> Q (.ref p) (upd H p o) := by unfold newO; rfl
theorem newO.at {H : Hp} {o : HO} {Q : VK} (h : newO H o Q) : ∀ p, H p = none -> Q (.ref p) (upd H p o) := by
  rw [newO_eq] at h
  exact h
theorem new_i {H : Hp} {o : HO} {Q : VK} (h : ∀ p G, H p = none -> Same H G -> G p = some o -> Q (.ref p) G) : newO H o Q := by
  rw [newO_eq]
  exact λ p hp => h p _ hp (same_upd hp) upd_same
theorem new_u {H : Hp} {o : HO} {Q : VK} (h : ∀ p, H p = none -> Q (.ref p) (upd H p o)) : newO H o Q := by
  rw [newO_eq]
  exact h
@[irreducible] noncomputable def addH (l b : Addr) (H : Hp) (Q : VK) : Prop := match H l, H b with
  | some (.lst xs), some (.lst ys) => xs.length + ys.length <= sizeLine /\ newO H (.lst (xs ++ ys)) Q
  | _, _ => False
noncomputable def addG : R2 := λ x y H Q => match x, y with
  | .int i, .int j => Q (.int (i + j)) H
  | .str a, .str b => a.length + b.length <= sizeLine /\ Q (.str (a ++ b)) H
  | .ref l, .ref b => addH l b H Q
  | _, _ => False
theorem op_addG : OpR X (binaryOp .Add) addG := OpR.imp (OpR.or op_add (OpR.or op_add_str op_cat)) λ x y H Q h => by
  unfold addG at h
  split at h
  . exact .inl ⟨_, _, rfl, rfl, h⟩
  . exact .inr (.inl ⟨_, _, rfl, rfl, h⟩)
  . unfold addH at h
    split at h
    . exact .inr (.inr ⟨_, _, _, _, rfl, rfl, by assumption, by assumption, h.1, h.2.at⟩)
    . exact h.elim
  . exact h.elim
noncomputable def subG : R2 := λ x y H Q => match x, y with
  | .int i, .int j => Q (.int (i - j)) H
  | _, _ => False
theorem op_subG : OpR X (binaryOp .Sub) subG := OpR.imp op_sub λ x y H Q h => by
  unfold subG at h
  split at h
  . exact ⟨_, _, rfl, rfl, h⟩
  . exact h.elim
noncomputable def CMulW (i j : Int) : Prop := CMul i j \/ IntMulOk i j
theorem op_mulW : OpR X (binaryOp .Mult) (rI CMulW λ i j => .int (i * j)) := opI λ _ _ _ _ _ _ _ hc q => mul_int q (hc.elim CMul.ok id)
noncomputable def mulG : R2 := λ x y H Q => match x, y with
  | .int i, .int j => CMulW i j /\ Q (.int (i * j)) H
  | .str z, .int n => (0 < z.length /\ 0 <= n /\ n < 2 ^ 31 /\ n.toNat * z.length <= sizeLine) /\ Q (.str (repS z n.toNat)) H
  | .ref l, .int k => match H l with
    | some (.lst xs) => (-(2 ^ 63) <= k /\ k < 2 ^ 63 /\ xs.length * k.toNat <= sizeLine) /\ newO H (.lst (List.replicate k.toNat xs).flatten) Q
    | _ => False
  | _, _ => False
theorem op_mulG : OpR X (binaryOp .Mult) mulG := OpR.imp (OpR.or op_mulW (OpR.or op_mul_str op_rep)) λ x y H Q h => by
  unfold mulG at h
  split at h
  . exact .inl ⟨_, _, rfl, rfl, h⟩
  . obtain ⟨⟨h1, h2, h3, h4⟩, q⟩ := h
    exact .inr (.inl ⟨_, _, rfl, rfl, h1, h2, h3, h4, q⟩)
  . split at h
    . obtain ⟨⟨h1, h2, h3⟩, q⟩ := h
      exact .inr (.inr ⟨_, _, _, rfl, rfl, by assumption, h1, h2, h3, q.at⟩)
    . exact h.elim
  . exact h.elim
noncomputable def fdivG : R2 := λ x y H Q => match x, y with
  | .int i, .int j => (0 < j /\ j < 2 ^ 200) /\ Q (.int (i / j)) H
  | _, _ => False
theorem log_small {j : Int} (h0 : 0 < j) (h : j < 2 ^ 200) : j.natAbs.log2 < 9000 := by
  have h1 : j.natAbs ≠ 0 := by omega
  have h2 : j.natAbs < 2 ^ 200 := by
    have e : ((j.natAbs : Nat) : Int) = j := by omega
    have h3 : ((j.natAbs : Nat) : Int) < ((2 ^ 200 : Nat) : Int) := by rw [e]; exact h
    exact Int.ofNat_lt.mp h3
  have h3 := (Nat.log2_lt h1).mpr h2
  omega
theorem op_fdivG : OpR X (binaryOp .FloorDiv) fdivG := by
  intro pins s σ H x y v u Q I rx ry h
  unfold fdivG at h
  split at h
  . obtain ⟨⟨hj, hj2⟩, q⟩ := h
    obtain ⟨t, rfl⟩ := rx
    obtain ⟨t', rfl⟩ := ry
    rename_i i j
    exact floordiv_int (by omega) (by rw [Int.fdiv_eq_ediv_of_nonneg i (by omega)]; exact ⟨.int (i / j), H, I.tok _, ⟨_, rfl⟩, q⟩) (.inl (PyProof.noPylong_of_log2 (log_small hj hj2)))
  . exact h.elim
noncomputable def modG : R2 := λ x y H Q => match x, y with
  | .int i, .int j => 0 < j /\ Q (.int (i % j)) H
  | _, _ => False
theorem op_modG : OpR X (binaryOp .Mod) modG := OpR.imp op_mod λ x y H Q h => by
  unfold modG at h
  split at h
  . exact ⟨_, _, rfl, rfl, h⟩
  . exact h.elim
noncomputable def powG : R2 := λ x y H Q => match x, y with
  | .int i, .int j => CPow i j /\ Q (.int (i ^ j.toNat)) H
  | _, _ => False
theorem op_powG : OpR X (binaryOp .Pow) powG := OpR.imp op_pow λ x y H Q h => by
  unfold powG at h
  split at h
  . exact ⟨_, _, rfl, rfl, h⟩
  . exact h.elim
noncomputable def binG : Operator -> R2
  | .Add => addG | .Sub => subG | .Mult => mulG | .FloorDiv => fdivG | .Mod => modG | .Pow => powG | _ => xR
theorem op_binG : ∀ op, OpR X (binaryOp op) (binG op)
  | .Add => op_addG | .Sub => op_subG | .Mult => op_mulG | .FloorDiv => op_fdivG | .Mod => op_modG | .Pow => op_powG
  | .MatMult => op_x | .Div => op_x | .LShift => op_x | .RShift => op_x | .BitOr => op_x | .BitXor => op_x | .BitAnd => op_x
end
noncomputable def rdD : Nat -> Hp -> V -> Option PyData
  | _, _, .non => some .none
  | _, _, .bl b => some (.bool b)
  | _, _, .int i => some (.int i)
  | _, _, .str x => some (.str x)
  | n + 1, H, .ref a => match H a with
    | some (.lst xs) => (xs.mapM (rdD n H)).map .list
    | some (.tup xs) => (xs.mapM (rdD n H)).map .tuple
    | _ => none
  | _, _, _ => none
theorem mapM_cons {α β : Type} {f : α -> Option β} {x : α} {xs : List α} : (x :: xs).mapM f = (f x).bind λ y => (xs.mapM f).bind λ ys => some (y :: ys) := by
  simp [List.mapM_cons]
theorem mapM_some {α β : Type} {f : α -> Option β} : ∀ {xs : List α} {ys : List β}, xs.mapM f = some ys -> ys.length = xs.length /\ ∀ (i : Nat) x, xs[i]? = some x -> ∃ y, ys[i]? = some y /\ f x = some y
  | [], ys, h => by
    simp at h
    subst h
    exact ⟨rfl, λ i x e => by simp at e⟩
  | x :: xs, ys, h => by
    rw [mapM_cons] at h
    cases e : f x with
    | none => rw [e] at h; cases h
    | some y =>
      cases e2 : xs.mapM f with
      | none => rw [e, e2] at h; cases h
      | some r =>
        rw [e, e2] at h
        cases h
        obtain ⟨h1, h2⟩ := mapM_some e2
        refine ⟨by simp [h1], λ i z hz => ?_⟩
        cases i with
        | zero =>
          simp at hz
          subst hz
          exact ⟨y, rfl, e⟩
        | succ i => exact h2 i z (by simpa using hz)
theorem mapM_same {α β : Type} {f g : α -> Option β} (fg : ∀ x y, f x = some y -> g x = some y) : ∀ {xs : List α} {ys : List β}, xs.mapM f = some ys -> xs.mapM g = some ys
  | [], ys, h => by simpa using h
  | x :: xs, ys, h => by
    rw [mapM_cons] at h ⊢
    cases e : f x with
    | none => rw [e] at h; cases h
    | some y =>
      cases e2 : xs.mapM f with
      | none => rw [e, e2] at h; cases h
      | some r =>
        rw [e, e2] at h
        rw [fg x y e, mapM_same fg e2]
        exact h
theorem eqvAll_of : ∀ {ds es : List PyData}, ds.length = es.length -> PyData.eqvAll ds es = (List.range ds.length).all λ j => PyData.eqv (ds.getD j .none) (es.getD j .none)
  | [], [], _ => rfl
  | [], _ :: _, h => by simp at h
  | _ :: _, [], h => by simp at h
  | d :: ds, e :: es, h => by
    show (PyData.eqv d e && PyData.eqvAll ds es) = _
    rw [eqvAll_of (by simpa using h), List.length_cons, List.range_succ_eq_map, List.all_cons, List.all_map]
    rfl
theorem eqvAll_ne : ∀ {ds es : List PyData}, ds.length ≠ es.length -> PyData.eqvAll ds es = false
  | [], [], h => absurd rfl h
  | [], _ :: _, _ => rfl
  | _ :: _, [], _ => rfl
  | d :: ds, e :: es, h => by
    show (PyData.eqv d e && PyData.eqvAll ds es) = _
    rw [eqvAll_ne (by simpa using h), Bool.and_false]
theorem eqvAll_self {f : V -> Option PyData} (hf : ∀ x d, f x = some d -> PyData.eqv d d = true) : ∀ {xs : List V} {ds : List PyData}, xs.mapM f = some ds -> PyData.eqvAll ds ds = true
  | [], ds, h => by simp at h; subst h; rfl
  | x :: xs, ds, h => by
    rw [mapM_cons] at h
    cases e : f x with
    | none => rw [e] at h; cases h
    | some y =>
      cases e2 : xs.mapM f with
      | none => rw [e, e2] at h; cases h
      | some r =>
        rw [e, e2] at h
        cases h
        show (PyData.eqv y y && PyData.eqvAll r r) = true
        rw [hf x y e, eqvAll_self hf e2]
        rfl
theorem eqv_self {H : Hp} : ∀ (n : Nat) (x : V) (d : PyData), rdD n H x = some d -> PyData.eqv d d = true
  | n, .non, d, h => by cases n <;> (cases h; rfl)
  | n, .bl b, d, h => by cases n <;> (cases h; exact beq_self_eq_true b)
  | n, .int b, d, h => by cases n <;> (cases h; exact beq_self_eq_true b)
  | n, .str b, d, h => by cases n <;> (cases h; exact beq_self_eq_true b)
  | n, .byt b, d, h => by cases n <;> cases h
  | n, .flt b, d, h => by cases n <;> cases h
  | n, .ty b, d, h => by cases n <;> cases h
  | 0, .ref a, d, h => by cases h
  | n + 1, .ref a, d, h => by
    unfold rdD at h
    cases e : H a with
    | none => rw [e] at h; cases h
    | some o =>
      rw [e] at h
      cases o <;> first | (cases h; done) | skip
      all_goals
        rename_i xs
        simp only at h
        cases e2 : xs.mapM (rdD n H) with
        | none => rw [e2] at h; cases h
        | some ds =>
          rw [e2] at h
          cases h
          exact eqvAll_self (eqv_self n) e2
noncomputable def flatD : V -> PyData
  | .non => .none
  | .bl b => .bool b
  | .int i => .int i
  | .str z => .str z
  | _ => .none
section
variable {X : Cx} {pins : List (Addr × Obj)} {σ : St} {H : Hp} {s : Shared}
theorem at_lst (I : Inv X pins σ H s) {a : Addr} {xs : List V} (e : H a = some (.lst xs)) : ∃ its : List Value, Vals xs its /\ s.heap.IsList a its.toArray := by
  obtain ⟨its, r, p, _⟩ := I.list (.inl (.inl e))
  exact ⟨its, r, p.isList⟩
theorem at_tup (I : Inv X pins σ H s) {a : Addr} {xs : List V} (e : H a = some (.tup xs)) : ∃ its : List Value, Vals xs its /\ s.heap.IsTuple a its.toArray := by
  obtain ⟨its, r, p, _⟩ := I.tuple (.inl (.inl e))
  exact ⟨its, r, p⟩
theorem in1_units (A : Around) : A.in1.units = A.units + 1 := rfl
theorem eqAt_fs {A : Around} {x : V} {u : Value} {a : Addr} (rx : RelV x u) (fx : flatV x = true) (hu : A.units < cLine) (h : (∃ its, s.heap.IsList a its) \/ ∃ its, s.heap.IsTuple a its) : SeqAt.EqAt A s u (.ref a) false /\ SeqAt.EqAt A s (.ref a) u false := by
  cases x with
  | non =>
    cases rx
    rcases h with ⟨its, h⟩ | ⟨its, h⟩
    . exact ⟨SeqAt.EqAt.none_list h hu, SeqAt.EqAt.list_none h hu⟩
    . exact ⟨SeqAt.EqAt.none_tuple h hu, SeqAt.EqAt.tuple_none h hu⟩
  | bl b =>
    cases rx
    rcases h with ⟨its, h⟩ | ⟨its, h⟩
    . exact ⟨SeqAt.EqAt.bool_list b h hu, SeqAt.EqAt.list_bool b h hu⟩
    . exact ⟨SeqAt.EqAt.bool_tuple b h hu, SeqAt.EqAt.tuple_bool b h hu⟩
  | int i =>
    obtain ⟨t, rfl⟩ := rx
    rcases h with ⟨its, h⟩ | ⟨its, h⟩
    . exact ⟨SeqAt.EqAt.int_list i t h hu, SeqAt.EqAt.list_int i t h hu⟩
    . exact ⟨SeqAt.EqAt.int_tuple i t h hu, SeqAt.EqAt.tuple_int i t h hu⟩
  | str i =>
    obtain ⟨t, rfl⟩ := rx
    rcases h with ⟨its, h⟩ | ⟨its, h⟩
    . exact ⟨SeqAt.EqAt.str_list i t h hu, SeqAt.EqAt.list_str i t h hu⟩
    . exact ⟨SeqAt.EqAt.str_tuple i t h hu, SeqAt.EqAt.tuple_str i t h hu⟩
  | _ => cases fx
theorem rdD_ref {n : Nat} {a : Addr} {d : PyData} (h : rdD n H (.ref a) = some d) : ∃ m, n = m + 1 /\ ((∃ xs ds, H a = some (.lst xs) /\ xs.mapM (rdD m H) = some ds /\ d = .list ds) \/ ∃ xs ds, H a = some (.tup xs) /\ xs.mapM (rdD m H) = some ds /\ d = .tuple ds) := by
  cases n with
  | zero => cases h
  | succ m =>
    refine ⟨m, rfl, ?_⟩
    unfold rdD at h
    cases e : H a with
    | none => rw [e] at h; cases h
    | some o =>
      rw [e] at h
      cases o <;> first | (cases h; done) | skip
      . rename_i xs
        simp only at h
        cases e2 : xs.mapM (rdD m H) with
        | none => rw [e2] at h; cases h
        | some ds => rw [e2] at h; cases h; exact .inl ⟨xs, ds, rfl, e2, rfl⟩
      . rename_i xs
        simp only at h
        cases e2 : xs.mapM (rdD m H) with
        | none => rw [e2] at h; cases h
        | some ds => rw [e2] at h; cases h; exact .inr ⟨xs, ds, rfl, e2, rfl⟩
theorem rdD_flat {n : Nat} {x : V} {d : PyData} (h : rdD n H x = some d) (hx : ∀ a, x ≠ .ref a) : flatV x = true /\ d = flatD x := by
  cases x with
  | ref a => exact absurd rfl (hx a)
  | _ => cases n <;> first | (cases h; exact ⟨rfl, rfl⟩) | cases h
end
section
variable {X : Cx} {pins : List (Addr × Obj)} {σ : St} {H : Hp} {s : Shared}
theorem getD_of {α : Type} {xs : List α} {i : Nat} {x d : α} (h : xs[i]? = some x) : xs.getD i d = x := by
  simp [List.getD, h]
theorem notRef_or (x : V) : (∃ a, x = .ref a) \/ ∀ a, x ≠ .ref a := by
  cases x <;> first | exact .inl ⟨_, rfl⟩ | exact .inr λ a h => by cases h
theorem eqAt_D (I : Inv X pins σ H s) : ∀ (n : Nat) (A : Around) (x y : V) (u v : Value) (d e : PyData), rdD n H x = some d -> rdD n H y = some e -> RelV x u -> RelV y v -> A.units + n < cLine -> SeqAt.EqAt A s u v (PyData.eqv d e) := by
  intro n
  induction n with
  | zero =>
    intro A x y u v d e hx hy rx ry hu
    rcases notRef_or x with ⟨a, rfl⟩ | nx
    . cases hx
    rcases notRef_or y with ⟨a, rfl⟩ | ny
    . cases hy
    obtain ⟨fx, rfl⟩ := rdD_flat hx nx
    obtain ⟨fy, rfl⟩ := rdD_flat hy ny
    have := eqAt_V (A := A) (s := s) rx ry fx fy
    cases x <;> cases y <;> first | (cases fx; done) | (cases fy; done) | exact this
  | succ n ih =>
    intro A x y u v d e hx hy rx ry hu
    have hu' : A.units < cLine := by omega
    rcases notRef_or x with ⟨a, rfl⟩ | nx
    . obtain ⟨m, em, hx'⟩ := rdD_ref hx
      cases em
      cases rx
      rcases notRef_or y with ⟨b, rfl⟩ | ny
      . obtain ⟨m', em', hy'⟩ := rdD_ref hy
        cases em'
        cases ry
        by_cases hab : a = b
        . subst hab
          rw [hx] at hy
          cases hy
          rw [eqv_self _ _ _ hx]
          exact SeqAt.EqAt.same _
        . rcases hx' with ⟨xs, ds, ha, hd, rfl⟩ | ⟨xs, ds, ha, hd, rfl⟩
          . obtain ⟨its, r1, l1⟩ := at_lst I ha
            obtain ⟨q1, q2⟩ := mapM_some hd
            rcases hy' with ⟨ys, es, hb, he, rfl⟩ | ⟨ys, es, hb, he, rfl⟩
            . obtain ⟨jts, r2, l2⟩ := at_lst I hb
              obtain ⟨p1, p2⟩ := mapM_some he
              have e1 := r1.length
              have e2 := r2.length
              show SeqAt.EqAt A s _ _ (PyData.eqvAll ds es)
              by_cases hl : its.length = jts.length
              . have ez : PyData.eqvAll ds es = (List.range its.toArray.size).all λ j => PyData.eqv (ds.getD j .none) (es.getD j .none) := by
                  rw [eqvAll_of (by omega)]
                  congr 2
                  simp
                  omega
                rw [ez]
                refine SeqAt.EqAt.of_refs hab (SeqAt.RcAt.lists l1 l2 (by simpa using hl) hu' λ j j1 j2 => ?_)
                have j1' : j < xs.length := by simpa [e1] using j1
                have j2' : j < ys.length := by simpa [e2] using j2
                obtain ⟨y1, g1, k1⟩ := q2 j xs[j] (by simp [j1'])
                obtain ⟨y2, g2, k2⟩ := p2 j ys[j] (by simp [j2'])
                obtain ⟨u1, w1, z1⟩ := r1.get (i := j) (x := xs[j]) (by simp [j1'])
                obtain ⟨u2, w2, z2⟩ := r2.get (i := j) (x := ys[j]) (by simp [j2'])
                rw [getD_of g1, getD_of g2]
                have o1 : its.toArray[j] = u1 := by
                  obtain ⟨_, o⟩ := List.getElem?_eq_some_iff.mp w1
                  simpa using o
                have o2 : jts.toArray[j] = u2 := by
                  obtain ⟨_, o⟩ := List.getElem?_eq_some_iff.mp w2
                  simpa using o
                rw [o1, o2]
                exact ih A.in1 _ _ _ _ _ _ k1 k2 z1 z2 (by rw [in1_units]; omega)
              . rw [eqvAll_ne (by omega)]
                exact SeqAt.EqAt.of_refs hab (SeqAt.RcAt.lists_lengths l1 l2 (by simpa using hl) hu')
            . obtain ⟨jts, r2, l2⟩ := at_tup I hb
              exact SeqAt.EqAt.list_tuple l1 l2 hu'
          . obtain ⟨its, r1, l1⟩ := at_tup I ha
            obtain ⟨q1, q2⟩ := mapM_some hd
            rcases hy' with ⟨ys, es, hb, he, rfl⟩ | ⟨ys, es, hb, he, rfl⟩
            . obtain ⟨jts, r2, l2⟩ := at_lst I hb
              exact SeqAt.EqAt.tuple_list l1 l2 hu'
            . obtain ⟨jts, r2, l2⟩ := at_tup I hb
              obtain ⟨p1, p2⟩ := mapM_some he
              have e1 := r1.length
              have e2 := r2.length
              show SeqAt.EqAt A s _ _ (PyData.eqvAll ds es)
              have ez : PyData.eqvAll ds es = ((List.range (min its.toArray.size jts.toArray.size)).all (λ j => PyData.eqv (ds.getD j .none) (es.getD j .none)) && its.toArray.size == jts.toArray.size) := by
                by_cases hl : its.length = jts.length
                . rw [eqvAll_of (by omega)]
                  have : (its.toArray.size == jts.toArray.size) = true := by simpa using hl
                  rw [this, Bool.and_true]
                  congr 2
                  simp
                  omega
                . rw [eqvAll_ne (by omega)]
                  have : (its.toArray.size == jts.toArray.size) = false := by simpa using hl
                  rw [this, Bool.and_false]
              rw [ez]
              refine SeqAt.EqAt.of_refs hab (SeqAt.RcAt.tuples l1 l2 hu' λ j j1 j2 => ?_)
              have j1' : j < xs.length := by simpa [e1] using j1
              have j2' : j < ys.length := by simpa [e2] using j2
              obtain ⟨y1, g1, k1⟩ := q2 j xs[j] (by simp [j1'])
              obtain ⟨y2, g2, k2⟩ := p2 j ys[j] (by simp [j2'])
              obtain ⟨u1, w1, z1⟩ := r1.get (i := j) (x := xs[j]) (by simp [j1'])
              obtain ⟨u2, w2, z2⟩ := r2.get (i := j) (x := ys[j]) (by simp [j2'])
              rw [getD_of g1, getD_of g2]
              have o1 : its.toArray[j] = u1 := by
                obtain ⟨_, o⟩ := List.getElem?_eq_some_iff.mp w1
                simpa using o
              have o2 : jts.toArray[j] = u2 := by
                obtain ⟨_, o⟩ := List.getElem?_eq_some_iff.mp w2
                simpa using o
              rw [o1, o2]
              exact ih A.in1 _ _ _ _ _ _ k1 k2 z1 z2 (by rw [in1_units]; omega)
      . obtain ⟨fy, rfl⟩ := rdD_flat hy ny
        have hs : (∃ its, s.heap.IsList a its) \/ ∃ its, s.heap.IsTuple a its := by
          rcases hx' with ⟨xs, ds, ha, _, _⟩ | ⟨xs, ds, ha, _, _⟩
          . obtain ⟨its, _, l⟩ := at_lst I ha; exact .inl ⟨_, l⟩
          . obtain ⟨its, _, l⟩ := at_tup I ha; exact .inr ⟨_, l⟩
        have z := (eqAt_fs ry fy hu' hs).2
        rcases hx' with ⟨xs, ds, ha, hd, rfl⟩ | ⟨xs, ds, ha, hd, rfl⟩ <;> (cases y <;> first | (cases fy; done) | exact z)
    . obtain ⟨fx, rfl⟩ := rdD_flat hx nx
      rcases notRef_or y with ⟨b, rfl⟩ | ny
      . obtain ⟨m', em', hy'⟩ := rdD_ref hy
        cases em'
        cases ry
        have hs : (∃ its, s.heap.IsList b its) \/ ∃ its, s.heap.IsTuple b its := by
          rcases hy' with ⟨xs, ds, ha, _, _⟩ | ⟨xs, ds, ha, _, _⟩
          . obtain ⟨its, _, l⟩ := at_lst I ha; exact .inl ⟨_, l⟩
          . obtain ⟨its, _, l⟩ := at_tup I ha; exact .inr ⟨_, l⟩
        have z := (eqAt_fs rx fx hu' hs).1
        rcases hy' with ⟨xs, ds, ha, hd, rfl⟩ | ⟨xs, ds, ha, hd, rfl⟩ <;> (cases x <;> first | (cases fx; done) | exact z)
      . obtain ⟨fy, rfl⟩ := rdD_flat hy ny
        have := eqAt_V (A := A) (s := s) rx ry fx fy
        cases x <;> cases y <;> first | (cases fx; done) | (cases fy; done) | exact this
theorem rc_flat {A : Around} {x y : V} {u v : Value} (rx : RelV x u) (ry : RelV y v) (fx : flatV x = true) (fy : flatV y = true) : SeqAt.RcAt A s u v (eqV x y) /\ SeqAt.RcNeAt A s u v (!eqV x y) := by
  cases x with
  | non =>
    cases rx
    cases y with
    | non =>
      cases ry
      exact ⟨SeqAt.RcAt.none_none, SeqAt.RcNeAt.none_none⟩
    | bl c =>
      cases ry
      exact ⟨SeqAt.RcAt.none_bool _, SeqAt.RcNeAt.none_bool _⟩
    | int c =>
      obtain ⟨t2, rfl⟩ := ry
      exact ⟨SeqAt.RcAt.none_int _ _, SeqAt.RcNeAt.none_int _ _⟩
    | str c =>
      obtain ⟨t2, rfl⟩ := ry
      exact ⟨SeqAt.RcAt.none_str _ _, SeqAt.RcNeAt.none_str _ _⟩
    | _ => cases fy
  | bl a =>
    cases rx
    cases y with
    | non =>
      cases ry
      exact ⟨SeqAt.RcAt.bool_none _, SeqAt.RcNeAt.bool_none _⟩
    | bl c =>
      cases ry
      exact ⟨SeqAt.RcAt.bool_bool _ _, SeqAt.RcNeAt.bool_bool _ _⟩
    | int c =>
      obtain ⟨t2, rfl⟩ := ry
      exact ⟨SeqAt.RcAt.bool_int _ _ _, SeqAt.RcNeAt.bool_int _ _ _⟩
    | str c =>
      obtain ⟨t2, rfl⟩ := ry
      exact ⟨SeqAt.RcAt.bool_str _ _ _, SeqAt.RcNeAt.bool_str _ _ _⟩
    | _ => cases fy
  | int a =>
    obtain ⟨t1, rfl⟩ := rx
    cases y with
    | non =>
      cases ry
      exact ⟨SeqAt.RcAt.int_none _ _, SeqAt.RcNeAt.int_none _ _⟩
    | bl c =>
      cases ry
      exact ⟨SeqAt.RcAt.int_bool _ _ _, SeqAt.RcNeAt.int_bool _ _ _⟩
    | int c =>
      obtain ⟨t2, rfl⟩ := ry
      exact ⟨SeqAt.RcAt.int_int _ _ _ _, SeqAt.RcNeAt.int_int _ _ _ _⟩
    | str c =>
      obtain ⟨t2, rfl⟩ := ry
      exact ⟨SeqAt.RcAt.int_str _ _ _ _, SeqAt.RcNeAt.int_str _ _ _ _⟩
    | _ => cases fy
  | str a =>
    obtain ⟨t1, rfl⟩ := rx
    cases y with
    | non =>
      cases ry
      exact ⟨SeqAt.RcAt.str_none _ _, SeqAt.RcNeAt.str_none _ _⟩
    | bl c =>
      cases ry
      exact ⟨SeqAt.RcAt.str_bool _ _ _, SeqAt.RcNeAt.str_bool _ _ _⟩
    | int c =>
      obtain ⟨t2, rfl⟩ := ry
      exact ⟨SeqAt.RcAt.str_int _ _ _ _, SeqAt.RcNeAt.str_int _ _ _ _⟩
    | str c =>
      obtain ⟨t2, rfl⟩ := ry
      exact ⟨SeqAt.RcAt.str_str _ _ _ _, SeqAt.RcNeAt.str_str _ _ _ _⟩
    | _ => cases fy
  | _ => cases fx
theorem rc_fs {A : Around} {x : V} {u : Value} {a : Addr} (rx : RelV x u) (fx : flatV x = true) (hu : A.units < cLine) (h : (∃ its, s.heap.IsList a its) \/ ∃ its, s.heap.IsTuple a its) :
    (SeqAt.RcAt A s u (.ref a) false /\ SeqAt.RcNeAt A s u (.ref a) true) /\ SeqAt.RcAt A s (.ref a) u false /\ SeqAt.RcNeAt A s (.ref a) u true := by
  cases x with
  | non =>
    cases rx
    rcases h with ⟨its, h⟩ | ⟨its, h⟩
    . exact ⟨⟨SeqAt.RcAt.none_list h hu, SeqAt.RcNeAt.none_list h hu⟩, SeqAt.RcAt.list_none h hu, SeqAt.RcNeAt.list_none h hu⟩
    . exact ⟨⟨SeqAt.RcAt.none_tuple h hu, SeqAt.RcNeAt.none_tuple h hu⟩, SeqAt.RcAt.tuple_none h hu, SeqAt.RcNeAt.tuple_none h hu⟩
  | bl a =>
    cases rx
    rcases h with ⟨its, h⟩ | ⟨its, h⟩
    . exact ⟨⟨SeqAt.RcAt.bool_list _ h hu, SeqAt.RcNeAt.bool_list _ h hu⟩, SeqAt.RcAt.list_bool _ h hu, SeqAt.RcNeAt.list_bool _ h hu⟩
    . exact ⟨⟨SeqAt.RcAt.bool_tuple _ h hu, SeqAt.RcNeAt.bool_tuple _ h hu⟩, SeqAt.RcAt.tuple_bool _ h hu, SeqAt.RcNeAt.tuple_bool _ h hu⟩
  | int a =>
    obtain ⟨t1, rfl⟩ := rx
    rcases h with ⟨its, h⟩ | ⟨its, h⟩
    . exact ⟨⟨SeqAt.RcAt.int_list _ _ h hu, SeqAt.RcNeAt.int_list _ _ h hu⟩, SeqAt.RcAt.list_int _ _ h hu, SeqAt.RcNeAt.list_int _ _ h hu⟩
    . exact ⟨⟨SeqAt.RcAt.int_tuple _ _ h hu, SeqAt.RcNeAt.int_tuple _ _ h hu⟩, SeqAt.RcAt.tuple_int _ _ h hu, SeqAt.RcNeAt.tuple_int _ _ h hu⟩
  | str a =>
    obtain ⟨t1, rfl⟩ := rx
    rcases h with ⟨its, h⟩ | ⟨its, h⟩
    . exact ⟨⟨SeqAt.RcAt.str_list _ _ h hu, SeqAt.RcNeAt.str_list _ _ h hu⟩, SeqAt.RcAt.list_str _ _ h hu, SeqAt.RcNeAt.list_str _ _ h hu⟩
    . exact ⟨⟨SeqAt.RcAt.str_tuple _ _ h hu, SeqAt.RcNeAt.str_tuple _ _ h hu⟩, SeqAt.RcAt.tuple_str _ _ h hu, SeqAt.RcNeAt.tuple_str _ _ h hu⟩
  | _ => cases fx
theorem rcAt_D (I : Inv X pins σ H s) {n : Nat} {A : Around} {x y : V} {u v : Value} {d e : PyData} (hx : rdD n H x = some d) (hy : rdD n H y = some e) (rx : RelV x u) (ry : RelV y v) (hu : A.units + n < cLine) :
    SeqAt.RcAt A s u v (PyData.eqv d e) /\ SeqAt.RcNeAt A s u v (!PyData.eqv d e) := by
  have hu' : A.units < cLine := by omega
  have seq : ∀ {a : Addr} {d : PyData}, rdD n H (.ref a) = some d -> (∃ its, s.heap.IsList a its) \/ ∃ its, s.heap.IsTuple a its := λ {a d} h => by
    obtain ⟨m, em, h'⟩ := rdD_ref h
    rcases h' with ⟨xs, ds, ha, _, _⟩ | ⟨xs, ds, ha, _, _⟩
    . obtain ⟨its, _, l⟩ := at_lst I ha; exact .inl ⟨_, l⟩
    . obtain ⟨its, _, l⟩ := at_tup I ha; exact .inr ⟨_, l⟩
  have sd : ∀ {a : Addr} {d : PyData}, rdD n H (.ref a) = some d -> (∃ ds, d = .list ds) \/ ∃ ds, d = .tuple ds := λ {a d} h => by
    obtain ⟨m, em, h'⟩ := rdD_ref h
    rcases h' with ⟨xs, ds, _, _, e⟩ | ⟨xs, ds, _, _, e⟩
    . exact .inl ⟨ds, e⟩
    . exact .inr ⟨ds, e⟩
  rcases notRef_or x with ⟨a, rfl⟩ | nx
  . rcases notRef_or y with ⟨b, rfl⟩ | ny
    . cases rx
      cases ry
      obtain ⟨m, em, hx'⟩ := rdD_ref hx
      obtain ⟨m', em', hy'⟩ := rdD_ref hy
      subst em
      cases em'
      rcases hx' with ⟨xs, ds, ha, hd, rfl⟩ | ⟨xs, ds, ha, hd, rfl⟩
      . obtain ⟨its, r1, l1⟩ := at_lst I ha
        obtain ⟨q1, q2⟩ := mapM_some hd
        rcases hy' with ⟨ys, es, hb, he, rfl⟩ | ⟨ys, es, hb, he, rfl⟩
        . obtain ⟨jts, r2, l2⟩ := at_lst I hb
          obtain ⟨p1, p2⟩ := mapM_some he
          have e1 := r1.length
          have e2 := r2.length
          show SeqAt.RcAt A s _ _ (PyData.eqvAll ds es) /\ SeqAt.RcNeAt A s _ _ (!PyData.eqvAll ds es)
          by_cases hl : its.length = jts.length
          . have ez : PyData.eqvAll ds es = (List.range its.toArray.size).all λ j => PyData.eqv (ds.getD j .none) (es.getD j .none) := by
              rw [eqvAll_of (by omega)]
              congr 2
              simp
              omega
            rw [ez]
            have each : ∀ j (j1 : j < its.toArray.size) (j2 : j < jts.toArray.size), SeqAt.EqAt A.in1 s its.toArray[j] jts.toArray[j] (PyData.eqv (ds.getD j .none) (es.getD j .none)) := λ j j1 j2 => by
              have j1' : j < xs.length := by simpa [e1] using j1
              have j2' : j < ys.length := by simpa [e2] using j2
              obtain ⟨y1, g1, k1⟩ := q2 j xs[j] (by simp [j1'])
              obtain ⟨y2, g2, k2⟩ := p2 j ys[j] (by simp [j2'])
              obtain ⟨u1, w1, z1⟩ := r1.get (i := j) (x := xs[j]) (by simp [j1'])
              obtain ⟨u2, w2, z2⟩ := r2.get (i := j) (x := ys[j]) (by simp [j2'])
              rw [getD_of g1, getD_of g2]
              have o1 : its.toArray[j] = u1 := by
                obtain ⟨_, o⟩ := List.getElem?_eq_some_iff.mp w1
                simpa using o
              have o2 : jts.toArray[j] = u2 := by
                obtain ⟨_, o⟩ := List.getElem?_eq_some_iff.mp w2
                simpa using o
              rw [o1, o2]
              exact eqAt_D I m A.in1 _ _ _ _ _ _ k1 k2 z1 z2 (by rw [in1_units]; omega)
            exact ⟨SeqAt.RcAt.lists l1 l2 (by simpa using hl) hu' each, SeqAt.RcNeAt.lists l1 l2 (by simpa using hl) hu' each⟩
          . rw [eqvAll_ne (by omega)]
            exact ⟨SeqAt.RcAt.lists_lengths l1 l2 (by simpa using hl) hu', SeqAt.RcNeAt.lists_lengths l1 l2 (by simpa using hl) hu'⟩
        . obtain ⟨jts, r2, l2⟩ := at_tup I hb
          exact ⟨SeqAt.RcAt.list_tuple l1 l2 hu', SeqAt.RcNeAt.list_tuple l1 l2 hu'⟩
      . obtain ⟨its, r1, l1⟩ := at_tup I ha
        obtain ⟨q1, q2⟩ := mapM_some hd
        rcases hy' with ⟨ys, es, hb, he, rfl⟩ | ⟨ys, es, hb, he, rfl⟩
        . obtain ⟨jts, r2, l2⟩ := at_lst I hb
          exact ⟨SeqAt.RcAt.tuple_list l1 l2 hu', SeqAt.RcNeAt.tuple_list l1 l2 hu'⟩
        . obtain ⟨jts, r2, l2⟩ := at_tup I hb
          obtain ⟨p1, p2⟩ := mapM_some he
          have e1 := r1.length
          have e2 := r2.length
          show SeqAt.RcAt A s _ _ (PyData.eqvAll ds es) /\ SeqAt.RcNeAt A s _ _ (!PyData.eqvAll ds es)
          have ez : PyData.eqvAll ds es = ((List.range (min its.toArray.size jts.toArray.size)).all (λ j => PyData.eqv (ds.getD j .none) (es.getD j .none)) && its.toArray.size == jts.toArray.size) := by
            by_cases hl : its.length = jts.length
            . rw [eqvAll_of (by omega)]
              have : (its.toArray.size == jts.toArray.size) = true := by simpa using hl
              rw [this, Bool.and_true]
              congr 2
              simp
              omega
            . rw [eqvAll_ne (by omega)]
              have : (its.toArray.size == jts.toArray.size) = false := by simpa using hl
              rw [this, Bool.and_false]
          rw [ez]
          have each : ∀ j (j1 : j < its.toArray.size) (j2 : j < jts.toArray.size), SeqAt.EqAt A.in1 s its.toArray[j] jts.toArray[j] (PyData.eqv (ds.getD j .none) (es.getD j .none)) := λ j j1 j2 => by
            have j1' : j < xs.length := by simpa [e1] using j1
            have j2' : j < ys.length := by simpa [e2] using j2
            obtain ⟨y1, g1, k1⟩ := q2 j xs[j] (by simp [j1'])
            obtain ⟨y2, g2, k2⟩ := p2 j ys[j] (by simp [j2'])
            obtain ⟨u1, w1, z1⟩ := r1.get (i := j) (x := xs[j]) (by simp [j1'])
            obtain ⟨u2, w2, z2⟩ := r2.get (i := j) (x := ys[j]) (by simp [j2'])
            rw [getD_of g1, getD_of g2]
            have o1 : its.toArray[j] = u1 := by
              obtain ⟨_, o⟩ := List.getElem?_eq_some_iff.mp w1
              simpa using o
            have o2 : jts.toArray[j] = u2 := by
              obtain ⟨_, o⟩ := List.getElem?_eq_some_iff.mp w2
              simpa using o
            rw [o1, o2]
            exact eqAt_D I m A.in1 _ _ _ _ _ _ k1 k2 z1 z2 (by rw [in1_units]; omega)
          exact ⟨SeqAt.RcAt.tuples l1 l2 hu' each, SeqAt.RcNeAt.tuples l1 l2 hu' each⟩
    . obtain ⟨fy, rfl⟩ := rdD_flat hy ny
      have z := (rc_fs (A := A) ry fy hu' (seq hx)).2
      cases rx
      rcases sd hx with ⟨ds, rfl⟩ | ⟨ds, rfl⟩ <;> (cases y <;> first | (cases fy; done) | exact z)
  . obtain ⟨fx, rfl⟩ := rdD_flat hx nx
    rcases notRef_or y with ⟨b, rfl⟩ | ny
    . cases ry
      have z := (rc_fs rx fx hu' (seq hy)).1
      rcases sd hy with ⟨ds, rfl⟩ | ⟨ds, rfl⟩ <;> (cases x <;> first | (cases fx; done) | exact z)
    . obtain ⟨fy, rfl⟩ := rdD_flat hy ny
      have := rc_flat (A := A) (s := s) rx ry fx fy
      cases x <;> cases y <;> first | (cases fx; done) | (cases fy; done) | exact this
noncomputable def isRf : V -> Bool
  | .ref _ => true
  | _ => false
noncomputable def eqD (x y : V) (H : Hp) (Q : VK) : Prop := match rdD 8 H x, rdD 8 H y with
  | some d, some e => Q (.bl (PyData.eqv d e)) H
  | _, _ => False
inductive EqT (H : Hp) : Nat -> V -> V -> Prop where
  | same (n : Nat) (a : Addr) : EqT H n (.ref a) (.ref a)
  | data {n : Nat} {x y : V} {d e : PyData} (hx : rdD n H x = some d) (hy : rdD n H y = some e) (h : PyData.eqv d e = true) : EqT H n x y
  | lst {n : Nat} {p q : Addr} {xs ys : List V} (hne : p ≠ q) (hp : H p = some (.lst xs)) (hq : H q = some (.lst ys)) (hl : xs.length = ys.length) (he : ∀ (i : Nat) x y, xs[i]? = some x -> ys[i]? = some y -> EqT H n x y) : EqT H (n + 1) (.ref p) (.ref q)
theorem list_T (I : Inv X pins σ H s) {A : Around} {p q : Addr} {xs ys : List V} (hp : H p = some (.lst xs)) (hq : H q = some (.lst ys)) (hl : xs.length = ys.length) (hu : A.units < cLine)
    (he : ∀ (i : Nat) x y u v, xs[i]? = some x -> ys[i]? = some y -> RelV x u -> RelV y v -> SeqAt.EqAt A.in1 s u v true) : SeqAt.RcAt A s (.ref p) (.ref q) true /\ SeqAt.RcNeAt A s (.ref p) (.ref q) false := by
  obtain ⟨its, r1, l1⟩ := at_lst I hp
  obtain ⟨jts, r2, l2⟩ := at_lst I hq
  have e1 := r1.length
  have e2 := r2.length
  have each : ∀ j (j1 : j < its.toArray.size) (j2 : j < jts.toArray.size), SeqAt.EqAt A.in1 s its.toArray[j] jts.toArray[j] ((λ _ : Nat => true) j) := λ j j1 j2 => by
    have j1' : j < xs.length := by simpa [e1] using j1
    have j2' : j < ys.length := by simpa [e2] using j2
    obtain ⟨u1, w1, z1⟩ := r1.get (i := j) (x := xs[j]) (by simp [j1'])
    obtain ⟨u2, w2, z2⟩ := r2.get (i := j) (x := ys[j]) (by simp [j2'])
    have o1 : its.toArray[j] = u1 := by
      obtain ⟨_, o⟩ := List.getElem?_eq_some_iff.mp w1
      simpa using o
    have o2 : jts.toArray[j] = u2 := by
      obtain ⟨_, o⟩ := List.getElem?_eq_some_iff.mp w2
      simpa using o
    rw [o1, o2]
    exact he j xs[j] ys[j] u1 u2 (by simp [j1']) (by simp [j2']) z1 z2
  have all : (List.range its.toArray.size).all (λ _ : Nat => true) = true := by simp
  have a := SeqAt.RcAt.lists l1 l2 (by simp; omega) hu each
  have b := SeqAt.RcNeAt.lists l1 l2 (by simp; omega) hu each
  rw [all] at a b
  exact ⟨a, b⟩
theorem eqT_at (I : Inv X pins σ H s) : ∀ {n : Nat} {x y : V}, EqT H n x y -> ∀ {A : Around} {u v : Value}, RelV x u -> RelV y v -> A.units + n < cLine -> SeqAt.EqAt A s u v true := λ {n x y} h => by
  induction h with
  | same n a =>
    intro A u v ru rv hu
    cases ru
    cases rv
    exact SeqAt.EqAt.same _
  | data hx hy h =>
    intro A u v ru rv hu
    have := eqAt_D I _ A _ _ _ _ _ _ hx hy ru rv hu
    rw [h] at this
    exact this
  | lst hne hp hq hl he ih =>
    intro A u v ru rv hu
    cases ru
    cases rv
    exact SeqAt.EqAt.of_refs hne (list_T I hp hq hl (by omega) λ i x y u v h1 h2 r1 r2 => ih i x y h1 h2 r1 r2 (by rw [in1_units]; omega)).1
noncomputable def eqL (x y : V) (H : Hp) (Q : VK) : Prop := ∃ (p q : Addr) (xs ys : List V), x = .ref p /\ y = .ref q /\ H p = some (.lst xs) /\ H q = some (.lst ys) /\ xs.length = ys.length /\ (∀ (i : Nat) x y, xs[i]? = some x -> ys[i]? = some y -> EqT H 8 x y) /\ Q (.bl true) H
@[irreducible] noncomputable def eqH (x y : V) (H : Hp) (Q : VK) : Prop := eqD x y H Q \/ eqL x y H Q
noncomputable def eqG : R2 := λ x y H Q => match isRf x || isRf y with
  | true => eqH x y H Q
  | false => eqD x y H Q
theorem eqG_D {x y : V} {H : Hp} {Q : VK} (h : eqG x y H Q) : eqD x y H Q \/ eqL x y H Q := by
  unfold eqG at h
  split at h
  . unfold eqH at h
    exact h
  . exact .inl h
noncomputable def neG : R2 := λ x y H Q => eqG x y H λ v H1 => match v with
  | .bl b => Q (.bl (!b)) H1
  | _ => False
theorem op_eqG {k : Nat} (hr : Room k X.A) : OpR X (compareOp .Eq) eqG := λ pins s σ H x y v u Q I rx ry h => by
  rcases eqG_D h with h | ⟨p, q, xs, ys, rfl, rfl, hp, hq, hl, he, h⟩
  . unfold eqD at h
    split at h
    . rename_i d e h1 h2
      exact (rcAt_D I h1 h2 rx ry (by have := hr.un; omega)).1 X.prog X.w X.xe _ ⟨.bl _, H, I, rfl, h⟩
    . exact h.elim
  . cases rx
    cases ry
    exact (list_T I hp hq hl (by have := hr.un; omega) λ i x y u v h1 h2 r1 r2 => eqT_at I (he i x y h1 h2) r1 r2 (by rw [in1_units]; have := hr.un; omega)).1 X.prog X.w X.xe _ ⟨.bl _, H, I, rfl, h⟩
theorem op_neG {k : Nat} (hr : Room k X.A) : OpR X (compareOp .NotEq) neG := λ pins s σ H x y v u Q I rx ry h => by
  rcases eqG_D h with h | ⟨p, q, xs, ys, rfl, rfl, hp, hq, hl, he, h⟩
  . unfold eqD at h
    split at h
    . rename_i d e h1 h2
      exact (rcAt_D I h1 h2 rx ry (by have := hr.un; omega)).2 X.prog X.w X.xe _ ⟨.bl _, H, I, rfl, h⟩
    . exact h.elim
  . cases rx
    cases ry
    exact (list_T I hp hq hl (by have := hr.un; omega) λ i x y u v h1 h2 r1 r2 => eqT_at I (he i x y h1 h2) r1 r2 (by rw [in1_units]; have := hr.un; omega)).2 X.prog X.w X.xe _ ⟨.bl _, H, I, rfl, h⟩
end
noncomputable def keyOf : V -> Option Key
  | .int i => some (.inl i)
  | .str x => some (.inr x)
  | _ => none
theorem keyOf_kV {x : V} {k : Key} (h : keyOf x = some k) : x = kV k := by
  cases x <;> first | (cases h; rfl) | cases h
noncomputable def keysOf (xs : List V) : Option (List Key) := xs.mapM keyOf
theorem keysOf_kV : ∀ {xs : List V} {ks : List Key}, keysOf xs = some ks -> xs = ks.map kV
  | [], ks, h => by
    unfold keysOf at h
    simp at h
    subst h
    rfl
  | x :: xs, ks, h => by
    unfold keysOf at h
    rw [mapM_cons] at h
    cases e : keyOf x with
    | none => rw [e] at h; cases h
    | some y =>
      cases e2 : xs.mapM keyOf with
      | none => rw [e, e2] at h; cases h
      | some r =>
        rw [e, e2] at h
        cases h
        rw [List.map_cons, <- keyOf_kV e, <- keysOf_kV e2]
noncomputable def dLook (H : Hp) (a : Addr) (y : V) : Option (Option V) := match H a with
  | some (.dK kvs) => (keyOf y).map (valV kvs)
  | some (.frz _ (.dK kvs)) => (keyOf y).map (valV kvs)
  | some (.dT kvs) => match y with
    | .ref b => match H b with
      | some (.tup xs) => (keysOf xs).map (valV kvs)
      | _ => none
    | _ => none
  | some (.frz _ (.dT kvs)) => match y with
    | .ref b => match H b with
      | some (.tup xs) => (keysOf xs).map (valV kvs)
      | _ => none
    | _ => none
  | _ => none
theorem dLook_get {H : Hp} {a : Addr} {y : V} {r : Option V} (h : dLook H a y = some r) : DGet H a y r := by
  unfold dLook at h
  split at h
  . rename_i kvs e
    cases e2 : keyOf y with
    | none => rw [e2] at h; cases h
    | some k => rw [e2] at h; cases h; rw [keyOf_kV e2]; exact DGet.k e
  . rename_i ob kvs e
    cases e2 : keyOf y with
    | none => rw [e2] at h; cases h
    | some k => rw [e2] at h; cases h; rw [keyOf_kV e2]; exact .inl ⟨_, _, .inr ⟨_, e⟩, rfl, rfl⟩
  . rename_i kvs e
    split at h
    . split at h
      . rename_i xs e3
        cases e2 : keysOf xs with
        | none => rw [e2] at h; cases h
        | some k => rw [e2] at h; cases h; rw [keysOf_kV e2] at e3; exact DGet.t e e3
      . cases h
    . cases h
  . rename_i ob kvs e
    split at h
    . split at h
      . rename_i xs e3
        cases e2 : keysOf xs with
        | none => rw [e2] at h; cases h
        | some k => rw [e2] at h; cases h; rw [keysOf_kV e2] at e3; exact .inr ⟨_, _, _, .inr ⟨_, e⟩, rfl, e3, rfl⟩
      . cases h
    . cases h
  . cases h
section
variable {X : Cx} {pins : List (Addr × Obj)} {σ : St} {H : Hp} {s : Shared}
@[irreducible] noncomputable def getG : R2 := λ x y H Q => match x with
  | .str z => match y with
    | .int i => match atI z.cps.toList i with
      | some c => z.length <= sizeLine /\ Q (.str ⟨#[c]⟩) H
      | none => False
    | _ => False
  | .ref p => match H p with
    | some (.lst xs) => match y with
      | .int i => match atI xs i with
        | some v => Q v H
        | none => False
      | _ => False
    | some (.tup xs) => match y with
      | .int i => match atI xs i with
        | some v => Q v H
        | none => False
      | _ => False
    | _ => match dLook H p y with
      | some (some v) => Q v H
      | _ => False
  | _ => False
theorem ix_dict (hu : X.A.units + 1 < cLine) : IxR X (λ x y H Q => ∃ a v, x = .ref a /\ DGet H a y (some v) /\ Q v H) := by
  intro value slice pins s σ H x y v u Q I rx ry h hs
  obtain ⟨a, z, rfl, g, q⟩ := h
  cases rx
  exact tail_any (dict_typeIs I g) PySem.F.slot_dict_getitem.lookup (d_getItem hu I g ry λ w' s3 I3 rw' => ⟨z, H, I3, rw', q⟩) hs
theorem ix_getG (hu : X.A.units + 1 < cLine) : IxR X getG := IxR.imp (IxR.or ix_list (IxR.or ix_tup (IxR.or ix_str (ix_dict hu)))) λ x y H Q h => by
  unfold getG at h
  split at h
  . split at h
    . split at h
      . exact .inr (.inr (.inl ⟨_, _, _, rfl, rfl, h.1, by assumption, h.2⟩))
      . exact h.elim
    . exact h.elim
  . split at h
    . split at h
      . split at h
        . exact .inl ⟨_, _, _, _, rfl, rfl, .inl (.inl (by assumption)), by assumption, h⟩
        . exact h.elim
      . exact h.elim
    . split at h
      . split at h
        . exact .inr (.inl ⟨_, _, _, _, rfl, rfl, .inl (.inl (by assumption)), by assumption, h⟩)
        . exact h.elim
      . exact h.elim
    . split at h
      . exact .inr (.inr (.inr ⟨_, _, rfl, dLook_get (by assumption), h⟩))
      . exact h.elim
  . exact h.elim
noncomputable def rdAll (H : Hp) (xs : List V) : Option (List PyData) := xs.mapM (rdD 7 H)
@[irreducible] noncomputable def inG (neg : Bool) : R2 := λ x y H Q => match y with
  | .ref p => match H p with
    | some (.lst ys) => match rdAll H ys, rdD 7 H x with
      | some es, some d => Q (.bl (neg ^^ es.any λ e => PyData.eqv e d)) H
      | _, _ => False
    | some (.tup ys) => match rdAll H ys, rdD 7 H x with
      | some es, some d => Q (.bl (neg ^^ es.any λ e => PyData.eqv e d)) H
      | _, _ => False
    | _ => match dLook H p x with
      | some o => Q (.bl (neg ^^ o.isSome)) H
      | _ => False
  | .str j => match x with
    | .str i => Q (.bl (neg ^^ !(Builtin.Str.occurrences j i 0 j.length 1).isEmpty)) H
    | _ => False
  | _ => False
theorem any_items {n : Nat} {d : PyData} {f : Value -> Bool} : ∀ {ys : List V} {us : List Value} {es : List PyData}, Vals ys us -> ys.mapM (rdD n H) = some es -> (∀ y u e, RelV y u -> rdD n H y = some e -> f u = PyData.eqv e d) -> us.any f = es.any λ e => PyData.eqv e d
  | _, _, _, .nil, h, _ => by
    simp at h
    subst h
    rfl
  | y :: ys, u :: us, es, .cons r t, h, hf => by
    rw [mapM_cons] at h
    cases e : rdD n H y with
    | none => rw [e] at h; cases h
    | some z =>
      cases e2 : ys.mapM (rdD n H) with
      | none => rw [e, e2] at h; cases h
      | some r2 =>
        rw [e, e2] at h
        cases h
        rw [List.any_cons, List.any_cons, hf y u z r e, any_items t e2 hf]
noncomputable def ansOf (n : Nat) (H : Hp) (d : PyData) (u : Value) : Bool := match absV u with
  | some y => match rdD n H y with
    | some e => PyData.eqv e d
    | none => false
  | none => false
theorem ansOf_eq {n : Nat} {d e : PyData} {y : V} {u : Value} (r : RelV y u) (h : rdD n H y = some e) : ansOf n H d u = PyData.eqv e d := by
  unfold ansOf
  rw [r.abs]
  simp only [h]
theorem each_item {n : Nat} {d : PyData} {x : V} {v : Value} {A : Around} (I : Inv X pins σ H s) (hu : A.units + n < cLine) (hx : rdD n H x = some d) (rx : RelV x v) : ∀ {ys : List V} {us : List Value} {es : List PyData}, Vals ys us -> ys.mapM (rdD n H) = some es -> ∀ u ∈ us, SeqAt.EqAt A s u v (ansOf n H d u)
  | _, _, _, .nil, _, u, h => by cases h
  | y :: ys, u :: us, es, .cons r t, h, w, hw => by
    rw [mapM_cons] at h
    cases e : rdD n H y with
    | none => rw [e] at h; cases h
    | some z =>
      cases e2 : ys.mapM (rdD n H) with
      | none => rw [e, e2] at h; cases h
      | some r2 =>
        rcases List.mem_cons.mp hw with rfl | hw
        . rw [ansOf_eq r e]
          exact eqAt_D I n A y x _ _ _ _ e hx r rx hu
        . exact each_item I hu hx rx t e2 w hw
theorem in_D {k : Nat} (hr : Room k X.A) {p : Addr} {ys : List V} {es : List PyData} {d : PyData} {x : V} {v : Value} {Q : VK} (I : Inv X pins σ H s) (hp : H p = some (.lst ys) \/ H p = some (.tup ys)) (he : rdAll H ys = some es) (hx : rdD 7 H x = some d) (rx : RelV x v) :
    (Q (.bl (es.any λ e => PyData.eqv e d)) H -> wpAny (model X.prog X.w) X.A (compareOp .In v (.ref p)) (EP X pins σ Q) X.xe s) ∧
    (Q (.bl (!es.any λ e => PyData.eqv e d)) H -> wpAny (model X.prog X.w) X.A (compareOp .NotIn v (.ref p)) (EP X pins σ Q) X.xe s) := by
  have hu : X.A.in1.units + 7 < cLine := by
    have := hr.un
    rw [in1_units]
    omega
  rcases hp with hp | hp
  . obtain ⟨its, r, l⟩ := at_lst I hp
    have ea : its.toArray.any (ansOf 7 H d) = es.any λ e => PyData.eqv e d := by
      rw [show its.toArray.any (ansOf 7 H d) = its.any (ansOf 7 H d) by simp]
      exact any_items r he λ y u e ru hy => ansOf_eq ru hy
    refine ⟨λ q => SeqAt.in_listAt (ansOf 7 H d) l (λ w hw => each_item I hu hx rx r he w (by simpa using hw)) ⟨.bl _, H, I, rfl, ?_⟩, λ q => SeqAt.notIn_listAt (ansOf 7 H d) l (λ w hw => each_item I hu hx rx r he w (by simpa using hw)) ⟨.bl _, H, I, rfl, ?_⟩⟩ <;> (rw [ea]; exact q)
  . obtain ⟨its, r, l⟩ := at_tup I hp
    have ea : its.toArray.any (ansOf 7 H d) = es.any λ e => PyData.eqv e d := by
      rw [show its.toArray.any (ansOf 7 H d) = its.any (ansOf 7 H d) by simp]
      exact any_items r he λ y u e ru hy => ansOf_eq ru hy
    refine ⟨λ q => SeqAt.in_tupleAt (ansOf 7 H d) l (λ w hw => each_item I hu hx rx r he w (by simpa using hw)) ⟨.bl _, H, I, rfl, ?_⟩, λ q => SeqAt.notIn_tupleAt (ansOf 7 H d) l (λ w hw => each_item I hu hx rx r he w (by simpa using hw)) ⟨.bl _, H, I, rfl, ?_⟩⟩ <;> (rw [ea]; exact q)
theorem op_inG {k : Nat} (hr : Room k X.A) : OpR X (compareOp .In) (inG false) := λ pins s σ H x y v u Q I rx ry h => by
  unfold inG at h
  simp only [Bool.false_bne] at h
  split at h
  . cases ry
    split at h
    . split at h
      . exact (in_D hr I (.inl (by assumption)) (by assumption) (by assumption) rx).1 (by simpa using h)
      . exact h.elim
    . split at h
      . exact (in_D hr I (.inr (by assumption)) (by assumption) (by assumption) rx).1 (by simpa using h)
      . exact h.elim
    . split at h
      . exact d_in (hu_of hr) I (dLook_get (by assumption)) rx λ s' I' => ⟨.bl _, H, I', rfl, by simpa using h⟩
      . exact h.elim
  . split at h
    . exact op_in_str pins s σ H _ _ v u Q I rx ry ⟨_, _, rfl, rfl, by simpa using h⟩
    . exact h.elim
  . exact h.elim
theorem op_notInG {k : Nat} (hr : Room k X.A) : OpR X (compareOp .NotIn) (inG true) := λ pins s σ H x y v u Q I rx ry h => by
  unfold inG at h
  split at h
  . cases ry
    split at h
    . split at h
      . exact (in_D hr I (.inl (by assumption)) (by assumption) (by assumption) rx).2 (by simpa using h)
      . exact h.elim
    . split at h
      . exact (in_D hr I (.inr (by assumption)) (by assumption) (by assumption) rx).2 (by simpa using h)
      . exact h.elim
    . split at h
      . exact d_notIn (hu_of hr) I (dLook_get (by assumption)) rx λ s' I' => ⟨.bl _, H, I', rfl, by simpa using h⟩
      . exact h.elim
  . split at h
    . exact op_notin_str pins s σ H _ _ v u Q I rx ry ⟨_, _, rfl, rfl, by simpa using h⟩
    . exact h.elim
  . exact h.elim
noncomputable def ltG : R2 := λ x y H Q => match x, y with
  | .int i, .int j => Q (.bl (decide (i < j))) H
  | .str i, .str j => Q (.bl (decide (i.cps.toList < j.cps.toList))) H
  | _, _ => False
noncomputable def leG : R2 := λ x y H Q => match x, y with
  | .int i, .int j => Q (.bl (decide (i <= j))) H
  | .str i, .str j => Q (.bl (!decide (j.cps.toList < i.cps.toList))) H
  | _, _ => False
noncomputable def gtG : R2 := λ x y H Q => match x, y with
  | .int i, .int j => Q (.bl (decide (j < i))) H
  | _, _ => False
noncomputable def geG : R2 := λ x y H Q => match x, y with
  | .int i, .int j => Q (.bl (decide (j <= i))) H
  | _, _ => False
theorem op_ltG : OpR X (compareOp .Lt) ltG := OpR.imp (OpR.or op_lt op_lt_str) λ x y H Q h => by
  unfold ltG at h
  split at h
  . exact .inl ⟨_, _, rfl, rfl, h⟩
  . exact .inr ⟨_, _, rfl, rfl, h⟩
  . exact h.elim
theorem op_leG : OpR X (compareOp .LtE) leG := OpR.imp (OpR.or op_le op_le_str) λ x y H Q h => by
  unfold leG at h
  split at h
  . exact .inl ⟨_, _, rfl, rfl, h⟩
  . exact .inr ⟨_, _, rfl, rfl, h⟩
  . exact h.elim
theorem op_gtG : OpR X (compareOp .Gt) gtG := OpR.imp op_gt λ x y H Q h => by
  unfold gtG at h
  split at h
  . exact ⟨_, _, rfl, rfl, h⟩
  . exact h.elim
theorem op_geG : OpR X (compareOp .GtE) geG := OpR.imp op_ge λ x y H Q h => by
  unfold geG at h
  split at h
  . exact ⟨_, _, rfl, rfl, h⟩
  . exact h.elim
noncomputable def isG (neg : Bool) : R2 := λ x y H Q => match y with
  | .non => Q (.bl (neg ^^ decide (x = .non))) H
  | .bl b => Q (.bl (neg ^^ decide (x = .bl b))) H
  | _ => False
end
section
variable {X : Cx} {pins : List (Addr × Obj)} {σ : St} {H : Hp} {s : Shared}
theorem op_isG : OpR X (compareOp .Is) (isG false) := λ pins s σ H x y v u Q I rx ry h => by
  unfold isG at h
  split at h
  . exact op_isN pins s σ H x _ v u Q I rx ry ⟨rfl, by simpa using h⟩
  . rename_i b
    cases ry
    have e : (v == Value.bool b) = decide (x = .bl b) := by
      cases x <;> first
        | (cases rx; rfl)
        | (obtain ⟨t, rfl⟩ := rx; rfl)
        | (cases rx; rename_i c; cases b <;> cases c <;> rfl)
    refine wpAny_is_plain (by cases x <;> first | (cases rx; rfl) | (obtain ⟨t, rfl⟩ := rx; rfl)) ⟨.bl _, H, I, rfl, ?_⟩
    rw [e]
    simpa using h
  . exact h.elim
theorem op_isNotG : OpR X (compareOp .IsNot) (isG true) := λ pins s σ H x y v u Q I rx ry h => by
  unfold isG at h
  split at h
  . exact op_notN pins s σ H x _ v u Q I rx ry ⟨rfl, by simpa using h⟩
  . rename_i b
    cases ry
    have e : (v == Value.bool b) = decide (x = .bl b) := by
      cases x <;> first
        | (cases rx; rfl)
        | (obtain ⟨t, rfl⟩ := rx; rfl)
        | (cases rx; rename_i c; cases b <;> cases c <;> rfl)
    refine wpAny_isNot_plain (by cases x <;> first | (cases rx; rfl) | (obtain ⟨t, rfl⟩ := rx; rfl)) ⟨.bl _, H, I, rfl, ?_⟩
    rw [show (!(v == Value.bool b)) = !decide (x = .bl b) by rw [e]]
    simpa using h
  . exact h.elim
noncomputable def cmpG : CmpOp -> R2
  | .Eq => eqG | .NotEq => neG | .Lt => ltG | .LtE => leG | .Gt => gtG | .GtE => geG | .In => inG false | .NotIn => inG true | .Is => isG false | .IsNot => isG true
theorem op_cmpG {k : Nat} (hr : Room k X.A) : ∀ op, OpR X (compareOp op) (cmpG op)
  | .Eq => op_eqG hr | .NotEq => op_neG hr | .Lt => op_ltG | .LtE => op_leG | .Gt => op_gtG | .GtE => op_geG | .In => op_inG hr | .NotIn => op_notInG hr | .Is => op_isG | .IsNot => op_isNotG
@[irreducible] noncomputable def truH (p : Addr) (H : Hp) (Q : Bool -> Hp -> Prop) : Prop := match H p with
  | some (.lst xs) => Q (!xs.isEmpty) H
  | some (.tup xs) => Q (!xs.isEmpty) H
  | some (.dK kvs) => Q (!kvs.isEmpty) H
  | _ => False
noncomputable def truG (x : V) (H : Hp) (Q : Bool -> Hp -> Prop) : Prop := match x with
  | .non => Q false H
  | .bl b => Q b H
  | .int i => Q (i != 0) H
  | .str y => y.length <= sizeLine /\ Q ((y.length : Int) != 0) H
  | .ref p => truH p H Q
  | _ => False
theorem truG_of {x : V} {H : Hp} {Q : Bool -> Hp -> Prop} {K : PySem.W.Frag} (h : truG x H Q) : ∃ k, TruV K x H k /\ Q k H := by
  unfold truG at h
  split at h
  . exact ⟨_, rfl, h⟩
  . exact ⟨_, rfl, h⟩
  . exact ⟨_, rfl, h⟩
  . exact ⟨_, ⟨h.1, rfl⟩, h.2⟩
  . unfold truH at h
    split at h
    . exact ⟨_, .inl ⟨_, .inl (.inl (by assumption)), rfl⟩, h⟩
    . exact ⟨_, .inr (.inl ⟨_, .inl (.inl (by assumption)), rfl⟩), h⟩
    . exact ⟨_, .inr (.inr ⟨_, by assumption, rfl⟩), h⟩
    . exact h.elim
  . exact h.elim
noncomputable def ptG (t : TE) : TT := λ σ H Q => t σ H λ x H1 => truG x H1 Q
theorem pt_G {e : Expr} {t : TE} (h : PE X e t) (he : ∀ whole, isTrue e X.env whole = (do let v ← whole; standAt e.pos; holding [v] (truthy v))) : PT X e (ptG t) := by
  intro pins s σ H Q I q
  rw [he]
  refine wpAny_bind (thn (h pins s σ H _ I q) λ v s1 ⟨x, H1, I1, r1, q1⟩ => wpAny_bind (wpAny_standAt (wpAny_holding ?_)))
  exact tru_ok pins s1 σ H1 x v Q I1 r1 (truG_of q1)
end
noncomputable def moE (t : TE) : TE := λ σ H Q => ∃ Q0 : VK, t σ H Q0 /\ ∀ v H', Q0 v H' -> Q v H'
noncomputable def moT (t : TT) : TT := λ σ H Q => ∃ Q0 : Bool -> Hp -> Prop, t σ H Q0 /\ ∀ v H', Q0 v H' -> Q v H'
noncomputable def moA (t : TA) : TA := λ σ H Q => ∃ Q0 : List V -> Hp -> Prop, t σ H Q0 /\ ∀ v H', Q0 v H' -> Q v H'
section
variable {X : Cx} {e a b c o : Expr} {te ta tb tc to : TE} {t u : TT} {es : List Expr} {tas : TA}
theorem PE.mo (h : PE X e te) : PE X e (moE te) := λ pins s σ H Q I ⟨Q0, q, i⟩ => thn (h pins s σ H Q0 I q) λ v s1 ⟨x, H1, I1, r1, q1⟩ => ⟨x, H1, I1, r1, i x H1 q1⟩
theorem PT.mo (h : PT X e t) : PT X e (moT t) := λ pins s σ H Q I ⟨Q0, q, i⟩ => thn (h pins s σ H Q0 I q) λ v s1 ⟨H1, I1, q1⟩ => ⟨H1, I1, i v H1 q1⟩
theorem PA.mo (h : PA X es tas) : PA X es (moA tas) := λ pos pins s σ H Q I ⟨Q0, q, i⟩ => thn (h pos pins s σ H Q0 I q) λ v s1 ⟨x, H1, I1, r1, q1⟩ => ⟨x, H1, I1, r1, i x H1 q1⟩
noncomputable def tAndG (ta tb : TE) : TE := λ σ H Q => ta σ H λ x H1 => match x with
  | .bl c => br c (tb σ H1 Q) (Q (.bl false) H1)
  | _ => False
noncomputable def tOrG (ta tb : TE) : TE := λ σ H Q => ta σ H λ x H1 => match x with
  | .bl c => br c (Q (.bl true) H1) (tb σ H1 Q)
  | _ => False
noncomputable def tNotG (ta : TE) : TE := λ σ H Q => ta σ H λ x H1 => match x with
  | .bl c => Q (.bl (!c)) H1
  | _ => False
noncomputable def tIfG (t : TT) (ta tb : TE) : TE := λ σ H Q => t σ H λ c H1 => br c (ta σ H1 Q) (tb σ H1 Q)
variable {rest : List Expr} {pos : Pos}
theorem pe_andG (ha : PE X a ta) (hb : PE X (.BoolOp .And (b :: rest) pos) tb) : PE X (.BoolOp .And (a :: b :: rest) pos) (tAndG ta tb) :=
  PE.imp (pe_and (PE.mo ha) hb) λ σ H Q h => ⟨_, h, λ x H1 q => by
    cases x <;> first | exact ⟨_, rfl, br_ite q⟩ | exact q.elim⟩
theorem pe_orG (ha : PE X a ta) (hb : PE X (.BoolOp .Or (b :: rest) pos) tb) : PE X (.BoolOp .Or (a :: b :: rest) pos) (tOrG ta tb) :=
  PE.imp (pe_or (PE.mo ha) hb) λ σ H Q h => ⟨_, h, λ x H1 q => by
    cases x <;> first | exact ⟨_, rfl, br_ite q⟩ | exact q.elim⟩
theorem pe_notG (ha : PE X a ta) : PE X (.UnaryOp .Not a pos) (tNotG ta) :=
  PE.imp (pe_not (PE.mo ha)) λ σ H Q h => ⟨_, h, λ x H1 q => by
    cases x <;> first | exact ⟨_, rfl, q⟩ | exact q.elim⟩
theorem pe_ifG (hc : PT X c t) (ha : PE X a ta) (hb : PE X b tb) : PE X (.IfExp c a b pos) (tIfG t ta tb) :=
  PE.imp (pe_ifExp (PT.mo hc) ha hb) λ σ H Q h => ⟨_, h, λ x H1 q => br_ite q⟩
noncomputable def negG : V -> Hp -> VK -> Prop := λ x H Q => match x with
  | .int i => Q (.int (-i)) H
  | _ => False
theorem un_negG : UnR X (unaryOp .USub) negG := λ pins s σ H x v Q I r h => by
  cases x <;> first | exact un_neg pins s σ H _ v Q I r ⟨_, rfl, h⟩ | exact h.elim
noncomputable def chainG (r r' : R2) (ta tb tc : TE) : TE := λ σ H Q => ta σ H λ x H1 => tb σ H1 λ y H2 => r x y H2 λ z H3 => match z with
  | .bl k => br k (tc σ H3 λ w' H4 => r' y w' H4 Q) (Q (.bl false) H3)
  | _ => False
noncomputable def moR (r : R2) : R2 := λ x y H Q => ∃ Q0 : VK, r x y H Q0 /\ ∀ v H', Q0 v H' -> Q v H'
theorem OpR.mo {f : Value -> Value -> Sem Value} {r : R2} (h : OpR X f r) : OpR X f (moR r) := λ pins s σ H x y v u Q I rx ry ⟨Q0, q, i⟩ => thn (h pins s σ H x y v u Q0 I rx ry q) λ w' s1 ⟨z, H1, I1, r1, q1⟩ => ⟨z, H1, I1, r1, i z H1 q1⟩
theorem pe_chainG {op op' : CmpOp} {r r' : R2} (ho : OpR X (compareOp op) r) (ho' : OpR X (compareOp op') r') (ha : PE X a ta) (hb : PE X b tb) (hc : PE X c tc) (hm : lastMarks [op, op'] [b, c] = false) : PE X (.Compare a [op, op'] [b, c] pos) (chainG r r' ta tb tc) :=
  PE.imp (pe_chain (OpR.mo ho) ho' (PE.mo ha) (PE.mo hb) hc hm) λ σ H Q h => ⟨_, h, λ x H1 q => ⟨_, q, λ y H2 q2 => ⟨_, q2, λ z H3 q3 => by
    cases z <;> first | exact ⟨_, rfl, br_ite q3⟩ | exact q3.elim⟩⟩⟩
noncomputable def bT (t : TE) : TT := λ σ H Q => t σ H λ x H1 => match x with
  | .bl k => Q k H1
  | _ => False
theorem pt_cmpG {op : CmpOp} {r : R2} (ho : OpR X (compareOp op) r) (ha : PE X a ta) (hb : PE X b tb) (hm : behindInMarks op b = false) : PT X (.Compare a [op] [b] pos) (bT (tOp r ta tb)) :=
  PT.imp (pt_cmpR (OpR.mo ho) (PE.mo ha) (PE.mo hb) hm) λ σ H Q h => ⟨_, h, λ x H1 q => ⟨_, q, λ y H2 q2 => ⟨_, q2, λ z H3 q3 => by
    cases z <;> first | exact ⟨_, rfl, q3⟩ | exact q3.elim⟩⟩⟩
theorem pt_chainG {op op' : CmpOp} {r r' : R2} (ho : OpR X (compareOp op) r) (ho' : OpR X (compareOp op') r') (ha : PE X a ta) (hb : PE X b tb) (hc : PE X c tc) (hm : lastMarks [op, op'] [b, c] = false) : PT X (.Compare a [op, op'] [b, c] pos) (bT (chainG r r' ta tb tc)) :=
  PT.imp (pt_chain (OpR.mo ho) (OpR.mo ho') (PE.mo ha) (PE.mo hb) (PE.mo hc) hm) λ σ H Q h => ⟨_, h, λ x H1 q => ⟨_, q, λ y H2 q2 => ⟨_, q2, λ z H3 q3 => by
    cases z with
    | bl k =>
      refine ⟨k, rfl, ?_⟩
      have q3 := br_ite q3
      cases k with
      | true => exact ⟨_, q3, λ w' H4 q4 => ⟨_, q4, λ z' H5 q5 => by cases z' <;> first | exact ⟨_, rfl, q5⟩ | exact q5.elim⟩⟩
      | false => exact ⟨false, rfl, q3⟩
    | _ => exact q3.elim⟩⟩⟩
noncomputable def tAndB (t u : TT) : TT := λ σ H Q => t σ H λ c H1 => br c (u σ H1 Q) (Q false H1)
noncomputable def tOrB (t u : TT) : TT := λ σ H Q => t σ H λ c H1 => br c (Q true H1) (u σ H1 Q)
theorem pw_andB (ha : PT X a t) (hb : PW X (.BoolOp .And (b :: rest) pos) u) : PW X (.BoolOp .And (a :: b :: rest) pos) (tAndB t u) := λ wh pins s σ H Q I h =>
  pw_and (PT.mo ha) hb wh pins s σ H Q I ⟨_, h, λ c H1 q => br_ite q⟩
theorem pw_orB (ha : PT X a t) (hb : PW X (.BoolOp .Or (b :: rest) pos) u) : PW X (.BoolOp .Or (a :: b :: rest) pos) (tOrB t u) := λ wh pins s σ H Q I h =>
  pw_or (PT.mo ha) hb wh pins s σ H Q I ⟨_, h, λ c H1 q => br_ite q⟩
@[irreducible] noncomputable def fldK (cl : Addr) (f : Str) (x : V) (H1 : Hp) (Q : VK) : Prop := match x with
  | .ref p => match H1 p with
    | some (.ins C dx fs) => C = cl /\ match fs.lookup f with
      | some v => Q v H1
      | none => False
    | _ => False
  | _ => False
noncomputable def tFldG (cl : Addr) (f : Str) (to : TE) : TE := λ σ H Q => to σ H λ x H1 => fldK cl f x H1 Q
theorem pe_fldG {cl : Addr} {f : Str} (cc : Cls X.K cl) (n : NoAttr X.K cl f) (ho : PE X o to) (hb : attributeBase o f X.env (eval o X.env) = eval o X.env) : PE X (.Attribute o f pos) (tFldG cl f to) :=
  PE.imp (pe_fld0 cc n (PE.mo ho) hb) λ σ H Q h => ⟨_, h, λ x H1 q => by
    unfold fldK at q
    split at q
    . split at q
      . obtain ⟨rfl, q⟩ := q
        split at q
        . exact ⟨_, _, _, _, rfl, by assumption, by assumption, q⟩
        . exact q.elim
      . exact q.elim
    . exact q.elim⟩
@[irreducible] noncomputable def methK (cl : Addr) (m : Str) (x : V) (H1 : Hp) (R : Prop) : Prop := match x with
  | .ref p => match H1 p with
    | some (.ins C dx fs) => C = cl /\ fs.lookup m = none /\ R
    | _ => False
  | _ => False
noncomputable def tMethG (cl : Addr) (m : Str) (sp : Sp) (E : XK) (to : TE) (t : TA) : TE := λ σ H Q => to σ H λ x H1 => methK cl m x H1 (t σ H1 λ vs H2 => sp (x :: (vs ++ [])) H2 Q E)
noncomputable def notSuper : Expr -> Bool
  | .Call (.Name id _) [] [] _ => id != "super"
  | _ => true
theorem base_of {f : Str} {env : Env} {w : Sem Value} (h : notSuper o = true) : attributeBase o f env w = w := by
  unfold attributeBase
  split
  . rename_i id _ _
    have h' : (id != "super") = true := h
    simp [h']
  . rfl
end
noncomputable def dictO : HO -> Bool
  | .dK _ => true
  | .dT _ => true
  | _ => false
noncomputable abbrev Th := Option (Addr × HO)
noncomputable def NF (X : Cx) (a : Addr) : Prop := ∀ o u, X.H₀ a ≠ some (.frz o u)
section
variable {X : Cx} {pins : List (Addr × Obj)} {σ : St} {H : Hp} {s : Shared} {a : Addr} {u : HO} {o : Obj}
theorem obj_at (hd : dictO u = true) {P : Program} {w : World} {h : Heap} (x : ObjOk P w H h a u) : ∃ o, h.get? a = some o := by
  cases u <;> first | (cases hd; done) | skip
  . obtain ⟨_, _, vs, _, ob, es, ep, e, _⟩ := x
    exact ⟨ob, e⟩
  . obtain ⟨_, _, xs, _, ob, es, ep, e, _⟩ := x
    exact ⟨ob, e⟩
theorem inv_word {v u' : HO} (I : Inv X pins σ H s) (h : H a = some v) (hv : ∀ xs, v ≠ .tup xs) (ho : ∀ b, v ≠ .own b) (hb : ∀ ps, v ≠ .tbl ps) (nf : (∀ o u, v ≠ .frz o u) \/ NF X a) (new : ObjOk X.prog X.w H s.heap a u') : Inv X pins σ (upd H a u') s := by
  have ne : ∀ b w, H b = some w -> w ≠ v -> b ≠ a := λ b w e hw z => by
    rw [z, h] at e
    cases e
    exact hw rfl
  have non : ∀ b, H b = none -> b ≠ a := λ b e z => by rw [z, h] at e; cases e
  have ou : ∀ b c, H b = some (.own c) -> upd H a u' b = some (.own c) := λ b c e => by
    rw [upd_ne (ne b _ e λ z => ho _ z.symm)]
    exact e
  have tu : ∀ b xs, H b = some (.tup xs) -> upd H a u' b = some (.tup xs) := λ b xs e => by
    rw [upd_ne (ne b _ e λ z => hv _ z.symm)]
    exact e
  refine ⟨I.ok, I.os, I.bare, ?_, I.loc, I.cell, ?_, λ x c e => ?_, λ p hp => ?_, λ b w e => ?_, I.len⟩
  . refine ⟨I.base.keep, I.base.slot, λ b ob e n x => ?_, I.base.there, λ b xs e => tu b xs (I.base.tups b xs e), λ b ob w e => ?_, λ b ps e => ?_⟩
    . have := I.base.free b ob e n x
      rw [upd_ne (non b this)]
      exact this
    . have q := I.base.frzs b ob w e
      by_cases z : b = a
      . subst z
        rcases nf with nf | nf
        . rw [h] at q
          cases q
          exact absurd rfl (nf _ _)
        . exact absurd e (nf _ _)
      . rw [upd_ne z]
        exact q
    . obtain ⟨more, q⟩ := I.base.tbls b ps e
      refine ⟨more, ?_⟩
      rw [upd_ne (ne b _ q λ z => hb _ z.symm)]
      exact q
  . rw [upd_ne (non _ I.free)]
    exact I.free
  . rw [upd_ne (non _ (I.freeC x c e))]
    exact I.freeC x c e
  . obtain ⟨p1, p2, r⟩ := I.pin p hp
    refine ⟨p1, ?_, r⟩
    rw [upd_ne (non _ p2)]
    exact p2
  . by_cases z : b = a
    . subst z
      rw [upd_same] at e
      cases e
      exact new.stay (λ _ _ _ q => q) (λ c q => ou c _ q) tu
    . rw [upd_ne z] at e
      exact (I.hok b w e).stay (λ _ _ _ q => q) (λ c q => ou c _ q) tu
theorem inv_freeze (I : Inv X pins σ H s) (h : H a = some u) (hd : dictO u = true) : NF X a /\ ∃ o, s.heap.get? a = some o /\ Inv X pins σ (upd H a (.frz o u)) s := by
  have ok := I.hok a u h
  obtain ⟨o, e⟩ := obj_at hd ok
  have nf : ∀ o v, u ≠ .frz o v := λ o v z => by rw [z] at hd; cases hd
  refine ⟨λ ob v z => ?_, o, e, ?_⟩
  . have := I.base.frzs a ob v z
    rw [h] at this
    cases this
    exact nf _ _ rfl
  . exact inv_word I h (λ xs z => by rw [z] at hd; cases hd) (λ xs z => by rw [z] at hd; cases hd) (λ xs z => by rw [z] at hd; cases hd) (.inl nf) ⟨e, ok⟩
theorem inv_thaw (I : Inv X pins σ H s) (h : H a = some (.frz o u)) (nf : NF X a) : Inv X pins σ (upd H a u) s := by
  obtain ⟨_, ok⟩ := I.hok a _ h
  exact inv_word I h (λ xs z => by cases z) (λ xs z => by cases z) (λ xs z => by cases z) (.inr nf) ok
end
noncomputable abbrev TI2 := St -> Hp -> (It -> Hp -> Th -> Prop) -> Prop
noncomputable def PIE2 (X : Cx) (pins : List (Addr × Obj)) (σ : St) (tg : Expr) (R : It -> Hp -> Th -> Prop) (itv : Value) (s2 : Shared) : Prop := ∃ th : Th, (∀ a u, th = some (a, u) -> NF X a) /\ PIE X pins σ tg (λ J H => R J H th) itv s2
noncomputable def PI2 (X : Cx) (tg iter : Expr) (wi : TI2) : Prop :=
  ∀ (pins : List (Addr × Obj)) (s : Shared) (σ : St) (H : Hp) (R : It -> Hp -> Th -> Prop), Inv X pins σ H s -> wi σ H R →
    wpAny (model X.prog X.w) X.A (eval iter X.env) (λ v s1 => wpAny (model X.prog X.w) X.A (pyIter v) (PIE2 X pins σ tg R) X.xe s1) X.xe s
noncomputable def thD (th : Th) (D : Ends) : Ends := match th with
  | none => D
  | some (a, u) => ⟨λ σ H => (∃ o, H a = some (.frz o u)) /\ D.nx σ (upd H a u), λ v H => (∃ o, H a = some (.frz o u)) /\ D.rt v (upd H a u), λ σ H => (∃ o, H a = some (.frz o u)) /\ D.bk σ (upd H a u), λ σ H => (∃ o, H a = some (.frz o u)) /\ D.ct σ (upd H a u)⟩
noncomputable def thQ (th : Th) (Q : VK) : VK := match th with
  | none => Q
  | some (a, u) => λ v H => (∃ o, H a = some (.frz o u)) /\ Q v (upd H a u)
@[irreducible] noncomputable def loopJ (J : It) (g : TG) (tb : TS) (D : Ends) (σ : St) (H : Hp) : Prop := ∃ W : Nat -> Nat -> St -> Hp -> Prop, (∃ m, W 0 m σ H) /\ ∀ i m σ H, W i m σ H →
  (J.stop i H /\ D.nx σ H) \/ (J.go i H /\ ∃ N : St -> Hp -> Prop, (∀ σ' H', N σ' H' -> ∃ m', m' < m /\ W (i + 1) m' σ' H') /\ ∀ x H', J.yld i H x H' -> g x σ H' λ σ2 H2 => tb { D with nx := N, ct := N, bk := D.nx } σ2 H2)
@[irreducible] noncomputable def compJ (J : It) (tn : List Str) (fr : List (Str × Nat)) (g : TG) (tt : TT) (te : TE) (σ : St) (H1 : Hp) (Q : VK) : Prop := ∀ p, H1 p = none →
  ∃ W : Nat -> Nat -> Hp -> Prop, (∃ m, W 0 m (upd H1 p (.lst []))) /\ ∀ i m G, W i m G →
    (J.stop i G /\ Q (.ref p) G) \/ (J.go i G /\ ∃ N : Hp -> Prop, (∀ G', N G' -> ∃ m', m' < m /\ W (i + 1) m' G') /\ ∀ x G', J.yld i G x G' →
      g x (inn tn fr σ) G' λ σ2 G2 => tt σ2 G2 λ b G3 => br b (te σ2 G3 λ y G4 => ∃ ys, G4 p = some (.lst ys) /\ ys.length < sizeLine /\ N (upd G4 p (.lst (ys ++ [y])))) (N G3))
@[irreducible] noncomputable def sFor (wi : TI2) (g : TG) (tb : TS) : TS := λ D σ H => wi σ H λ J H1 th => loopJ J g tb (thD th D) σ H1
@[irreducible] noncomputable def tCompI (wi : TI2) (tn : List Str) (fr : List (Str × Nat)) (g : TG) (tt : TT) (te : TE) : TE := λ σ H Q => wi σ H λ J H1 th => compJ J tn fr g tt te σ H1 (thQ th Q)
theorem sFor_i {wi : TI2} {g : TG} {tb : TS} {D : Ends} {σ : St} {H : Hp} (h : wi σ H λ J H1 th => loopJ J g tb (thD th D) σ H1) : sFor wi g tb D σ H := by
  unfold sFor
  exact h
theorem comp_i {wi : TI2} {tn : List Str} {fr : List (Str × Nat)} {g : TG} {tt : TT} {te : TE} {σ : St} {H : Hp} {Q : VK} (h : wi σ H λ J H1 th => compJ J tn fr g tt te σ H1 (thQ th Q)) : tCompI wi tn fr g tt te σ H Q := by
  unfold tCompI
  exact h
noncomputable def Ends.le (D D' : Ends) : Prop := (∀ σ H, D.nx σ H -> D'.nx σ H) /\ (∀ v H, D.rt v H -> D'.rt v H) /\ (∀ σ H, D.bk σ H -> D'.bk σ H) /\ ∀ σ H, D.ct σ H -> D'.ct σ H
noncomputable def moS (t : TS) : TS := λ D σ H => ∃ D0 : Ends, t D0 σ H /\ Ends.le D0 D
noncomputable def moG (g : TG) : TG := λ v σ H Q => ∃ Q0 : St -> Hp -> Prop, g v σ H Q0 /\ ∀ σ' H', Q0 σ' H' -> Q σ' H'
section
variable {X : Cx} {tg it : Expr}
theorem SP.le {pins : List (Addr × Obj)} {D D' : Ends} {f : Flow} {s : Shared} (h : SP X pins D f s) (l : Ends.le D D') : SP X pins D' f s := by
  cases f with
  | next => obtain ⟨σ, H, I, q⟩ := h; exact ⟨σ, H, I, l.1 _ _ q⟩
  | brk => obtain ⟨σ, H, I, q⟩ := h; exact ⟨σ, H, I, l.2.2.1 _ _ q⟩
  | cont => obtain ⟨σ, H, I, q⟩ := h; exact ⟨σ, H, I, l.2.2.2 _ _ q⟩
  | ret u => obtain ⟨v, σ, H, I, r, q⟩ := h; exact ⟨v, σ, H, I, r, l.2.1 _ _ q⟩
theorem PSs.mo {ss : List Stmt} {t : TS} (h : PSs X ss t) : PSs X ss (moS t) := λ pins s σ H D I ⟨D0, q, l⟩ => thn (h pins s σ H D0 I q) λ f s' sp => SP.le sp l
theorem PG.mo {g : TG} (h : PG X tg g) : PG X tg (moG g) := λ pins s σ H v u Q I r ⟨Q0, q, l⟩ => thn (h pins s σ H v u Q0 I r q) λ _ s' ⟨σ', H', I', q'⟩ => ⟨σ', H', I', l _ _ q'⟩
noncomputable def anyD (X : Cx) (D : Ends) : Ends := ⟨λ σ H => D.nx σ H \/ ∃ a o u, NF X a /\ H a = some (.frz o u) /\ D.nx σ (upd H a u), λ v H => D.rt v H \/ ∃ a o u, NF X a /\ H a = some (.frz o u) /\ D.rt v (upd H a u),
  λ σ H => D.bk σ H \/ ∃ a o u, NF X a /\ H a = some (.frz o u) /\ D.bk σ (upd H a u), λ σ H => D.ct σ H \/ ∃ a o u, NF X a /\ H a = some (.frz o u) /\ D.ct σ (upd H a u)⟩
theorem thD_any {th : Th} {D : Ends} (hn : ∀ a u, th = some (a, u) -> NF X a) : Ends.le (thD th D) (anyD X D) := by
  cases th with
  | none => exact ⟨λ _ _ h => .inl h, λ _ _ h => .inl h, λ _ _ h => .inl h, λ _ _ h => .inl h⟩
  | some p =>
    obtain ⟨a, u⟩ := p
    have nf := hn a u rfl
    exact ⟨λ _ _ ⟨⟨o, e⟩, h⟩ => .inr ⟨a, o, u, nf, e, h⟩, λ _ _ ⟨⟨o, e⟩, h⟩ => .inr ⟨a, o, u, nf, e, h⟩, λ _ _ ⟨⟨o, e⟩, h⟩ => .inr ⟨a, o, u, nf, e, h⟩, λ _ _ ⟨⟨o, e⟩, h⟩ => .inr ⟨a, o, u, nf, e, h⟩⟩
theorem SP.thaw {pins : List (Addr × Obj)} {D : Ends} {f : Flow} {s : Shared} (h : SP X pins (anyD X D) f s) : SP X pins D f s := by
  cases f with
  | next =>
    obtain ⟨σ, H, I, q | ⟨a, o, u, nf, e, q⟩⟩ := h
    . exact ⟨σ, H, I, q⟩
    . exact ⟨σ, _, inv_thaw I e nf, q⟩
  | brk =>
    obtain ⟨σ, H, I, q | ⟨a, o, u, nf, e, q⟩⟩ := h
    . exact ⟨σ, H, I, q⟩
    . exact ⟨σ, _, inv_thaw I e nf, q⟩
  | cont =>
    obtain ⟨σ, H, I, q | ⟨a, o, u, nf, e, q⟩⟩ := h
    . exact ⟨σ, H, I, q⟩
    . exact ⟨σ, _, inv_thaw I e nf, q⟩
  | ret v =>
    obtain ⟨w, σ, H, I, r, q | ⟨a, o, u, nf, e, q⟩⟩ := h
    . exact ⟨w, σ, H, I, r, q⟩
    . exact ⟨w, σ, _, inv_thaw I e nf, r, q⟩
noncomputable def oldI (X : Cx) (wi : TI2) : TI := λ σ H R => ∃ R0 : It -> Hp -> Th -> Prop, wi σ H R0 /\ ∀ J H1 th, (∀ a u, th = some (a, u) -> NF X a) -> R0 J H1 th -> R J H1
theorem pi_old {wi : TI2} (h : PI2 X tg it wi) : PI X tg it (oldI X wi) := λ pins s σ H R I ⟨R0, q, l⟩ => thn (h pins s σ H R0 I q) λ v s1 h1 => thn h1 λ itv s2 ⟨th, nf, a, b, c, d, e, f, g, i, j, k, m⟩ => ⟨a, b, c, d, e, f, g, i, j, k, l _ _ _ nf m⟩
theorem ps_for2 {wi : TI2} {g : TG} {tb : TS} {body : List Stmt} {pos : Pos} (hp : PassesOwn (model X.prog X.w) X.A X.env X.xe) (hc : X.calm = true) (hi : PI2 X tg it wi) (hg : PG X tg g) (hb : PSs X body tb)
    (hs : ∀ x, foldedSetIterable it X.env x = pure x) : PS X (.For tg it body [] pos) (sFor wi g tb) := by
  intro pins s σ H D I h
  unfold sFor at h
  refine thn (ps_for hp hc (pi_old hi) (PG.mo hg) (PSs.mo hb) hs pins s σ H (anyD X D) I ⟨_, h, λ J H1 th nf q => ?_⟩) λ f s' sp => SP.thaw sp
  have le := thD_any (X := X) (D := D) nf
  unfold loopJ at q
  obtain ⟨W, h0, hs⟩ := q
  refine ⟨W, h0, λ i m σ H w => ?_⟩
  rcases hs i m σ H w with ⟨st, nx⟩ | ⟨go, N, hN, step⟩
  . exact .inl ⟨st, le.1 _ _ nx⟩
  . exact .inr ⟨go, N, hN, λ x H' y => ⟨_, step x H' y, λ σ2 H2 q => ⟨_, q, λ _ _ z => z, le.2.1, le.1, λ _ _ z => z⟩⟩⟩
noncomputable def anyQ (X : Cx) (Q : VK) : VK := λ v H => Q v H \/ ∃ a o u, NF X a /\ H a = some (.frz o u) /\ Q v (upd H a u)
theorem thQ_any {th : Th} {Q : VK} (hn : ∀ a u, th = some (a, u) -> NF X a) : ∀ v H, thQ th Q v H -> anyQ X Q v H := by
  cases th with
  | none => exact λ _ _ h => .inl h
  | some p =>
    obtain ⟨a, u⟩ := p
    exact λ _ _ ⟨⟨o, e⟩, h⟩ => .inr ⟨a, o, u, hn a u rfl, e, h⟩
theorem compI_old {wi : TI2} {tn : List Str} {fr : List (Str × Nat)} {g : TG} {tt : TT} {te : TE} {σ : St} {H : Hp} {Q : VK} (h : tCompI wi tn fr g tt te σ H Q) : tComp (oldI X wi) tn fr g tt te σ H (anyQ X Q) := by
  unfold tCompI at h
  refine ⟨_, h, λ J H1 th nf q => ?_⟩
  unfold compJ at q
  intro p hp
  obtain ⟨W, h0, hs⟩ := q p hp
  refine ⟨W, h0, λ i m G w => ?_⟩
  rcases hs i m G w with ⟨st, q⟩ | r
  . exact .inl ⟨st, thQ_any nf _ _ q⟩
  . exact .inr r
end
noncomputable def Itd (a : Addr) (o : Obj) (kvs : List (Key × V)) : It := ⟨λ i H => H a = some (.frz o (.dK kvs)) /\ i < kvs.length, λ i H x H' => H' = H /\ ∃ k v, kvs[i]? = some (k, v) /\ x = kV k, λ i H => H a = some (.frz o (.dK kvs)) /\ kvs.length <= i⟩
noncomputable def Itp (a : Addr) (o : Obj) (kvs : List (Key × V)) : It := ⟨λ i H => H a = some (.frz o (.dK kvs)) /\ i < kvs.length, λ i H x H' => ∃ k v t, kvs[i]? = some (k, v) /\ x = .ref t /\ H t = none /\ H' = upd H t (.tup [kV k, v]), λ i H => H a = some (.frz o (.dK kvs)) /\ kvs.length <= i⟩
theorem key_rel {P : Program} {w : World} {k : Key} {v : Value} (h : (mixKind P w).is k v = true) : RelV (kV k) v := by
  rcases keyIs_shape (show keyIs k v = true from h) with ⟨i, t, rfl, rfl⟩ | ⟨x, t, rfl, rfl⟩
  . exact ⟨t, rfl⟩
  . exact ⟨t, rfl⟩
theorem KV.get {kvs : List (Key × V)} {vs : List (Key × Value)} : KV kvs vs -> ∀ {i : Nat} {k : Key} {v : V}, kvs[i]? = some (k, v) -> ∃ u, vs[i]? = some (k, u) /\ RelV v u := by
  intro r
  induction r with
  | nil => intro i k v h; simp at h
  | cons h t ih =>
    intro i k v e
    cases i with
    | zero =>
      rename_i p b ps bs
      obtain ⟨kb, ub⟩ := b
      obtain ⟨kp, vp⟩ := p
      simp at e
      obtain ⟨rfl, rfl⟩ := e
      obtain ⟨e1, e2⟩ := h
      simp only at e1 e2
      subst e1
      exact ⟨ub, rfl, e2⟩
    | succ i => exact ih (by simpa using e)
section
variable {P : Program} {w : World} {K : PySem.W.Frag} {tg : Expr}
theorem dict_const {h : Heap} {a : Addr} {o : Obj} {vs : List (Key × Value)} {ep : Nat} (e : h.get? a = some o) (d : h.DictAt (mixKind P w) a vs ep) : ∀ h' : Heap, h'.get? a = some o -> h'.DictAt (mixKind P w) a vs ep := λ h' e' => d.at' λ o' q => by
  rw [e] at q
  cases q
  exact e'
theorem turn_dict (it a : Addr) (o : Obj) {kvs : List (Key × V)} {vs : List (Key × Value)} {ep : Nat} (r : KV kvs vs) (hD : ∀ h : Heap, h.get? a = some o -> h.DictAt (mixKind P w) a vs ep) :
    Turn P w K tg (Itd a o kvs) [it] it (λ i h => h.IsKeyIter it a i vs.length ep) where
  mem := by simp
  obj := λ i h st b hb => by
    have e : b = it := by simpa using hb
    subst e
    obtain ⟨o, e, c, d⟩ := st
    exact ⟨o, e, λ v z => by rw [d] at z; cases z⟩
  keep := λ i h h' st k => st.at λ o e => k it (by simp) o e
  item := by
    intro X hP hw hK hc i pins s σ H E I hf st hg
    subst hP hw hK
    obtain ⟨f0, f1, f2, f3, f4, f5⟩ := hf it (by simp)
    obtain ⟨ha, hi⟩ := hg
    obtain ⟨eo, _⟩ := I.hok a _ ha
    obtain ⟨⟨k, v⟩, hx⟩ : ∃ p, kvs[i]? = some p := ⟨kvs[i], by simp [hi]⟩
    obtain ⟨u, hu, ru⟩ := KV.get r hx
    refine wpAny_pyNext_dict_item st (hD _ eo) hu λ key h' hkey hit' hs' => ?_
    have I1 : Inv X pins σ H { s with heap := h' } := I.turned (t' := s.toks) (λ b o hb e => hs'.extBut b o hb e) f0 f1 f3 f4 f5
    obtain ⟨ob, e, c, d⟩ := id hit'
    exact ⟨key, rfl, go_of (s := { s with heap := h' }) e c d (by decide) ⟨kV k, H, I1, key_rel hkey, ⟨rfl, k, v, hx, rfl⟩, hit', λ b hb => (hf b hb).1⟩⟩
  done := by
    intro X hP hw hK hc i pins s σ H E I hf st hg
    subst hP hw hK
    obtain ⟨f0, f1, f2, f3, f4, f5⟩ := hf it (by simp)
    obtain ⟨ha, hi⟩ := hg
    obtain ⟨eo, _⟩ := I.hok a _ ha
    have hl := KV.length r
    exact wpAny_pyNext_dict_end (I.ok.hd hc) st (hD _ eo) (by simp; omega) λ h' eb => ⟨rfl, I.turned (t' := s.toks) (λ b o hb e => eb b o hb e) f0 f1 f3 f4 f5⟩
  self := λ _ _ _ _ _ st h => wpAny_pyIter_keyiter st h
theorem turn_items {es : List Expr} {k1 : Nat} {pos : Pos} (it a : Addr) (o : Obj) {kvs : List (Key × V)} {vs : List (Key × Value)} {ep : Nat} (r : KV kvs vs) (hD : ∀ h : Heap, h.get? a = some o -> h.DictAt (mixKind P w) a vs ep) :
    Turn P w K (.Tuple es k1 pos) (Itp a o kvs) [it] it (λ i h => ∃ ok ov, IsItemIter h it a i vs.length ep ok ov) where
  mem := by simp
  obj := λ i h st b hb => by
    have e : b = it := by simpa using hb
    subst e
    obtain ⟨ok, ov, e⟩ := st
    exact ⟨_, e, λ v z => by cases z⟩
  keep := λ i h h' ⟨ok, ov, e⟩ k => ⟨ok, ov, k it (by simp) _ e⟩
  item := by
    intro X hP hw hK hc i pins s σ H E I hf st hg
    subst hP hw hK
    obtain ⟨f0, f1, f2, f3, f4, f5⟩ := hf it (by simp)
    obtain ⟨ha, hi⟩ := hg
    obtain ⟨eo, _⟩ := I.hok a _ ha
    obtain ⟨⟨k, v⟩, hx⟩ : ∃ p, kvs[i]? = some p := ⟨kvs[i], by simp [hi]⟩
    obtain ⟨u, hu, ru⟩ := KV.get r hx
    obtain ⟨ok, ov, st⟩ := st
    refine wpAny_pyNext_items_item st (hD _ eo) hu λ key h' hkey hit' ht hsz kp => ⟨_, rfl, ?_⟩
    refine wpAny_letOwnedTupleGo_items hit' λ h2 hit2 sb => ?_
    have hT : s.heap.objs.size ≠ it := Nat.ne_of_gt (Heap.lt_size st)
    have e2 : h2.get? s.heap.objs.size = some { cls := .type "tuple", data := .seq #[key, u] } := sb.extBut _ _ hT ht
    have I1 : Inv X pins σ H { s with heap := h2 } := I.turned (t' := s.toks) (λ b o hb e => sb.extBut b o hb (kp b o hb e)) f0 f1 f3 f4 f5
    have hn : H s.heap.objs.size = none := I.hok.fresh (Nat.le_refl _)
    refine ⟨.ref s.heap.objs.size, upd H s.heap.objs.size (.tup [kV k, v]), ?_, rfl, ⟨k, v, _, hx, rfl, hn, rfl⟩, ⟨key, u, hit2⟩, λ b hb => ?_⟩
    . have new : ObjOk X.prog X.w (upd H s.heap.objs.size (.tup [kV k, v])) h2 s.heap.objs.size (.tup [kV k, v]) := ⟨by show 2 <= sizeLine; decide, [key, u], .cons (key_rel hkey) (.cons ru .nil), _, e2, rfl, _, rfl⟩
      refine ⟨I1.ok, I1.os, I1.bare, ?_, I1.loc, I1.cell, ?_, λ x c e => ?_, λ p hp => ?_, λ b w e => ?_, I1.len⟩
      . refine ⟨I1.base.keep, I1.base.slot, λ b ob e n x => ?_, I1.base.there, λ b xs e => ?_, λ b ob w e => ?_, λ b ps e => ?_⟩
        . have q := I1.base.free b ob e n x
          by_cases z : b = s.heap.objs.size
          . subst z
            exact absurd (Nat.lt_of_lt_of_le (Heap.lt_size e) I.sz) (Nat.lt_irrefl _)
          . rw [upd_ne z]
            exact q
        . have q := I1.base.tups b xs e
          rw [upd_ne (ne_of_none q hn)]
          exact q
        . have q := I1.base.frzs b ob w e
          rw [upd_ne (ne_of_none q hn)]
          exact q
        . obtain ⟨more, q⟩ := I1.base.tbls b ps e
          exact ⟨more, by rw [upd_ne (ne_of_none q hn)]; exact q⟩
      . rw [upd_ne (Nat.ne_of_lt I.lt)]
        exact I1.free
      . have : c ≠ s.heap.objs.size := by
          obtain ⟨v, ob, ho, _⟩ := I.cell x c e
          exact Nat.ne_of_lt (Heap.lt_size ho)
        rw [upd_ne this]
        exact I1.freeC x c e
      . obtain ⟨p1, p2, q⟩ := I1.pin p hp
        refine ⟨p1, ?_, q⟩
        have : p.1 ≠ s.heap.objs.size := Nat.ne_of_lt (Heap.lt_size (I.pin p hp).1)
        rw [upd_ne this]
        exact p2
      . by_cases z : b = s.heap.objs.size
        . subst z
          rw [upd_same] at e
          cases e
          exact new
        . rw [upd_ne z] at e
          refine (I1.hok b w e).stay (λ _ _ _ q => q) (λ c q => ?_) λ c xs q => ?_
          . rw [upd_ne (ne_of_none q hn)]
            exact q
          . rw [upd_ne (ne_of_none q hn)]
            exact q
    . have e : b = it := by simpa using hb
      subst e
      rw [upd_ne (Ne.symm hT)]
      exact f0
  done := by
    intro X hP hw hK hc i pins s σ H E I hf st hg
    subst hP hw hK
    obtain ⟨f0, f1, f2, f3, f4, f5⟩ := hf it (by simp)
    obtain ⟨ha, hi⟩ := hg
    obtain ⟨eo, _⟩ := I.hok a _ ha
    have hl := KV.length r
    obtain ⟨ok, ov, st⟩ := st
    exact wpAny_pyNext_items_end (I.ok.hd hc) st (hD _ eo) (by simp; omega) λ h' eb => ⟨rfl, I.turned (t' := s.toks) (λ b o hb e => eb b o hb e) f0 f1 f3 f4 f5⟩
  self := λ A i s Q E st h => by
    obtain ⟨ok, ov, st⟩ := st
    exact PySem.W.kcp_self st h
end
section
variable {X : Cx} {pins : List (Addr × Obj)} {σ : St} {H : Hp} {s : Shared}
theorem frz_at (I : Inv X pins σ H s) {a : Addr} {o : Obj} {kvs : List (Key × V)} (h : H a = some (.frz o (.dK kvs))) : (a == sysModules) = false /\ kvs.length <= sizeLine /\ s.heap.get? a = some o /\ ∃ vs ep, KV kvs vs /\ s.heap.DictAt (mixKind X.prog X.w) a vs ep := by
  obtain ⟨e, z, lo, vs, r, d⟩ := I.hok a _ h
  obtain ⟨ep, d⟩ := d.dictAt
  exact ⟨lo, z, e, vs, ep, r, d⟩
theorem keys_vals {kvs : List (Key × V)} {vs : List (Key × Value)} {us : List Value} (r : KV kvs vs) (hl : us.length = vs.length) (h : ∀ (j : Nat) (u : Value), us[j]? = some u -> ∃ k x, vs[j]? = some (k, x) /\ (mixKind X.prog X.w).is k u = true) : Vals (kvs.map λ kv => kV kv.1) us := by
  induction r generalizing us with
  | nil =>
    cases us with
    | nil => exact .nil
    | cons a b => simp at hl
  | cons hp t ih =>
    rename_i p b ps bs
    cases us with
    | nil => simp at hl
    | cons u us =>
      obtain ⟨k, x, e, hk⟩ := h 0 u rfl
      simp at e
      subst e
      rw [List.map_cons]
      refine .cons ?_ (ih (by simpa using hl) λ j w hj => h (j + 1) w (by simpa using hj))
      rw [hp.1]
      exact key_rel hk
theorem list_dict (hc : X.calm = true) (I : Inv X pins σ H s) {a : Addr} {kvs : List (Key × V)} (h : Rd H a (.dK kvs)) {Q : VK} (q : newO H (.lst (kvs.map λ kv => kV kv.1)) Q) : wpAny (model X.prog X.w) X.A (call (.type "list") [.ref a]) (EP X pins σ Q) X.xe s := by
  obtain ⟨z, lo, vs, r, d⟩ := dk_rd I.hok h
  obtain ⟨ep, d⟩ := d.dictAt
  have hl := KV.length r
  refine PySem.W.kdl_call (PySem.W.kdl_dict (knd := mixKind X.prog X.w) (kvs := vs) (ep := ep) lo) (I.ok.hd hc) d (by rw [<- hl]; exact z) λ h' tk acc' c' hk hD hacc => ?_
  have rv : Vals (kvs.map λ kv => kV kv.1) acc'.toList := keys_vals (X := X) r (by rw [Array.length_toList]; exact hacc.1) λ j u hu => hacc.2 j u (by rw [<- Array.getElem?_toList]; exact hu)
  refine ⟨.ref s.heap.objs.size, _, I.laid (t' := tk) hk (Nat.le_refl _) (o := .lst (kvs.map λ kv => kV kv.1)) ?_, rfl, q.at _ (I.hok.fresh (Nat.le_refl _))⟩
  exact ⟨by rw [List.length_map]; exact z, acc'.toList, c', rv, by rw [Array.toArray_toList]; exact hD⟩
theorem signs_vals {z : Str} : ∀ {us : List Value}, us.length = z.cps.toList.length -> (∀ (j : Nat) (u : Value), us[j]? = some u -> ∃ c t, z.cps.toList[j]? = some c /\ u = .str ⟨#[c]⟩ t) -> Vals (z.cps.toList.map λ c => V.str ⟨#[c]⟩) us := by
  generalize z.cps.toList = l
  induction l with
  | nil =>
    intro us hl h
    cases us with
    | nil => exact .nil
    | cons a b => simp at hl
  | cons c r ih =>
    intro us hl h
    cases us with
    | nil => simp at hl
    | cons u us =>
      obtain ⟨d, t, e, rfl⟩ := h 0 u rfl
      simp at e
      subst e
      exact .cons ⟨t, rfl⟩ (ih (by simpa using hl) λ j w hj => h (j + 1) w (by simpa using hj))
theorem list_text (hc : X.calm = true) (I : Inv X pins σ H s) {z : Str} {t : Tok} (hz : z.length <= sizeLine) {Q : VK} (q : newO H (.lst (z.cps.toList.map λ c => V.str ⟨#[c]⟩)) Q) : wpAny (model X.prog X.w) X.A (call (.type "list") [.str z t]) (EP X pins σ Q) X.xe s := by
  refine call_list_str (I.ok.hd hc) z t (λ h' tk acc' c' hk hD hacc => ?_) hz
  have rv : Vals (z.cps.toList.map λ c => V.str ⟨#[c]⟩) acc'.toList := signs_vals (by rw [Array.length_toList, hacc.1]; simp) λ j u hu => by
    obtain ⟨c, tk, hc, rfl⟩ := hacc.2 j u (by rw [<- Array.getElem?_toList]; exact hu)
    exact ⟨c, tk, by simpa using hc, rfl⟩
  refine ⟨.ref s.heap.objs.size, _, I.laid (t' := tk) hk (Nat.le_refl _) (o := .lst (z.cps.toList.map λ c => V.str ⟨#[c]⟩)) ?_, rfl, q.at _ (I.hok.fresh (Nat.le_refl _))⟩
  exact ⟨by rw [List.length_map, Array.length_toList]; exact hz, acc'.toList, c', rv, by rw [Array.toArray_toList]; exact hD⟩
noncomputable def strsOf : List V -> Option (List Str)
  | [] => some []
  | .str x :: r => match strsOf r with
    | some l => some (x :: l)
    | none => none
  | _ => none
theorem strsOf_are : ∀ {xs : List V} {us : List Value} {ys : List Str}, Vals xs us -> strsOf xs = some ys -> StrsAre us ys
  | _, _, _, .nil, h => by cases h; exact .nil
  | x :: r, u :: us, ys, .cons h t, e => by
    cases x <;> first | (cases e; done) | skip
    obtain ⟨tk, rfl⟩ := h
    unfold strsOf at e
    split at e
    . cases e
      exact .cons _ _ (strsOf_are t (by assumption))
    . cases e
noncomputable abbrev RM := V -> List V -> Hp -> VK -> Prop
@[irreducible] noncomputable def joinG : RM := λ x vs H Q => match x, vs with
  | .str sep, [.ref l] => match H l with
    | some (.lst xs) => match strsOf xs with
      | some ys => (ys.map (·.length)).sum + ys.length * sep.length <= 16777216 /\ Q (.str (Txt.join sep ys)) H
      | none => False
    | _ => False
  | _, _ => False
theorem mt_joinG : MtR X "str.join" joinG := λ pins s σ H x xs v us Q I rx rs h => by
  unfold joinG at h
  split at h
  . split at h
    . split at h
      . rename_i sep l _ ys hl _ zs hz
        obtain ⟨t, rfl⟩ := rx
        obtain ⟨u, rfl, ru⟩ := vals1 rs
        cases ru
        obtain ⟨its, r, li⟩ := at_lst I hl
        exact join_list li (by simpa using strsOf_are r hz) h.1 λ t' k => ⟨.str _, H, I.tok k, ⟨t', rfl⟩, h.2⟩
      . exact h.elim
    . exact h.elim
  . exact h.elim
end
noncomputable def RawD (h : Heap) (d : Addr) (es : Array DictEntry) (ep : Nat) : Prop := ∃ o, h.get? d = some o /\ o.ExactDict /\ o.data = .dict es ep
section
variable {prog : Program} {w : World} {A : Around} {E : Value -> Shared -> Prop} {s : Shared} {d it : Addr} {es : Array DictEntry} {ep i : Nat}
theorem RawD.typeIs (r : RawD s.heap d es ep) : s.TypeIs (.ref d) "dict" := by
  obtain ⟨o, h1, h2, h3⟩ := r
  exact ⟨o, h1, h2.1⟩
theorem raw_iter {Q : Value -> Shared -> Prop} (lo : (d == sysModules) = false) (r : RawD s.heap d es ep)
    (q : Q (.ref s.heap.objs.size) { s with heap := s.heap.push { cls := .type "dict_keyiterator", data := .fields #[.ref d, .int 0 0, .int es.size 0, .int ep 0] } }) : wpAny (model prog w) A (pyIter (.ref d)) Q E s := by
  have ty := r.typeIs
  obtain ⟨o, h1, h2, h3⟩ := r
  refine wpAny_pyIter_slot ty F.slot_dict_iter (wpAny_call_entry F.slot_dict_iter ty F.entry_dict_iter ?_ (F.args_dict_iter_1 _))
  show wpAny _ _ (Builtin.Dict.dictSlotNone _ _ >>= _) _ _ s
  refine wpAny_bind (wpAny_bind (wpAny_notOrdered_dict ty (show wpAny _ _ (pure (Value.ref d)) _ _ s from wpAny_pure ?_)))
  show wpAny _ _ ((if (d == sysModules) = true then _ else _) >>= _) _ _ s
  rw [if_neg (by rw [lo]; decide)]
  refine wpAny_bind (wpAny_pure (wpAny_bind (wpAny_dictEntries h1 h3 (wpAny_bind (wpAny_dictEpoch h1 h3 (wpAny_bind (wpAny_newObj_type (wpAny_pure ⟨_, rfl, "dict_keyiterator", _, ⟨_, Heap.get?_push_size _ rfl, rfl⟩, F.slot_dict_keyiterator_next.lookup, ?_⟩))))))))
  simpa [rawInt] using q
theorem raw_next {e : DictEntry} {Q : Option Value -> Shared -> Prop} (k : s.heap.IsKeyIter it d i es.size ep) (r : RawD s.heap d es ep) (he : es[i]? = some e)
    (q : ∀ h' : Heap, h'.IsKeyIter it d (i + 1) es.size ep -> Heap.SameBut it s.heap h' -> Q (some e.key) { s with heap := h' }) : wpAny (model prog w) A (pyNext (.ref it)) Q E s := by
  have ty := k.typeIs
  obtain ⟨o, k1, k2, k3⟩ := id k
  obtain ⟨b, h1, h2, h3⟩ := r
  unfold pyNext
  refine wpAny_bind (wpAny_attempt (wpAny_callSpecial?_slot (name := Str.ofString "__next__") ty F.slot_dict_keyiterator_next (wpAny_call_entry F.slot_dict_keyiterator_next ty F.entry_dict_keyiterator_next ?_ (F.args_dict_keyiterator_next_1 _))))
  refine wpAny_bind (wpAny_pure (wpAny_bind (wpAny_bind (wpAny_bind (wpAny_typeNameOfWhole_keyiter ty (wpAny_pure (wpAny_bind (wpAny_fieldsOf k1 k3 ?_))))))))
  rw [show Builtin.Dict_items.ownsTuple "dict_keyiterator" = false by decide]
  simp only [Bool.false_eq_true, if_false]
  show wpAny _ _ (if (Value.ref d == Value.none) = true then _ else _) _ _ s
  rw [if_neg (show ¬ ((Value.ref d == Value.none) = true) from Bool.false_ne_true)]
  refine wpAny_bind (wpAny_pure (wpAny_bind (wpAny_dictEntries h1 h3 ?_)))
  rw [if_neg (by simp)]
  refine wpAny_bind (wpAny_pure (wpAny_bind (wpAny_dictEpoch h1 h3 ?_)))
  rw [if_neg (by simp)]
  refine wpAny_pure ?_
  have hi : i < es.size := (Array.getElem?_eq_some_iff.mp he).1
  simp only [show ¬ ((i : Int) < 0) from by omega, if_false, Int.toNat_natCast, he]
  refine wpAny_bind (wpAny_bind (wpAny_typeNameOfWhole_keyiter ty (wpAny_pure (wpAny_bind (wpAny_isOneOf_keyiter ty ?_)))))
  show wpAny _ _ (setField (.ref it) 1 (rawInt ((i : Int) + 1)) >>= _) _ _ s
  have k' : (s.heap.update it (Obj.mapFields (·.setIfInBounds 1 (rawInt ((i : Int) + 1))))).IsKeyIter it d (i + 1) es.size ep := ⟨_, Heap.get?_update_self _ k1 (Obj.isFreed_of_fields (Obj.data_mapFields k3 _)), (Obj.cls_mapFields ..).trans k2, by rw [Obj.data_mapFields k3]; simp [rawInt]⟩
  refine wpAny_bind (wpAny_setField k1 k3 (by simp) (wpAny_bind (wpAny_holding (wpAny_bind (wpAny_isOneOf_keyiter (s := { s with heap := s.heap.update it (Obj.mapFields (·.setIfInBounds 1 (rawInt ((i : Int) + 1)))) }) k'.typeIs ?_)))))
  show wpAny _ _ (pure e.key) _ _ _
  exact wpAny_pure (wpAny_pure ⟨_, rfl, wpAny_pure (q _ k' (Heap.SameBut.update ..))⟩)
theorem raw_end {Q : Option Value -> Shared -> Prop} (hh : A.handled = none) (k : s.heap.IsKeyIter it d i es.size ep) (r : RawD s.heap d es ep) (he : es.size <= i)
    (q : ∀ h' : Heap, Heap.ExtBut it s.heap h' -> Q none { s with heap := h' }) : wpAny (model prog w) A (pyNext (.ref it)) Q E s := by
  have ty := k.typeIs
  obtain ⟨o, k1, k2, k3⟩ := id k
  obtain ⟨b, h1, h2, h3⟩ := r
  unfold pyNext
  refine wpAny_bind (wpAny_attempt (wpAny_callSpecial?_slot (name := Str.ofString "__next__") ty F.slot_dict_keyiterator_next (wpAny_call_entry F.slot_dict_keyiterator_next ty F.entry_dict_keyiterator_next ?_ (F.args_dict_keyiterator_next_1 _))))
  refine wpAny_bind (wpAny_pure (wpAny_bind (wpAny_bind (wpAny_bind (wpAny_typeNameOfWhole_keyiter ty (wpAny_pure (wpAny_bind (wpAny_fieldsOf k1 k3 ?_))))))))
  rw [show Builtin.Dict_items.ownsTuple "dict_keyiterator" = false by decide]
  simp only [Bool.false_eq_true, if_false]
  show wpAny _ _ (if (Value.ref d == Value.none) = true then _ else _) _ _ s
  rw [if_neg (show ¬ ((Value.ref d == Value.none) = true) from Bool.false_ne_true)]
  refine wpAny_bind (wpAny_pure (wpAny_bind (wpAny_dictEntries h1 h3 ?_)))
  rw [if_neg (by simp)]
  refine wpAny_bind (wpAny_pure (wpAny_bind (wpAny_dictEpoch h1 h3 ?_)))
  rw [if_neg (by simp)]
  refine wpAny_pure ?_
  simp only [show ¬ ((i : Int) < 0) from by omega, if_false, Int.toNat_natCast, Array.getElem?_eq_none he]
  refine wpAny_bind (wpAny_bind (wpAny_typeNameOfWhole_keyiter ty (wpAny_pure ?_)))
  show wpAny _ _ (setField (.ref it) 0 .none >>= _) _ _ s
  refine wpAny_bind (wpAny_setField k1 k3 (by simp) ?_)
  show wpAny _ _ (newExc (.type "StopIteration") [] >>= _) _ _ _
  refine wpAny_bind ?_
  simp only [newExc, newTuple]
  refine wpAny_bind (wpAny_newObj_type (wpAny_bind (m := firstArgMember _ _) (wpAny_of_eq (a := Value.none) (by first | rfl | (simp only [firstArgMember]; rfl)) (wpAny_newObj_type ?_ (by size_fits)))) (by size_fits))
  simp only [raiseNew]
  refine wpAny_bind (wpAny_handled ?_)
  rw [show A.in1.handled = none from hh]
  refine wpAny_bind (wpAny_pure (wpAny_throw ?_))
  refine wpAny_bind (wpAny_isInstance (T := "StopIteration") (b := true) ⟨_, Heap.get?_push_size _ rfl, rfl⟩ isSubtype_stop ?_)
  exact wpAny_pure (q _ (((Heap.SameBut.update ..).extBut.push _).push _))
end
noncomputable def Itdt (a : Addr) (o : Obj) (kvs : List (List Key × V)) : It := ⟨λ i H => H a = some (.frz o (.dT kvs)) /\ i < kvs.length, λ i H x H' => H' = H /\ ∃ k v t, kvs[i]? = some (k, v) /\ x = .ref t /\ H t = some (.tup (k.map kV)), λ i H => H a = some (.frz o (.dT kvs)) /\ kvs.length <= i⟩
theorem paired_get {α β : Type} {R : α -> β -> Prop} {xs : List α} {ys : List β} (h : Paired R xs ys) : ∀ {i : Nat} {x : α}, xs[i]? = some x -> ∃ y, ys[i]? = some y /\ R x y := by
  induction h with
  | nil => intro i x e; simp at e
  | cons h t ih =>
    intro i x e
    cases i with
    | zero => simp at e; subst e; exact ⟨_, rfl, h⟩
    | succ i => exact ih (by simpa using e)
section
variable {X : Cx} {pins : List (Addr × Obj)} {σ : St} {H : Hp} {s : Shared}
theorem dT_raw (I : Inv X pins σ H s) {a : Addr} {kvs : List (List Key × V)} (h : Rd H a (.dT kvs)) : (a == sysModules) = false /\ kvs.length <= sizeLine /\ ∃ (xs : List (List Key × Addr × Value)) (es : Array DictEntry) (ep : Nat),
    KT H kvs xs /\ es.toList = xs.map (entryOfKey (tupleKind (mixKind X.prog X.w))) /\ RawD s.heap a es ep := by
  have ok : ObjOk X.prog X.w H s.heap a (.dT kvs) := by
    rcases h with h | ⟨o, h⟩
    . exact I.hok a _ h
    . exact (I.hok a _ h).2
  obtain ⟨z, lo, xs, pr, o, es, ep, e1, e2, e3, e4, _⟩ := ok
  exact ⟨lo, z, xs, es, ep, pr, e4, o, e1, e2, e3⟩
end
theorem turn_dT {P : Program} {w : World} {K : PySem.W.Frag} {tg : Expr} (it a : Addr) (o : Obj) {kvs : List (List Key × V)} {es : Array DictEntry} {ep : Nat} (hl : es.size = kvs.length) (ho : o.data = .dict es ep) :
    Turn P w K tg (Itdt a o kvs) [it] it (λ i h => h.IsKeyIter it a i es.size ep) where
  mem := by simp
  obj := λ i h st b hb => by
    have e : b = it := by simpa using hb
    subst e
    obtain ⟨o, e, c, d⟩ := st
    exact ⟨o, e, λ v z => by rw [d] at z; cases z⟩
  keep := λ i h h' st k => st.at λ o e => k it (by simp) o e
  item := by
    intro X hP hw hK hc i pins s σ H E I hf st hg
    subst hP hw hK
    obtain ⟨f0, f1, f2, f3, f4, f5⟩ := hf it (by simp)
    obtain ⟨ha, hi⟩ := hg
    obtain ⟨eo, _, _, xs, pr, o', es', ep', e1, e2, e3, e4, _⟩ := I.hok a _ ha
    rw [eo] at e1
    cases e1
    rw [ho] at e3
    cases e3
    obtain ⟨⟨k, v⟩, hx⟩ : ∃ p, kvs[i]? = some p := ⟨kvs[i], by simp [hi]⟩
    obtain ⟨⟨k', t, u⟩, hy, rk, rt, rv⟩ := paired_get pr hx
    have he : es[i]? = some (entryOfKey (tupleKind (mixKind X.prog X.w)) (k', t, u)) := by
      rw [<- Array.getElem?_toList, e4, List.getElem?_map, hy]
      rfl
    refine raw_next st ⟨o, eo, e2, ho⟩ he λ h' st' sb => ?_
    have I1 : Inv X pins σ H { s with heap := h' } := I.turned (t' := s.toks) (λ b o hb e => sb.extBut b o hb e) f0 f1 f3 f4 f5
    obtain ⟨ob, e, c, d⟩ := id st'
    exact ⟨.ref t, rfl, go_of (s := { s with heap := h' }) e c d (by decide) ⟨.ref t, H, I1, rfl, ⟨rfl, k, v, t, hx, rfl, rt⟩, st', λ b hb => (hf b hb).1⟩⟩
  done := by
    intro X hP hw hK hc i pins s σ H E I hf st hg
    subst hP hw hK
    obtain ⟨f0, f1, f2, f3, f4, f5⟩ := hf it (by simp)
    obtain ⟨ha, hi⟩ := hg
    obtain ⟨eo, _, _, xs, pr, o', es', ep', e1, e2, e3, e4, _⟩ := I.hok a _ ha
    rw [eo] at e1
    cases e1
    exact raw_end (I.ok.hd hc) st ⟨o, eo, e2, ho⟩ (by rw [hl]; exact hi) λ h' eb => ⟨rfl, I.turned (t' := s.toks) (λ b o hb e => eb b o hb e) f0 f1 f3 f4 f5⟩
  self := λ _ _ _ _ _ st h => wpAny_pyIter_keyiter st h
section
variable {prog : Program} {w : World} {A : Around} {E : Value -> Shared -> Prop} {s : Shared} {d : Addr} {es : Array DictEntry} {ep : Nat}
theorem raw_len {Q : Value -> Shared -> Prop} (lo : (d == sysModules) = false) (r : RawD s.heap d es ep) (fit : (es.size : Int) < 2 ^ 63) (q : Q (.int es.size (s.toks + 1)) { s with toks := s.toks + 1 + 1 }) : wpAny (model prog w) A (call (.builtin "len") [.ref d]) Q E s := by
  have ty := r.typeIs
  have ml : MeetsIn prog w (Builtin.«dict.__len__» ⟨[.ref d], []⟩) (λ _ R s => ∃ es ep, RawD s.heap d es ep /\ R (.ok (.ret (.int es.size s.toks))) { s with toks := s.toks + 1 }) := .of_wp λ A R s ⟨es, ep, ⟨o, h1, h2, h3⟩, h⟩ => by
    show wpAny _ _ (dictSize d >>= _) _ _ s
    unfold dictSize
    refine wpAny_bind (wpAny_bind (wpAny_dictEntries h1 h3 (wpAny_pure ?_)))
    show wpAny _ _ (Builtin.Dict.pendingCount d >>= _) _ _ s
    refine wpAny_bind (wpAny_pendingCount_other lo (wpAny_ret_mkInt ?_))
    rw [Nat.add_zero]
    exact h
  refine Calls.call_function_entry kind_len plain_len entry_len (args_len1 _) ?_
  unfold Builtin.«len»
  refine wpAny_bind (m := oneArg "len" _) (wpAny_pure (wpAny_bind (m := callSpecial? (.ref d) (Str.ofString "__len__")) (wpAny_callSpecial?_slot (name := Str.ofString "__len__") ty F.slot_dict_len (call_meetsIn F.slot_dict_len ty F.entry_dict_len (F.args_dict_len_1 _) ml ⟨es, ep, r, ?_⟩))))
  show wpAny _ _ _ _ _ { s with toks := s.toks + 1 }
  refine wpAny_bind (wpAny_holding (wpAny_pure (wpAny_bind (wpAny_letGo ?_))))
  show wpAny _ _ (if ((es.size : Nat) : Int) < 0 then _ else _) _ _ _
  rw [if_neg (by omega)]
  show wpAny _ _ (if ((es.size : Nat) : Int) ≥ 2 ^ 63 then _ else _) _ _ _
  rw [if_neg (by omega)]
  exact wpAny_bind (wpAny_mkInt (wpAny_pure ⟨_, rfl, q⟩))
end
section
variable {X : Cx}
theorem call_lenT : CallR X (.builtin "len") (λ xs H Q => ∃ a kvs, xs = [V.ref a] /\ Rd H a (.dT kvs) /\ Q (.int kvs.length) H) := by
  intro pins s σ H xs us Q I r h
  obtain ⟨a, kvs, rfl, ha, q⟩ := h
  obtain ⟨u, rfl, ru⟩ := vals1 r
  cases ru
  obtain ⟨lo, z, xs, es, ep, pr, e4, rd⟩ := dT_raw I ha
  have hl : es.size = kvs.length := by
    rw [<- Array.length_toList, e4, List.length_map]
    exact (Paired.length pr).symm
  refine raw_len lo rd (by rw [hl]; rw [sizeLine_eq] at z; omega) ⟨.int kvs.length, H, I.tok _, ⟨_, by rw [hl]⟩, q⟩
noncomputable def intsOf : List V -> Option (List Int)
  | [] => some []
  | .int x :: r => match intsOf r with
    | some l => some (x :: l)
    | none => none
  | _ => none
theorem intsOf_are : ∀ {xs : List V} {us : List Value} {ys : List Int}, Vals xs us -> intsOf xs = some ys -> IntsAre us ys
  | _, _, _, .nil, h => by cases h; exact .nil
  | x :: r, u :: us, ys, .cons h t, e => by
    cases x <;> first | (cases e; done) | skip
    obtain ⟨tk, rfl⟩ := h
    unfold intsOf at e
    split at e
    . cases e
      exact .cons _ _ (intsOf_are t (by assumption))
    . cases e
@[irreducible] noncomputable def sumG : List V -> Hp -> VK -> Prop := λ xs H Q => match xs with
  | [.ref p] => match H p with
    | some (.lst ys) => match intsOf ys with
      | some ns => Q (.int ns.sum) H
      | none => False
    | _ => False
  | _ => False
theorem call_sumG (hc : X.calm = true) : CallR X (.builtin "sum") sumG := λ pins s σ H xs us Q I r h => by
  unfold sumG at h
  split at h
  . rename_i p
    split at h
    . rename_i ys e
      split at h
      . rename_i ns en
        obtain ⟨u, rfl, ru⟩ := vals1 r
        cases ru
        obtain ⟨its, rv, pl, hz⟩ := I.list (.inl (.inl e))
        have hi := intsOf_are rv en
        obtain ⟨zs, hx⟩ := hi.allInts.items
        have hl' : s.heap.IsList p (intItems zs) := hx ▸ pl.isList
        refine sum_intListG (I.ok.hd hc) hl' λ h' tk t' hk => ?_
        have e1 : ns = zs.toList.map (·.1) := by
          rw [<- nums_intItems, <- hx]
          exact (show numsOf its.toArray.toList = ns from hi.numsOf).symm
        have e2 : preSum (numAt zs) zs.size = ns.sum := by rw [preSum_eq, List.take_of_length_le (by simp), e1]
        rw [e2]
        exact ⟨.int ns.sum, H, I.kept (t' := tk) hk, ⟨_, rfl⟩, h⟩
      . exact h.elim
    . exact h.elim
  . exact h.elim
end
section
variable {prog : Program} {w : World} {A : Around} {E : Value -> Shared -> Prop} {s : Shared} {es : Array DictEntry} {ep i : Nat} {d it : Addr}
theorem RawD.at {h h' : Heap} (r : RawD h d es ep) (k : ∀ o, h.get? d = some o -> h'.get? d = some o) : RawD h' d es ep := by
  obtain ⟨o, z1, z2⟩ := r
  exact ⟨o, k o z1, z2⟩
theorem raw_walks (hh : A.handled = none) (I : Addr) (hne : d ≠ I) : Walks prog w A I [I, d] [I] es.size (λ i v => ∃ e, es[i]? = some e /\ v = e.key) (λ i h => h.IsKeyIter I d i es.size ep /\ RawD h d es ep) where
  sub := λ b hb => by rw [List.mem_singleton.mp hb]; simp
  frame := λ _ _ _ st k => ⟨st.1.at λ o e => k I (by simp) o e, st.2.at λ o e => k d (by simp) o e⟩
  item := λ i s Q E hi st q => raw_next st.1 st.2 (Array.getElem?_eq_getElem hi) λ h' st' sb => q _ h' s.toks ⟨_, Array.getElem?_eq_getElem hi, rfl⟩ ⟨st', st.2.at λ o e => sb.extBut d o hne e⟩ λ b o hb e => sb.extBut b o (λ z => hb (by simp [z])) e
  done := λ s Q E st q => raw_end hh st.1 st.2 (Nat.le_refl _) λ h' x => q h' s.toks λ b o hb e => x b o (λ z => hb (by simp [z])) e
  self := λ _ _ _ _ st q => wpAny_pyIter_keyiter st.1 q
theorem raw_src (lo : (d == sysModules) = false) : PySem.W.KdlSrc prog w "dict" d d es.size (λ i v => ∃ e, es[i]? = some e /\ v = e.key) (λ h => RawD h d es ep) where
  type := λ _ r => r.typeIs
  there := λ _ r => by obtain ⟨o, z, _⟩ := r; exact ⟨Heap.lt_size z, Heap.lt_size z⟩
  keep := λ _ _ r k => r.at λ o e => k d (.inl rfl) o e
  notList := by decide
  notTuple := by decide
  hint := λ _ _ _ _ r q => PySem.W.kdl_hint_dict r.typeIs q
  iter := λ _ s hh r => ⟨_, _, (λ _ _ q => raw_iter lo r q), raw_walks hh _ (by obtain ⟨o, z, _⟩ := r; exact Nat.ne_of_lt (Heap.lt_size z)), ⟨⟨_, Heap.get?_push_size _ rfl, rfl, rfl⟩, r.at λ o e => Heap.get?_push_of_some _ e⟩⟩
theorem meets_emptied (d : Addr) : MeetsIn prog w (Builtin.«dict.clear» ⟨[.ref d], []⟩) (λ _ R s => ∃ es ep, RawD s.heap d es ep /\ es.size <= sizeLine /\ ∀ h', RawD h' d #[] (ep + 1) -> Heap.SameBut d s.heap h' -> R (.ok (.ret .none)) { s with heap := h' }) :=
  .of_wp λ A R s ⟨es, ep, r, hz, h⟩ => by
    have ty := r.typeIs
    obtain ⟨o, z1, z2, z3⟩ := r
    unfold Builtin.«dict.clear» Builtin.Dict.noArgs
    refine wpAny_bind (wpAny_bind (wpAny_notOrdered_dict ty ?_))
    show wpAny _ _ (pure d) _ _ s
    refine wpAny_pure (wpAny_bind (wpAny_dictEntries z1 z3 (wpAny_bind ?_)))
    unfold bearsInstanceDictMark
    refine wpAny_bind (wpAny_load z1 (wpAny_pure (wpAny_bind (wpAny_updateDictKeys (hz := hz) z1 z3 ?_))))
    have r' : RawD (s.heap.update d (Obj.mapDictKeys λ _ => #[])) d #[] (ep + 1) := ⟨_, Heap.get?_update_self _ z1 (Obj.isFreed_of_dict (Obj.data_mapDictKeys z3 _)), z2.mapDictKeys _, Obj.data_mapDictKeys z3 _⟩
    split
    . exact wpAny_bind (wpAny_letGo (wpAny_pure ⟨.none, rfl, h _ r' (Heap.SameBut.update ..)⟩))
    . exact wpAny_bind (wpAny_pure (wpAny_pure ⟨.none, rfl, h _ r' (Heap.SameBut.update ..)⟩))
end
section
variable {X : Cx} {pins : List (Addr × Obj)} {σ : St} {H : Hp} {s : Shared}
noncomputable abbrev KeysAt (H : Hp) : List (List Key × V) -> List Addr -> Prop := Paired λ kv t => H t = some (.tup (kv.1.map kV))
@[irreducible] noncomputable def lstKeys (kvs : List (List Key × V)) (H : Hp) (Q : VK) : Prop := ∀ ts, KeysAt H kvs ts -> newO H (.lst (ts.map V.ref)) Q
theorem kt_keys : ∀ {kvs : List (List Key × V)} {xs : List (List Key × Addr × Value)}, KT H kvs xs -> KeysAt H kvs (xs.map λ x => x.2.1) := λ h => by
  induction h with
  | nil => exact .nil
  | cons h t ih => exact .cons h.2.1 ih
theorem vals_refs : ∀ (ts : List Addr) (us : List Value), us.length = ts.length -> (∀ (j : Nat) (u : Value), us[j]? = some u -> ∃ t, ts[j]? = some t /\ u = .ref t) -> Vals (ts.map V.ref) us
  | [], [], _, _ => .nil
  | [], _ :: _, h, _ => by simp at h
  | _ :: _, [], h, _ => by simp at h
  | t :: ts, u :: us, hl, h => by
    obtain ⟨t', e, rfl⟩ := h 0 u rfl
    simp at e
    subst e
    exact .cons rfl (vals_refs ts us (by simpa using hl) λ j w hj => h (j + 1) w (by simpa using hj))
theorem list_dT (hc : X.calm = true) (I : Inv X pins σ H s) {a : Addr} {kvs : List (List Key × V)} (h : Rd H a (.dT kvs)) {Q : VK} (q : lstKeys kvs H Q) : wpAny (model X.prog X.w) X.A (call (.type "list") [.ref a]) (EP X pins σ Q) X.xe s := by
  obtain ⟨lo, z, xs, es, ep, kt, e4, r⟩ := dT_raw I h
  have hl : es.size = xs.length := by rw [<- Array.length_toList, e4, List.length_map]
  have hk : xs.length = kvs.length := (Paired.length kt).symm
  unfold lstKeys at q
  refine PySem.W.kdl_call (raw_src (es := es) (ep := ep) lo) (I.ok.hd hc) r (by omega) λ h' tk acc c k hD ha => ?_
  have rv : Vals ((xs.map λ x => x.2.1).map V.ref) acc.toList := vals_refs _ _ (by rw [Array.length_toList, List.length_map, ha.1, hl]) λ j u hu => by
    obtain ⟨e, e1, rfl⟩ := ha.2 j u (by rw [<- Array.getElem?_toList]; exact hu)
    rw [<- Array.getElem?_toList, e4, List.getElem?_map] at e1
    cases hx : xs[j]? with
    | none => rw [hx] at e1; cases e1
    | some x =>
      rw [hx] at e1
      cases e1
      exact ⟨x.2.1, by rw [List.getElem?_map, hx]; rfl, rfl⟩
  refine ⟨.ref s.heap.objs.size, _, I.laid (t' := tk) k (Nat.le_refl _) (o := .lst ((xs.map λ x => x.2.1).map V.ref)) ?_, rfl, (q _ (kt_keys kt)).at _ (I.hok.fresh (Nat.le_refl _))⟩
  exact ⟨by rw [List.length_map, List.length_map, hk]; exact z, acc.toList, c, rv, by rw [Array.toArray_toList]; exact hD⟩
theorem clear_dT {A : Around} {E : Value -> Shared -> Prop} {a : Addr} {kvs : List (List Key × V)} {Q : Value -> Shared -> Prop} (I : Inv X pins σ H s) (e : H a = some (.dT kvs)) (h : ∀ s', Inv X pins σ (upd H a (.dT [])) s' -> Q .none s') : wpAny (model X.prog X.w) A (call (.builtin "dict.clear") [.ref a]) Q E s := by
  obtain ⟨lo, z, xs, es, ep, kt, e4, r⟩ := dT_raw I (.inl e)
  have hl : es.size = kvs.length := by rw [<- Array.length_toList, e4, List.length_map]; exact (Paired.length kt).symm
  refine call_meetsIn F.slot_dict_clear r.typeIs F.entry_dict_clear (F.args_dict_clear_1 _) (meets_emptied a) ⟨es, ep, r, by omega, λ h' r' hs => h _ ?_⟩
  obtain ⟨o, z1, z2, z3⟩ := r'
  exact d_write (t' := s.toks) I (by rw [e]; exact True.intro) hs ⟨o, z1⟩ ⟨Nat.zero_le _, lo, [], .nil, o, #[], ep + 1, z1, z2, z3, rfl, List.nodup_nil⟩
theorem int_text {z : Str} {t : Tok} {n : Int} (I : Inv X pins σ H s) (hz : z.length <= 640) (hn : PySem.intText? z = some n) {Q : VK} (q : Q (.int n) H) : wpAny (model X.prog X.w) X.A (call (.type "int") [.str z t]) (EP X pins σ Q) X.xe s :=
  PySem.W.KIN.call_text hn hz ⟨.int n, H, I.tok _, ⟨_, rfl⟩, q⟩
end
section
variable {X : Cx} {o e : Expr} {es : List Expr} {to : TE} {t : TA} {pos apos cpos : Pos}
noncomputable def isStar : Expr -> Bool
  | .Starred _ _ => true
  | _ => false
theorem star_cons {env : Env} (h : isStar e = false) : starEach (e :: es) env = (false, eval e env) :: starEach es env := by
  cases e <;> first | rfl | cases h
theorem stars_none {env : Env} : ∀ {es : List Expr}, es.any isStar = false -> (backTo pos (starEach es env)).any (·.1) = false /\ (backTo pos (starEach es env)).all (λ x => !x.1) = true
  | [], _ => ⟨rfl, rfl⟩
  | e :: es, h => by
    rw [List.any_cons, Bool.or_eq_false_iff] at h
    obtain ⟨i1, i2⟩ := stars_none (env := env) h.2
    rw [star_cons h.1]
    exact ⟨by simpa [backTo] using i1, by simpa [backTo] using i2⟩
@[irreducible] noncomputable def lenH (p : Addr) (H : Hp) (Q : VK) : Prop := match H p with
  | some (.lst ys) => Q (.int ys.length) H
  | some (.tup ys) => Q (.int ys.length) H
  | some (.dK kvs) => Q (.int kvs.length) H
  | some (.dT kvs) => Q (.int kvs.length) H
  | some (.frz _ (.dT kvs)) => Q (.int kvs.length) H
  | _ => False
noncomputable def lenG : List V -> Hp -> VK -> Prop := λ xs H Q => match xs with
  | [.str z] => z.length <= sizeLine /\ Q (.int z.length) H
  | [.ref p] => lenH p H Q
  | _ => False
theorem call_lenG : CallR X (.builtin "len") lenG := CallR.imp (CallR.or call_len_str (CallR.or call_len_seq (CallR.or call_lenD call_lenT))) λ xs H Q h => by
  unfold lenG at h
  split at h
  . exact .inl ⟨_, rfl, h⟩
  . unfold lenH at h
    split at h
    . exact .inr (.inl ⟨_, _, rfl, .inl (.inl (.inl (by assumption))), h⟩)
    . exact .inr (.inl ⟨_, _, rfl, .inr (.inl (.inl (by assumption))), h⟩)
    . exact .inr (.inr (.inl ⟨_, _, rfl, by assumption, h⟩))
    . exact .inr (.inr (.inr ⟨_, _, rfl, .inl (by assumption), h⟩))
    . exact .inr (.inr (.inr ⟨_, _, rfl, .inr ⟨_, by assumption⟩, h⟩))
    . exact h.elim
  . exact h.elim
noncomputable def okTy (T : String) : Bool := ["str", "int", "bool", "list", "tuple", "dict"].contains T
@[irreducible] noncomputable def isiG : List V -> Hp -> VK -> Prop := λ xs H Q => match xs with
  | [x, .ty T] => okTy T = true /\ match kindV H x with
    | some S => Q (.bl (isKind S T)) H
    | none => False
  | _ => False
theorem call_isiG : CallR X (.builtin "isinstance") isiG := CallR.imp call_isi λ xs H Q h => by
  unfold isiG at h
  split at h
  . obtain ⟨h1, h⟩ := h
    split at h
    . exact ⟨_, _, _, rfl, by assumption, by simpa [okTy] using h1, h⟩
    . exact h.elim
  . exact h.elim
noncomputable def blsOf : List V -> Option (List Bool)
  | [] => some []
  | .bl b :: r => (blsOf r).map (b :: ·)
  | _ => none
theorem blsOf_map : ∀ {xs : List V} {bs : List Bool}, blsOf xs = some bs -> xs = bs.map V.bl
  | [], bs, h => by cases h; rfl
  | x :: r, bs, h => by
    cases x <;> first | (cases h; done) | skip
    rename_i b
    unfold blsOf at h
    cases e : blsOf r with
    | none => rw [e] at h; cases h
    | some cs => rw [e] at h; cases h; rw [blsOf_map e]; rfl
@[irreducible] noncomputable def allG : List V -> Hp -> VK -> Prop := λ xs H Q => match xs with
  | [.ref p] => match H p with
    | some (.lst ys) => match blsOf ys with
      | some bs => Q (.bl (bs.all id)) H
      | none => False
    | _ => False
  | _ => False
theorem call_allG (hc : X.calm = true) : CallR X (.builtin "all") allG := CallR.imp (call_all0 hc) λ xs H Q h => by
  unfold allG at h
  split at h
  . split at h
    . split at h
      . rename_i ys hy _ bs hb
        refine ⟨_, bs, rfl, .inl ?_, h⟩
        rw [<- blsOf_map hb]
        exact hy
      . exact h.elim
    . exact h.elim
  . exact h.elim
@[irreducible] noncomputable def listG : List V -> Hp -> VK -> Prop := λ xs H Q => match xs with
  | [.str z] => z.length <= sizeLine /\ newO H (.lst (z.cps.toList.map λ c => V.str ⟨#[c]⟩)) Q
  | [.ref p] => match H p with
    | some (.lst ys) => newO H (.lst ys) Q
    | some (.tup ys) => newO H (.lst ys) Q
    | some (.dK kvs) => newO H (.lst (kvs.map λ kv => kV kv.1)) Q
    | some (.frz _ (.dK kvs)) => newO H (.lst (kvs.map λ kv => kV kv.1)) Q
    | some (.dT kvs) => lstKeys kvs H Q
    | some (.frz _ (.dT kvs)) => lstKeys kvs H Q
    | _ => False
  | _ => False
theorem call_listG (hc : X.calm = true) : CallR X (.type "list") listG := λ pins s σ H xs us Q I r h => by
  unfold listG at h
  split at h
  . obtain ⟨u, rfl, ru⟩ := vals1 r
    obtain ⟨t, rfl⟩ := ru
    exact list_text hc I h.1 h.2
  . split at h
    . exact call_list_of pins s σ H _ us Q I r ⟨_, _, rfl, .inl (.inl (.inl (by assumption))), h.at⟩
    . exact call_list_of pins s σ H _ us Q I r ⟨_, _, rfl, .inr (.inl (.inl (by assumption))), h.at⟩
    . obtain ⟨u, rfl, ru⟩ := vals1 r
      cases ru
      exact list_dict hc I (.inl (by assumption)) h
    . obtain ⟨u, rfl, ru⟩ := vals1 r
      cases ru
      exact list_dict hc I (.inr ⟨_, by assumption⟩) h
    . obtain ⟨u, rfl, ru⟩ := vals1 r
      cases ru
      exact list_dT hc I (.inl (by assumption)) h
    . obtain ⟨u, rfl, ru⟩ := vals1 r
      cases ru
      exact list_dT hc I (.inr ⟨_, by assumption⟩) h
    . exact h.elim
  . exact h.elim
@[irreducible] noncomputable def tupleG : List V -> Hp -> VK -> Prop := λ xs H Q => match xs with
  | [.ref p] => match H p with
    | some (.lst ys) => newO H (.tup ys) Q
    | some (.tup ys) => Q (.ref p) H
    | _ => False
  | _ => False
theorem call_tupleG : CallR X (.type "tuple") tupleG := CallR.imp call_tuple_of λ xs H Q h => by
  unfold tupleG at h
  split at h
  . split at h
    . exact ⟨_, _, rfl, .inl ⟨.inl (.inl (by assumption)), h.at⟩⟩
    . exact ⟨_, _, rfl, .inr ⟨.inl (.inl (by assumption)), h⟩⟩
    . exact h.elim
  . exact h.elim
noncomputable def intG : List V -> Hp -> VK -> Prop := λ xs H Q => match xs with
  | [.int i] => Q (.int i) H
  | [.bl k] => Q (.int (if k then 1 else 0)) H
  | [.str z] => z.length <= 640 /\ ∃ n, PySem.intText? z = some n /\ Q (.int n) H
  | _ => False
theorem call_intG : CallR X (.type "int") intG := λ pins s σ H xs us Q I r h => by
  unfold intG at h
  split at h
  . exact call_int1 pins s σ H _ us Q I r (.inl ⟨_, rfl, h⟩)
  . exact call_int1 pins s σ H _ us Q I r (.inr ⟨_, rfl, h⟩)
  . obtain ⟨u, rfl, ru⟩ := vals1 r
    obtain ⟨t, rfl⟩ := ru
    obtain ⟨hz, n, hn, q⟩ := h
    exact int_text I hz hn q
  . exact h.elim
noncomputable def bltF (x : Str) : Option (String × (List V -> Hp -> VK -> Prop)) :=
  if x = "len" then some ("len", lenG) else if x = "isinstance" then some ("isinstance", isiG) else if x = "all" then some ("all", allG)
  else if x = "sum" then some ("sum", sumG) else none
noncomputable def bltC (x : Str) : Option (String × (List V -> Hp -> VK -> Prop)) :=
  if x = "list" then some ("list", listG) else if x = "tuple" then some ("tuple", tupleG) else if x = "int" then some ("int", intG) else none
theorem bltF_ok (hc : X.calm = true) {x : Str} {i : String} {r : List V -> Hp -> VK -> Prop} (h : bltF x = some (i, r)) : CallR X (.builtin i) r /\ bootBuiltins x = some (.builtin i) /\ x ≠ "__name__" /\ (x == ("__debug__" : Str)) = false := by
  unfold bltF at h
  split at h
  . rename_i e; cases h; subst e; exact ⟨call_lenG, by decide +kernel, by decide +kernel, by decide +kernel⟩
  split at h
  . rename_i e; cases h; subst e; exact ⟨call_isiG, by decide +kernel, by decide +kernel, by decide +kernel⟩
  split at h
  . rename_i e; cases h; subst e; exact ⟨call_allG hc, by decide +kernel, by decide +kernel, by decide +kernel⟩
  split at h
  . rename_i e; cases h; subst e; exact ⟨call_sumG hc, by decide +kernel, by decide +kernel, by decide +kernel⟩
  cases h
theorem bltC_ok (hc : X.calm = true) {x : Str} {i : String} {r : List V -> Hp -> VK -> Prop} (h : bltC x = some (i, r)) : CallR X (.type i) r /\ bootBuiltins x = some (.type i) /\ x ≠ "__name__" /\ (x == ("__debug__" : Str)) = false := by
  unfold bltC at h
  split at h
  . rename_i e; cases h; subst e; exact ⟨call_listG hc, by decide +kernel, by decide +kernel, by decide +kernel⟩
  split at h
  . rename_i e; cases h; subst e; exact ⟨call_tupleG, by decide +kernel, by decide +kernel, by decide +kernel⟩
  split at h
  . rename_i e; cases h; subst e; exact ⟨call_intG, by decide +kernel, by decide +kernel, by decide +kernel⟩
  cases h
noncomputable def tyName (x : Str) : Option String :=
  if x = "int" then some "int" else if x = "str" then some "str" else if x = "bool" then some "bool" else if x = "list" then some "list" else if x = "tuple" then some "tuple" else if x = "dict" then some "dict" else if x = "ValueError" then some "ValueError" else none
theorem tyName_ok {x : Str} {i : String} (h : tyName x = some i) : bootBuiltins x = some (.type i) /\ x ≠ "__name__" /\ (x == ("__debug__" : Str)) = false := by
  unfold tyName at h
  repeat
    split at h
    . rename_i e; cases h; subst e; exact ⟨by decide +kernel, by decide +kernel, by decide +kernel⟩
  cases h
noncomputable def tyB (H : Hp) : V -> Option String
  | .str _ => some "str"
  | .ref p => match H p with
    | some (.lst _) => some "list"
    | some (.dK _) => some "dict"
    | some (.dT _) => some "dict"
    | _ => none
  | _ => none
theorem tyB_ok {K : PySem.W.Frag} {H : Hp} {x : V} {T : String} (h : tyB H x = some T) : tyV K T x H := by
  unfold tyB at h
  split at h
  . cases h; rfl
  . split at h
    . cases h; exact .inl ⟨rfl, _, .inl (.inl (by assumption))⟩
    . cases h; exact .inr (.inr (.inl ⟨rfl, .inl ⟨_, by assumption⟩⟩))
    . cases h; exact .inr (.inr (.inl ⟨rfl, .inr ⟨_, by assumption⟩⟩))
    . cases h
  . cases h
@[irreducible] noncomputable def appendG : RM := λ x vs H Q => match x, vs with
  | .ref l, [y] => match H l with
    | some (.lst xs) => xs.length < sizeLine /\ Q .non (upd H l (.lst (xs ++ [y])))
    | _ => False
  | _, _ => False
theorem mt_appendG : MtR X "list.append" appendG := λ pins s σ H x xs v us Q I rx rs h => mt_append pins s σ H x xs v us Q I rx rs (by
  unfold appendG at h
  split at h
  . split at h
    . exact ⟨_, _, _, rfl, rfl, by assumption, h⟩
    . exact h.elim
  . exact h.elim)
@[irreducible] noncomputable def clearG : RM := λ x vs H Q => match x, vs with
  | .ref l, [] => match H l with
    | some (.lst _) => Q .non (upd H l (.lst []))
    | _ => False
  | _, _ => False
theorem mt_clearG : MtR X "list.clear" clearG := λ pins s σ H x xs v us Q I rx rs h => mt_clear pins s σ H x xs v us Q I rx rs (by
  unfold clearG at h
  split at h
  . split at h
    . exact ⟨_, _, rfl, rfl, by assumption, h⟩
    . exact h.elim
  . exact h.elim)
@[irreducible] noncomputable def dclrG : RM := λ x vs H Q => match x, vs with
  | .ref a, [] => match H a with
    | some (.dT _) => Q .non (upd H a (.dT []))
    | some (.dK _) => Q .non (upd H a (.dK []))
    | _ => False
  | _, _ => False
theorem mt_dclrG : MtR X "dict.clear" dclrG := λ pins s σ H x xs v us Q I rx rs h => by
  unfold dclrG at h
  split at h
  . split at h
    . rename_i e
      cases rx
      have hus := rs.zero
      subst hus
      exact clear_dT I e λ s' I' => ⟨.non, _, I', rfl, h⟩
    . rename_i e
      cases rx
      have hus := rs.zero
      subst hus
      exact d_clear I e λ s' I' => ⟨.non, _, I', rfl, h⟩
    . exact h.elim
  . exact h.elim
@[irreducible] noncomputable def dgetG : RM := λ x vs H Q => match x, vs with
  | .ref a, [y] => match dLook H a y with
    | some o => Q (o.getD .non) H
    | none => False
  | .ref a, [y, z] => match dLook H a y with
    | some o => Q (o.getD z) H
    | none => False
  | _, _ => False
theorem mt_dgetG {k : Nat} (hr : Room k X.A) : MtR X "dict.get" dgetG := λ pins s σ H x xs v us Q I rx rs h => by
  unfold dgetG at h
  split at h
  . split at h
    . rename_i a y _ o e
      cases rx
      obtain ⟨u, rfl, ru⟩ := vals1 rs
      exact d_get1 (hu_of hr) I (dLook_get e) ru λ w' s' I' rw' => ⟨_, H, I', rw', h⟩
    . exact h.elim
  . split at h
    . rename_i a y z _ o e
      cases rx
      obtain ⟨u, u2, rfl, ru, ru2⟩ := vals2 rs
      exact d_get2 (hu_of hr) I (dLook_get e) ru ru2 λ w' s' I' rw' => ⟨_, H, I', rw', h⟩
    . exact h.elim
  . exact h.elim
noncomputable def bmR (T : String) (m : Str) : Option (String × RM) :=
  if T = "list" then
    if m = "append" then some ("list.append", appendG) else if m = "clear" then some ("list.clear", clearG) else none
  else if T = "dict" then
    if m = "get" then some ("dict.get", dgetG) else if m = "clear" then some ("dict.clear", dclrG) else none
  else if T = "str" then
    if m = "join" then some ("str.join", joinG) else none
  else none
theorem bmR_ok {k : Nat} (hr : Room k X.A) {T : String} {m : Str} {i : String} {r : RM} (h : bmR T m = some (i, r)) : PlainAttrs T /\ Slot T m i /\ typeOf (.builtin i) = pure (.type "method_descriptor") /\ MtR X i r := by
  unfold bmR at h
  split at h
  . rename_i eT
    subst eT
    split at h
    . rename_i e; cases h; subst e; exact ⟨PySem.F.plainAttrs_list, PySem.F.slot_list_append, PySem.F.type_list_append, mt_appendG⟩
    split at h
    . rename_i e; cases h; subst e; exact ⟨PySem.F.plainAttrs_list, PySem.F.slot_list_clear, PySem.F.type_list_clear, mt_clearG⟩
    cases h
  split at h
  . rename_i eT
    subst eT
    split at h
    . rename_i e; cases h; subst e; exact ⟨PySem.F.plainAttrs_dict, PySem.F.slot_dict_get, PySem.F.type_dict_get, mt_dgetG hr⟩
    split at h
    . rename_i e; cases h; subst e; exact ⟨PySem.F.plainAttrs_dict, PySem.F.slot_dict_clear, PySem.F.type_dict_clear, mt_dclrG⟩
    cases h
  split at h
  . rename_i eT
    subst eT
    split at h
    . rename_i e; cases h; subst e; exact ⟨PySem.F.plainAttrs_str, PySem.F.slot_str_join, PySem.F.type_str_join, mt_joinG⟩
    cases h
  cases h
@[irreducible] noncomputable def bmK (m : Str) (t : TA) (σ : St) (Q : VK) (x : V) (H1 : Hp) : Prop := match tyB H1 x with
  | some T => match bmR T m with
    | some (_, r) => t σ H1 λ xs H2 => r x xs H2 Q
    | none => False
  | none => False
noncomputable def tBmG (m : Str) (to : TE) (t : TA) : TE := λ σ H Q => to σ H (bmK m t σ Q)
theorem few_of {env : Env} (h : es.any isStar = false) (hl : es.length < 29) : ((backTo cpos (starEach es env)).all (λ x => !x.1) && (backToKw cpos (keywordEach [] env)).all (λ x => x.1.isSome)
      && decide (es.length + ([] : List Keyword).length + (if ([] : List Keyword).isEmpty then 0 else 1) < 30)) = true := by
  rw [(stars_none (env := env) h).2]
  have : decide (es.length + ([] : List Keyword).length + (if ([] : List Keyword).isEmpty then 0 else 1) < 30) = true := by
    apply decide_eq_true
    simp
    omega
  rw [this]
  rfl
theorem pe_bmG {k : Nat} {m : Str} (hr : Room k X.A) (ho : PE X o to) (ha : PA X (e :: es) t) (hb : notSuper o = true) (hs : (e :: es).any isStar = false) (hl : (e :: es).length < 29) (hline : (apos.endLine == cpos.line) = true) : PE X (.Call (.Attribute o m apos) (e :: es) [] cpos) (tBmG m to t) := by
  intro pins s σ H Q I h
  refine wpAny_Call_method_late (base_of hb) (few_of hs hl) hline rfl (thn (ho pins s σ H _ I h) λ v s1 ⟨x, H1, I1, r1, q1⟩ => ?_)
  unfold bmK at q1
  split at q1
  . rename_i T eT
    split at q1
    . rename_i i r eb
      obtain ⟨pa, sl, hty, hm⟩ := bmR_ok hr eb
      obtain ⟨h1, h2⟩ := tyV_is I1 r1 (tyB_ok (K := X.K) eT)
      refine ⟨T, i, pa, sl, hty, h1, h2, ?_⟩
      have hA := thn (ha cpos pins s1 σ H1 _ I1 q1) λ us s2 ⟨vs, H2, I2, r2, q2⟩ => hm pins s2 σ H2 x vs v us Q I2 r1 r2 q2
      have hs' := hs
      rw [List.any_cons, Bool.or_eq_false_iff] at hs'
      rw [star_cons hs'.1] at hA ⊢
      exact Calls.callWith_builtin (by show (false || (backTo cpos (starEach es X.env)).any (·.1)) = false; rw [(stars_none hs'.2).1]; rfl) (Calls.evalArgs_plain hA)
    . exact q1.elim
  . exact q1.elim
theorem pe_bmG0 {k : Nat} {m : Str} (hr : Room k X.A) (ho : PE X o to) (hb : notSuper o = true) (hline : (apos.endLine == cpos.line) = true) : PE X (.Call (.Attribute o m apos) [] [] cpos) (tBmG m to tNil) := by
  intro pins s σ H Q I h
  refine wpAny_Call_method0_late (base_of hb) hline (thn (ho pins s σ H _ I h) λ v s1 ⟨x, H1, I1, r1, q1⟩ => ?_)
  unfold bmK at q1
  split at q1
  . rename_i T eT
    split at q1
    . rename_i i r eb
      obtain ⟨pa, sl, hty, hm⟩ := bmR_ok hr eb
      obtain ⟨h1, h2⟩ := tyV_is I1 r1 (tyB_ok (K := X.K) eT)
      exact ⟨T, i, pa, sl, hty, h1, h2, Calls.callWith_builtin rfl (PySem.evalArgs_none (hm pins s1 σ H1 x [] v [] Q I1 r1 .nil q1))⟩
    . exact q1.elim
  . exact q1.elim
theorem meth_tree {env : Env} {m : Str} (hb : notSuper o = true) (hs : es.any isStar = false) (hl : es.length < 29) (hline : (apos.endLine == cpos.line) = true) :
    eval (.Call (.Attribute o m apos) es [] cpos) env = (do
      let ov ← eval o env
      standAt apos.atName
      let (f, first) ← holding [ov] (getMethod ov m (do return (← importBound o env).getD true))
      callWith cpos f first (backTo cpos (starEach es env)) (backToKw cpos (keywordEach [] env))) := by
  rw [arm_eval_Call, base_of hb]
  have hf : methodCallForm (es.length + ([] : List Keyword).length) (backTo cpos (starEach es env)) (backToKw cpos (keywordEach [] env)) = true := few_of hs hl
  simp only [methodCall, calleeOf, methodCallPos, hf, hline, if_true, Bool.not_true, Bool.false_or, pure_bind]
theorem methG_meth {cl : Addr} {m : Str} {sp : Sp} {E : XK} {σ : St} {H : Hp} {Q : VK} (h : tMethG cl m sp E to t σ H Q) : tMeth cl m sp [] E (moE to) t σ H Q := ⟨_, h, λ x H1 q => by
  unfold methK at q
  split at q
  . split at q
    . obtain ⟨rfl, q1, q2⟩ := q
      exact ⟨_, _, _, rfl, by assumption, q1, q2⟩
    . exact q.elim
  . exact q.elim⟩
theorem pe_methG {k : Nat} {CX : CXT} {f cl : Addr} {fd : FuncData} {ps : List Str} {sp : Sp} {E : XK} {m : Str} (ho : PE X o to) (c : Cls X.K cl) (hm : Meth X.K cl m f) (F : FnOk X.prog X.w X.K X.mg X.base CX k f fd ps sp) (hr : Room k X.A) (b : Binds X.K fd ps []) (hx : Passes CX X E) (ha : PA X (e :: es) t)
    (hb : notSuper o = true) (hs : (e :: es).any isStar = false) (hl : (e :: es).length < 29) (hline : (apos.endLine == cpos.line) = true) : PE X (.Call (.Attribute o m apos) (e :: es) [] cpos) (tMethG cl m sp E to t) := by
  have hs' := hs
  rw [List.any_cons, Bool.or_eq_false_iff] at hs'
  exact PE.imp (pe_meth (PE.mo ho) c hm F hr b .nil hx ha (star_cons hs'.1) (stars_none hs'.2).1 (meth_tree hb hs hl hline)) λ σ H Q h => methG_meth h
theorem pe_methG0 {k : Nat} {CX : CXT} {f cl : Addr} {fd : FuncData} {ps : List Str} {sp : Sp} {E : XK} {m : Str} (ho : PE X o to) (c : Cls X.K cl) (hm : Meth X.K cl m f) (F : FnOk X.prog X.w X.K X.mg X.base CX k f fd ps sp) (hr : Room k X.A) (b : Binds X.K fd ps []) (hx : Passes CX X E)
    (hb : notSuper o = true) (hline : (apos.endLine == cpos.line) = true) : PE X (.Call (.Attribute o m apos) [] [] cpos) (tMethG cl m sp E to tNil) :=
  PE.imp (pe_meth0 (PE.mo ho) c hm F hr b .nil hx (meth_tree hb rfl (by decide) hline)) λ σ H Q h => methG_meth h
@[irreducible] noncomputable def setG : TSet := λ o i v H Q => match o with
  | .ref p => match H p with
    | some (.lst xs) => match i with
      | .int k => match ixN xs.length k with
        | some j => Q (upd H p (.lst (xs.set j v)))
        | none => False
      | _ => False
    | some (.dK kvs) => match keyOf i with
      | some k => kvs.length < sizeLine /\ Q (upd H p (.dK (putK kvs k v)))
      | none => False
    | some (.dT kvs) => match i with
      | .ref b => match H b with
        | some (.tup xs) => match keysOf xs with
          | some k => kvs.length < sizeLine /\ Q (upd H p (.dT (putK kvs k v)))
          | none => False
        | _ => False
      | _ => False
    | _ => False
  | _ => False
theorem set_G {k : Nat} (hr : Room k X.A) : PSet X setG := λ pins s σ H o i v ov iv u Q I ro ri rv h => by
  unfold setG at h
  split at h
  . rename_i p
    split at h
    . split at h
      . split at h
        . exact set_list pins s σ H _ _ v ov iv u Q I ro ri rv ⟨_, _, _, _, rfl, rfl, by assumption, by assumption, h⟩
        . exact h.elim
      . exact h.elim
    . split at h
      . rename_i kvs hp _ k' ek
        cases ro
        rw [keyOf_kV ek] at ri
        exact d_setItem (hu_of hr) I (DPut.k hp h.1) ri rv λ s' I' => ⟨_, I', h.2⟩
      . exact h.elim
    . split at h
      . split at h
        . split at h
          . rename_i kvs hp _ b _ xs hb _ k' ek
            cases ro
            rw [keysOf_kV ek] at hb
            exact d_setItem (hu_of hr) I (DPut.t hp hb h.1) ri rv λ s' I' => ⟨_, I', h.2⟩
          . exact h.elim
        . exact h.elim
      . exact h.elim
    . exact h.elim
  . exact h.elim
end
noncomputable def Itv (a : Addr) (xs : List V) : It := ⟨λ i H => H a = some (.lst xs) /\ i < xs.length, λ i H x H' => H' = H /\ xs.reverse[i]? = some x, λ i _ => xs.length <= i⟩
theorem turn_rev {P : Program} {w : World} {K : PySem.W.Frag} {tg : Expr} (it a : Addr) (xs : List V) : Turn P w K tg (Itv a xs) [it] it (λ i h => i <= xs.length /\ h.IsRevIter it a ((xs.length : Int) - 1 - i)) where
  mem := by simp
  obj := λ i h st b hb => by
    have e : b = it := by simpa using hb
    subst e
    obtain ⟨_, o, e, c, d⟩ := st
    exact ⟨o, e, λ v z => by rw [d] at z; cases z⟩
  keep := λ i h h' st k => ⟨st.1, st.2.at λ o e => k it (by simp) o e⟩
  item := by
    intro X hP hw hK hc i pins s σ H E I hf st hg
    subst hP hw hK
    obtain ⟨ha, hi⟩ := hg
    obtain ⟨its, rv, p, hz⟩ := I.list (.inl (.inl ha))
    have hl := rv.length
    obtain ⟨x, hx⟩ : ∃ x, xs[xs.length - 1 - i]? = some x := ⟨xs[xs.length - 1 - i], by simp⟩
    obtain ⟨u, hu, ru⟩ := rv.get hx
    obtain ⟨f0, f1, f2, f3, f4, f5⟩ := hf it (by simp)
    have ei : ((xs.length : Int) - 1 - (i : Int)) = ((xs.length - 1 - i : Nat) : Int) := by omega
    have st2 := st.2
    rw [ei] at st2
    refine wpAny_pyNext_rev_item st2 p.isList (x := u) (by simpa using hu) λ h' st' sb => ?_
    have I1 : Inv X pins σ H { s with heap := h' } := I.turned (t' := s.toks) (λ b o hb e => (sb.2 b hb).trans e) f0 f1 f3 f4 f5
    obtain ⟨o, e, c, d⟩ := id st'
    refine ⟨u, rfl, go_of (s := { s with heap := h' }) e c d (by decide) ⟨x, H, I1, ru, ⟨rfl, ?_⟩, ⟨by omega, ?_⟩, λ b hb => (hf b hb).1⟩⟩
    . rw [List.getElem?_reverse (by omega)]
      exact hx
    . have : ((xs.length - 1 - i : Nat) : Int) - 1 = (xs.length : Int) - 1 - ((i + 1 : Nat) : Int) := by omega
      rw [<- this]
      exact st'
  done := by
    intro X hP hw hK hc i pins s σ H E I hf st hg
    subst hP hw hK
    obtain ⟨f0, f1, f2, f3, f4, f5⟩ := hf it (by simp)
    have hg : xs.length <= i := hg
    have ei : ((xs.length : Int) - 1 - (i : Int)) = -1 := by have := st.1; omega
    have st2 := st.2
    rw [ei] at st2
    exact wpAny_pyNext_rev_end (I.ok.hd hc) st2 λ h' eb => ⟨rfl, I.turned (t' := s.toks) (λ b o hb e => eb b o hb e) f0 f1 f3 f4 f5⟩
  self := λ _ _ _ _ _ st h => wpAny_pyIter_revIter st.2 h
theorem boot_reversed : bootBuiltins "reversed" = some (.type "reversed") := by first | rfl | kernel_rfl
@[irreducible] noncomputable def revG (vs : List V) (H : Hp) (R : It -> Hp -> Th -> Prop) : Prop := match vs with
  | [.ref a] => match H a with
    | some (.lst xs) => R (Itv a xs) H none
    | _ => False
  | _ => False
noncomputable def iRevG (ta : TA) : TI2 := λ σ H R => ta σ H λ vs H1 => revG vs H1 R
section
variable {X : Cx} {tg : Expr}
theorem pi_rev {e : Expr} {es : List Expr} {ta : TA} {p pos : Pos} (hg : Gl X "reversed") (hm : X.mg "reversed" = none) (ha : PA X (e :: es) ta) (hs : (e :: es).any isStar = false) : PI2 X tg (.Call (.Name "reversed" p) (e :: es) [] pos) (iRevG ta) := by
  rw [List.any_cons, Bool.or_eq_false_iff] at hs
  intro pins s σ H R I h
  refine Call_ (ld_blt I hg hm boot_reversed (PyProof.Rows.callWith_type1 (thn (ha pos pins s σ H _ I h) λ us s1 ⟨vs, H1, I1, r1, q1⟩ => ?_) (star_cons hs.1) (stars_none hs.2).1))
  replace q1 : revG vs H1 R := q1
  unfold revG at q1
  split at q1
  . rename_i a
    split at q1
    . rename_i xs e
      obtain ⟨u, rfl, ru⟩ := vals1 r1
      cases ru
      obtain ⟨its, rv, p', hz⟩ := I1.list (.inl (.inl e))
      have hl := rv.length
      refine call_reversed_list p'.isList ?_
      have st : (s1.heap.push (revObj a (((its.toArray.size : Nat) : Int) - 1))).IsRevIter s1.heap.objs.size a (((its.toArray.size : Nat) : Int) - 1) := ⟨_, Heap.get?_push_size _ rfl, rfl, rfl⟩
      refine wpAny_pyIter_revIter st ⟨none, (λ _ _ e => by cases e), s1.heap.objs.size, [s1.heap.objs.size], _, Itv a xs, H1, rfl, I1.kept (t' := s1.toks) λ b o e => Heap.get?_push_of_some _ e, turn_rev _ a xs, ⟨Nat.zero_le _, ?_⟩, λ b hb => ?_, q1⟩
      . have : (((its.toArray.size : Nat) : Int) - 1) = (xs.length : Int) - 1 - ((0 : Nat) : Int) := by
          rw [List.size_toArray]
          omega
        rw [<- this]
        exact st
      . have e : b = s1.heap.objs.size := by simpa using hb
        subst e
        exact I1.fpOk (Nat.le_refl _) (I1.hok.fresh (Nat.le_refl _))
    . exact q1.elim
  . exact q1.elim
end
section
variable {X : Cx} {pins : List (Addr × Obj)} {σ : St} {H : Hp} {s : Shared} {h' : Heap}
theorem inv_track {p : Addr} {o : HO} (I : Inv X pins σ H s) (hf : FpOk X pins H p) (hp : X.s₀.heap.objs.size <= p) (new : ObjOk X.prog X.w (upd H p o) s.heap p o) : Inv X pins σ (upd H p o) s := by
  obtain ⟨f0, f1, f2, f3, f4, f5⟩ := hf
  refine ⟨I.ok, I.os, I.bare, ⟨I.base.keep, I.base.slot, λ b ob e n x => ?_, I.base.there, λ b xs e => ?_, λ b ob w e => ?_, λ b ps e => ?_⟩, I.loc, I.cell, ?_, λ x c e => ?_, λ q hq => ?_, λ b u e => ?_, I.len⟩
  . rw [upd_ne λ z => by rw [z] at e; exact absurd (Nat.lt_of_lt_of_le (Heap.lt_size e) hp) (Nat.lt_irrefl _)]
    exact I.base.free b ob e n x
  . have q := I.base.tups b xs e
    rw [upd_ne (ne_of_none q f0)]
    exact q
  . have q := I.base.frzs b ob w e
    rw [upd_ne (ne_of_none q f0)]
    exact q
  . obtain ⟨more, q⟩ := I.base.tbls b ps e
    exact ⟨more, by rw [upd_ne (ne_of_none q f0)]; exact q⟩
  . rw [upd_ne (Ne.symm f1)]
    exact I.free
  . rw [upd_ne (f4 x c e)]
    exact I.freeC x c e
  . obtain ⟨p1, p2, r⟩ := I.pin q hq
    refine ⟨p1, ?_, r⟩
    rw [upd_ne (f5 q hq)]
    exact p2
  . by_cases z : b = p
    . subst z
      rw [upd_same] at e
      cases e
      exact new
    . rw [upd_ne z] at e
      exact (I.hok b u e).stay (λ c v _ q => q) (λ c q => by rw [upd_ne (ne_of_none q f0)]; exact q) λ c xs q => by rw [upd_ne (ne_of_none q f0)]; exact q
end
section
variable {X : Cx}
end
section
variable {prog : Program} {w : World} {A : Around} {E : Value -> Shared -> Prop} {s : Shared} {d it S : Addr} {es : Array DictEntry} {ep i : Nat}
noncomputable def WkAt (h : Heap) (it d : Addr) (i n ep : Nat) (f0 f1 ok ov : Value) : Prop :=
  h.get? it = some { cls := .type "dict_itemiterator", dict := none, data := .fields #[f0, f1, .ref d, .int i 0, .int n 0, .int ep 0, ok, ov], slots := #[] }
theorem raw_items {v : Addr} {Q : Value -> Shared -> Prop} (hv : s.heap.IsItemsView v d) (r : RawD s.heap d es ep)
    (q : Q (.ref s.heap.objs.size) { s with heap := s.heap.push { cls := .type "dict_itemiterator", data := .fields #[.none, .bool false, .ref d, .int 0 0, .int es.size 0, .int ep 0, .none, .none] } }) : wpAny (model prog w) A (pyIter (.ref v)) Q E s := by
  have ty := hv.typeIs
  obtain ⟨o, h1, h2, h3⟩ := r
  obtain ⟨u, u1, u2, u3⟩ := hv
  refine wpAny_pyIter_slot ty F.slot_dict_items_iter (wpAny_call_entry F.slot_dict_items_iter ty F.entry_dict_items_iter ?_ (F.args_dict_items_iter_1 _))
  unfold Builtin.«dict_items.__iter__» Builtin.Dict_items.dictOf Builtin.Dict_items.newIterator
  refine wpAny_bind (wpAny_pure (wpAny_bind (wpAny_bind (wpAny_field u1 u3 (x := .ref d) rfl (wpAny_pure (wpAny_bind (wpAny_bind (wpAny_dictEntries h1 h3 (wpAny_bind (wpAny_dictEpoch h1 h3 ?_))))))))))
  rw [show Builtin.Dict_items.ownsTuple "dict_itemiterator" = true by decide]
  simp only [if_true]
  refine wpAny_newObj_type (wpAny_pure ⟨_, rfl, "dict_itemiterator", _, ⟨_, Heap.get?_push_size _ rfl, rfl⟩, F.slot_dict_itemiterator_next.lookup, ?_⟩) (by simp only [sizeOk, Builtin.Dict_items.ownedTupleFields, List.size_toArray, List.length_append, List.length_cons, List.length_nil, sizeLine_eq]; omega)
  simpa [rawInt, Builtin.Dict_items.ownedTupleFields] using q
theorem raw_pair {e : DictEntry} {Q : Option Value -> Shared -> Prop} (st : PySem.W.KdxSt s.heap it d S i es.size ep) (hS : S < s.heap.objs.size) (r : RawD s.heap d es ep) (he : es[i]? = some e)
    (q : ∀ h' : Heap, PySem.W.KdxSt h' it d S (i + 1) es.size ep -> h'.get? s.heap.objs.size = some { cls := .type "tuple", data := .seq #[e.key, e.val] } -> h'.objs.size = s.heap.objs.size + 1 →
      (∀ b o, b ≠ it -> s.heap.get? b = some o -> h'.get? b = some o) -> Q (some (.ref s.heap.objs.size)) { s with heap := h' }) : wpAny (model prog w) A (pyNext (.ref it)) Q E s := by
  obtain ⟨f0, f1, ok, ov, hit, hf⟩ : ∃ f0 f1 ok ov, WkAt s.heap it d i es.size ep f0 f1 ok ov /\ ((i = 0 /\ f0 = .none /\ f1 = .bool false) \/ ∃ (a : Addr) (f : Bool) (oa : Obj), f0 = rawInt a /\ f1 = .bool f /\ s.heap.get? a = some oa /\ a ≠ it /\ a ≠ S) := by
    rcases st with ⟨rfl, ok, ov, x⟩ | ⟨ok, ov, a, f, oa, x, x1, x2, x3⟩
    . exact ⟨_, _, ok, ov, x, .inl ⟨rfl, rfl, rfl⟩⟩
    . exact ⟨_, _, ok, ov, x, .inr ⟨a, f, oa, rfl, rfl, x1, x2, x3⟩⟩
  obtain ⟨hp, g, dr, tk, os⟩ := s
  obtain ⟨b, h1, h2, h3⟩ := r
  have ty : Shared.TypeIs ⟨hp, g, dr, tk, os⟩ (.ref it) "dict_itemiterator" := ⟨_, hit, rfl⟩
  have hi : i < es.size := (Array.getElem?_eq_some_iff.mp he).1
  unfold pyNext
  refine wpAny_bind (wpAny_attempt (wpAny_callSpecial?_slot (name := Str.ofString "__next__") ty F.slot_dict_itemiterator_next (wpAny_call_entry F.slot_dict_itemiterator_next ty F.entry_dict_itemiterator_next ?_ (F.args_dict_itemiterator_next_1 _))))
  refine wpAny_bind (wpAny_pure (wpAny_bind (wpAny_bind (wpAny_bind (wpAny_typeNameOfWhole_itemiter ty (wpAny_pure (wpAny_bind (wpAny_fieldsOf hit rfl ?_))))))))
  rw [show Builtin.Dict_items.ownsTuple "dict_itemiterator" = true by decide]
  simp only [if_true]
  show wpAny _ _ (if (Value.ref d == Value.none) = true then _ else _) _ _ _
  rw [if_neg (show ¬ ((Value.ref d == Value.none) = true) from Bool.false_ne_true)]
  refine wpAny_bind (wpAny_pure (wpAny_bind (wpAny_dictEntries h1 h3 ?_)))
  rw [if_neg (by simp)]
  refine wpAny_bind (wpAny_pure (wpAny_bind (wpAny_dictEpoch h1 h3 ?_)))
  rw [if_neg (by simp)]
  refine wpAny_pure ?_
  simp only [show ¬ ((i : Int) < 0) from by omega, if_false, Int.toNat_natCast, he]
  refine wpAny_bind (wpAny_bind (wpAny_typeNameOfWhole_itemiter ty (wpAny_pure (wpAny_bind (wpAny_isOneOf_itemiter ty ?_)))))
  show wpAny _ _ (setField (.ref it) 3 (rawInt ((i : Int) + 1)) >>= _) _ _ (⟨hp, g, dr, tk, os⟩ : Shared)
  refine wpAny_bind (wpAny_setField_rec hit (by simp) λ k1 e1 s1 => ?_)
  replace s1 : Heap.SameBut it hp k1 := s1
  replace e1 : WkAt k1 it d (i + 1) es.size ep f0 f1 ok ov := by
    have z : ((i + 1 : Nat) : Int) = (i : Int) + 1 := by omega
    unfold WkAt
    rw [z]
    simpa [rawInt] using e1
  have ty1 : Shared.TypeIs ⟨k1, g, dr, tk, os⟩ (.ref it) "dict_itemiterator" := ⟨_, e1, rfl⟩
  refine wpAny_bind (wpAny_holding (wpAny_bind (wpAny_isOneOf_itemiter ty1 (wpAny_bind (wpAny_isOneOf_itemiter ty1 ?_)))))
  show wpAny _ _ (Builtin.Dict_items.pairFromOwner (.ref it) 6 e.key e.val) _ _ (⟨k1, g, dr, tk, os⟩ : Shared)
  unfold Builtin.Dict_items.pairFromOwner
  refine wpAny_bind (wpAny_newTuple ?_)
  have lt : it < hp.objs.size := Heap.lt_size hit
  obtain ⟨k2, k2e⟩ : ∃ k2, k2 = k1.push { cls := .type "tuple", data := .seq #[e.key, e.val] } := ⟨_, rfl⟩
  have e2 : WkAt k2 it d (i + 1) es.size ep f0 f1 ok ov := by rw [k2e]; exact Heap.get?_push_of_some _ e1
  have z1 : k1.objs.size = hp.objs.size := s1.1
  have t2 : k2.get? hp.objs.size = some { cls := .type "tuple", data := .seq #[e.key, e.val] } := by rw [k2e, <- z1]; exact Heap.get?_push_size _ rfl
  have z2 : k2.objs.size = hp.objs.size + 1 := by rw [k2e, Heap.size_push, z1]
  have kp : ∀ b o, b ≠ it -> hp.get? b = some o -> k2.get? b = some o := λ b o n z => by rw [k2e]; exact Heap.get?_push_of_some _ (s1.extBut b o n z)
  have fin : ∀ k3 : Heap, Heap.SameBut it k2 k3 -> PySem.W.KdxSt k3 it d S (i + 1) es.size ep -> Q (some (.ref hp.objs.size)) ⟨k3, g, dr, tk, os⟩ := λ k3 s3 x => q k3 x (s3.extBut _ _ (Nat.ne_of_gt lt) t2) (by show k3.objs.size = hp.objs.size + 1; rw [s3.1, z2]) λ b o n z => s3.extBut b o n (kp b o n z)
  show wpAny _ _ (Builtin.Dict_items.ownedTupleIsFree (.ref it) >>= _) _ _ (⟨k1.push { cls := .type "tuple", data := .seq #[e.key, e.val] }, g, dr, tk, os⟩ : Shared)
  rw [<- k2e, z1]
  clear k2e e1 s1 ty1 z1
  refine wpAny_bind ?_
  unfold Builtin.Dict_items.ownedTupleIsFree
  rcases hf with ⟨rfl, rfl, rfl⟩ | ⟨a, f, oa, rfl, rfl, ha, hai, haS⟩
  . refine wpAny_bind (wpAny_field e2 rfl (x := .none) rfl (wpAny_pure ?_))
    simp only [if_true]
    refine wpAny_bind (wpAny_field e2 rfl (x := ok) rfl (wpAny_bind (wpAny_field e2 rfl (x := ov) rfl (wpAny_bind (wpAny_setField_rec e2 (by simp) λ k3 e3 s3 => ?_)))))
    replace e3 : WkAt k3 it d (0 + 1) es.size ep .none (.bool false) e.key ov := e3
    refine wpAny_bind (wpAny_setField_rec e3 (by simp) λ k4 e4 s4 => ?_)
    replace e4 : WkAt k4 it d (0 + 1) es.size ep .none (.bool false) e.key e.val := e4
    refine wpAny_bind (wpAny_setField_rec e4 (by simp) λ k5 e5 s5 => ?_)
    replace e5 : WkAt k5 it d (0 + 1) es.size ep (rawInt hp.objs.size) (.bool false) e.key e.val := e5
    refine wpAny_bind (wpAny_setField_rec e5 (by simp) λ k6 e6 s6 => ?_)
    replace e6 : WkAt k6 it d (0 + 1) es.size ep (rawInt hp.objs.size) (.bool false) e.key e.val := e6
    have sb : Heap.SameBut it k2 k6 := ((Heap.SameBut.trans s3 s4).trans s5).trans s6
    exact wpAny_bind (wpAny_letGo (wpAny_pure (wpAny_pure ⟨_, rfl, wpAny_pure (fin k6 sb (.inr ⟨_, _, _, false, _, e6, sb.extBut _ _ (Nat.ne_of_gt lt) t2, Nat.ne_of_gt lt, Nat.ne_of_gt hS⟩))⟩)))
  . refine wpAny_bind (wpAny_field e2 rfl (x := rawInt a) rfl ?_)
    show wpAny _ _ (loadIfAlive ((a : Int).toNat) >>= _) _ _ _
    rw [Int.toNat_natCast]
    refine wpAny_bind (PySem.W.kdx_alive (kp a oa hai ha) ?_)
    simp only [Option.isNone_some, Bool.false_eq_true, if_false]
    refine wpAny_bind (wpAny_field e2 rfl (x := .bool f) rfl ?_)
    cases f with
    | true =>
      rw [if_neg (show ¬ ((Value.bool true != Value.bool true) = true) from Bool.false_ne_true)]
      refine wpAny_pure ?_
      simp only [Bool.false_eq_true, if_false]
      exact wpAny_pure (wpAny_pure ⟨_, rfl, wpAny_pure (fin k2 (Heap.SameBut.refl _ _) (.inr ⟨ok, ov, a, true, oa, e2, kp a oa hai ha, hai, haS⟩))⟩)
    | false =>
      rw [if_pos (show (Value.bool false != Value.bool true) = true from rfl)]
      refine wpAny_bind (wpAny_setField_rec e2 (by simp) λ k3 e3 s3 => wpAny_pure ?_)
      replace e3 : WkAt k3 it d (i + 1) es.size ep (rawInt a) (.bool true) ok ov := e3
      simp only [Bool.false_eq_true, if_false]
      have s3' : Heap.SameBut it k2 k3 := s3
      exact wpAny_pure (wpAny_pure ⟨_, rfl, wpAny_pure (fin k3 s3' (.inr ⟨ok, ov, a, true, oa, e3, s3'.extBut _ _ hai (kp a oa hai ha), hai, haS⟩))⟩)
theorem raw_pairs_end {Q : Option Value -> Shared -> Prop} (hh : A.handled = none) (st : PySem.W.KdxSt s.heap it d S i es.size ep) (r : RawD s.heap d es ep) (he : es.size <= i) (q : ∀ h' : Heap, Heap.ExtBut it s.heap h' -> Q none { s with heap := h' }) : wpAny (model prog w) A (pyNext (.ref it)) Q E s := by
  obtain ⟨f0, f1, ok, ov, hit⟩ : ∃ f0 f1 ok ov, WkAt s.heap it d i es.size ep f0 f1 ok ov := by
    rcases st with ⟨rfl, ok, ov, x⟩ | ⟨ok, ov, a, f, oa, x, _⟩
    . exact ⟨_, _, ok, ov, x⟩
    . exact ⟨_, _, ok, ov, x⟩
  obtain ⟨b, h1, h2, h3⟩ := r
  have ty : s.TypeIs (.ref it) "dict_itemiterator" := ⟨_, hit, rfl⟩
  unfold pyNext
  refine wpAny_bind (wpAny_attempt (wpAny_callSpecial?_slot (name := Str.ofString "__next__") ty F.slot_dict_itemiterator_next (wpAny_call_entry F.slot_dict_itemiterator_next ty F.entry_dict_itemiterator_next ?_ (F.args_dict_itemiterator_next_1 _))))
  refine wpAny_bind (wpAny_pure (wpAny_bind (wpAny_bind (wpAny_bind (wpAny_typeNameOfWhole_itemiter ty (wpAny_pure (wpAny_bind (wpAny_fieldsOf hit rfl ?_))))))))
  rw [show Builtin.Dict_items.ownsTuple "dict_itemiterator" = true by decide]
  simp only [if_true]
  show wpAny _ _ (if (Value.ref d == Value.none) = true then _ else _) _ _ _
  rw [if_neg (show ¬ ((Value.ref d == Value.none) = true) from Bool.false_ne_true)]
  refine wpAny_bind (wpAny_pure (wpAny_bind (wpAny_dictEntries h1 h3 ?_)))
  rw [if_neg (by simp)]
  refine wpAny_bind (wpAny_pure (wpAny_bind (wpAny_dictEpoch h1 h3 ?_)))
  rw [if_neg (by simp)]
  refine wpAny_pure ?_
  simp only [show ¬ ((i : Int) < 0) from by omega, if_false, Int.toNat_natCast, Array.getElem?_eq_none he]
  refine wpAny_bind (wpAny_bind (wpAny_typeNameOfWhole_itemiter ty (wpAny_pure ?_)))
  show wpAny _ _ (setField (.ref it) 2 .none >>= _) _ _ _
  refine wpAny_bind (wpAny_setField hit rfl (by simp) ?_)
  show wpAny _ _ (newExc (.type "StopIteration") [] >>= _) _ _ _
  refine wpAny_bind ?_
  simp only [newExc, newTuple]
  refine wpAny_bind (wpAny_newObj_type (wpAny_bind (m := firstArgMember _ _) (wpAny_of_eq (a := Value.none) (by first | rfl | (simp only [firstArgMember]; rfl)) (wpAny_newObj_type ?_ (by size_fits)))) (by size_fits))
  simp only [raiseNew]
  refine wpAny_bind (wpAny_handled ?_)
  rw [show A.in1.handled = none from hh]
  refine wpAny_bind (wpAny_pure (wpAny_throw ?_))
  refine wpAny_bind (wpAny_isInstance (T := "StopIteration") (b := true) ⟨_, Heap.get?_push_size _ rfl, rfl⟩ isSubtype_stop ?_)
  exact wpAny_pure (q _ (((Heap.SameBut.update ..).extBut.push _).push _))
end
structure PrsAt (es : Array DictEntry) (lo : Addr) (h : Heap) (as : List Addr) : Prop where
  up : as.Pairwise (· < ·)
  new : ∀ a ∈ as, lo < a
  at_ : ∀ (j : Nat) (a : Addr), as[j]? = some a -> ∃ e, es[j]? = some e /\ h.get? a = some { cls := .type "tuple", data := .seq #[e.key, e.val] }
theorem PrsAt.lt {es : Array DictEntry} {lo : Addr} {h : Heap} {as : List Addr} (g : PrsAt es lo h as) {a : Addr} (ha : a ∈ as) : a < h.objs.size := by
  obtain ⟨j, hj⟩ := List.mem_iff_getElem?.mp ha
  obtain ⟨_, _, z⟩ := g.at_ j a hj
  exact Heap.lt_size z
theorem PrsAt.on {es : Array DictEntry} {lo : Addr} {h h' : Heap} {as : List Addr} (g : PrsAt es lo h as) (k : ∀ a ∈ as, ∀ o, h.get? a = some o -> h'.get? a = some o) : PrsAt es lo h' as :=
  ⟨g.up, g.new, λ j a hj => by obtain ⟨e, z1, z2⟩ := g.at_ j a hj; exact ⟨e, z1, k a (List.mem_of_getElem? hj) _ z2⟩⟩
theorem PrsAt.more {es : Array DictEntry} {lo : Addr} {h h' : Heap} {as : List Addr} {e : DictEntry} {t : Addr} (g : PrsAt es lo h as) (k : ∀ a ∈ as, ∀ o, h.get? a = some o -> h'.get? a = some o) (hl : lo < t) (hu : ∀ a ∈ as, a < t) (he : es[as.length]? = some e)
    (ht : h'.get? t = some { cls := .type "tuple", data := .seq #[e.key, e.val] }) : PrsAt es lo h' (as ++ [t]) := by
  refine ⟨List.pairwise_append.mpr ⟨g.up, List.pairwise_singleton _ _, λ a ha b hb => by rw [List.mem_singleton.mp hb]; exact hu a ha⟩, λ a ha => ?_, λ j a hj => ?_⟩
  . rcases List.mem_append.mp ha with z | z
    . exact g.new a z
    . rw [List.mem_singleton.mp z]; exact hl
  . by_cases z : j < as.length
    . rw [List.getElem?_append_left z] at hj
      exact (g.on k).at_ j a hj
    . rw [List.getElem?_append_right (Nat.le_of_not_lt z)] at hj
      have z0 : j - as.length = 0 := by
        apply Classical.byContradiction
        intro n
        rw [List.getElem?_eq_none (by simp; omega)] at hj
        cases hj
      rw [z0] at hj
      cases hj
      have : j = as.length := by omega
      exact ⟨e, by rw [this]; exact he, ht⟩
section
variable {prog : Program} {w : World} {A : Around} {s : Shared} {R : Result -> Shared -> Prop} {es : Array DictEntry} {ep : Nat}
theorem pairs_loop {S I d : Addr} (hh : A.handled = none) (hSI : S < I) (hSd : d ≠ S) (hId : d ≠ I) (hn : es.size <= sizeLine) (res : Value) {g : Heap}
    (hR : ∀ h' tk acc c as, (∀ b o, b ≠ S -> b ≠ I -> g.get? b = some o -> h'.get? b = some o) -> h'.get? S = some { cls := .type "list", dict := none, data := .seq acc c, slots := #[] } -> as.length = es.size -> PrsAt es I h' as -> acc.toList = as.map Value.ref -> R (.ok (.ret res)) { s with heap := h', toks := tk }) :
    ∀ (k : Nat) (h : Heap) (tk c : Nat) (acc : Array Value) (as : List Addr), es.size - as.length = k -> as.length <= es.size -> PySem.W.KdxSt h I d S as.length es.size ep -> RawD h d es ep -> (∀ b o, b ≠ S -> b ≠ I -> g.get? b = some o -> h.get? b = some o) →
      h.get? S = some { cls := .type "list", dict := none, data := .seq acc c, slots := #[] } -> acc.toList = as.map Value.ref -> PrsAt es I h as -> I < h.objs.size -> codeAny (model prog w) A (.builtin "list.extend.loop" ⟨[.ref S, .ref I, res], []⟩) R { s with heap := h, toks := tk } := by
  have ne : S ≠ I := Nat.ne_of_lt hSI
  intro k
  induction k with
  | zero =>
    intro h tk c acc as hk hi st r kp hS ha G _
    refine codeAny_builtin F.entry_extend_loop ?_
    rw [Around.under_plainId F.plain_extend_loop _]
    show wpAny _ A.in1 (pyNext (.ref I) >>= _) _ _ _
    refine wpAny_bind (raw_pairs_end (s := { s with heap := h, toks := tk }) (A := A.in1) hh st r (by omega) λ h' x => ?_)
    exact wpAny_pure (hR h' tk acc c as (λ b o n1 n2 z => x b o n2 (kp b o n1 n2 z)) (x S _ ne hS) (by omega) (G.on λ a m o z => x a o (Nat.ne_of_gt (G.new a m)) z) ha)
  | succ k ih =>
    intro h tk c acc as hk hi st r kp hS ha G hI
    have lt : as.length < es.size := by omega
    have hz : acc.size = as.length := by rw [<- Array.length_toList, ha, List.length_map]
    have he : es[as.length]? = some es[as.length] := Array.getElem?_eq_getElem lt
    refine codeAny_builtin F.entry_extend_loop ?_
    rw [Around.under_plainId F.plain_extend_loop _]
    show wpAny _ A.in1 (pyNext (.ref I) >>= _) _ _ _
    refine wpAny_bind (raw_pair (s := { s with heap := h, toks := tk }) (S := S) st (Heap.lt_size hS) r he λ h' st' t' z' k' => ?_)
    dsimp only at t' z' k' ⊢
    have hS' := k' S _ ne hS
    have lS : S < h.objs.size := Heap.lt_size hS
    have up : ∀ b o, b ≠ S -> h'.get? b = some o -> (h'.update S (Obj.mapSeq (·.push (Value.ref h.objs.size)))).get? b = some o := λ b o n z => (Heap.get?_update_other _ _ (Ne.symm n)).trans z
    have G' := G.more (h' := h'.update S (Obj.mapSeq (·.push (Value.ref h.objs.size)))) (λ a m o z => up a o (Nat.ne_of_gt (Nat.lt_trans hSI (G.new a m))) (k' a o (Nat.ne_of_gt (G.new a m)) z)) hI (λ a m => G.lt m) he (up _ _ (Nat.ne_of_gt lS) t')
    have st2 : PySem.W.KdxSt (h'.update S (Obj.mapSeq (·.push (Value.ref h.objs.size)))) I d S (as ++ [h.objs.size]).length es.size ep := by
      rw [List.length_append]
      exact st'.keep up (Ne.symm ne)
    have r2 : RawD (h'.update S (Obj.mapSeq (·.push (Value.ref h.objs.size)))) d es ep := by
      obtain ⟨o, z1, z2⟩ := r
      exact ⟨o, up d o hSd (k' d o hId z1), z2⟩
    show wpAny _ A.in1 (updateSeq S (·.push (Value.ref h.objs.size)) >>= _) _ _ _
    refine wpAny_bind (wpAny_updateSeq hS' rfl (wpAny_pure ⟨plainId_quiet F.plain_extend_loop _, ih _ tk _ (acc.push (Value.ref h.objs.size)) (as ++ [h.objs.size]) (by rw [List.length_append, List.length_singleton]; omega) (by rw [List.length_append, List.length_singleton]; omega) st2 r2
      (λ b o n1 n2 z => up b o n1 (k' b o n2 (kp b o n1 n2 z))) (Heap.get?_update_self _ hS' rfl) (by rw [Array.toList_push, ha, List.map_append]; rfl) G' ?_⟩) (by rw [hz]; omega) (by show (acc.push (Value.ref h.objs.size)).size <= sizeLine + 1; rw [Array.size_push, hz]; omega))
    exact Nat.lt_trans hI (Heap.lt_size (up _ _ (Nat.ne_of_gt lS) t'))
end
section
variable {X : Cx} {tg : Expr}
noncomputable def ItR (X : Cx) (tg : Expr) (r : V -> Hp -> (It -> Hp -> Th -> Prop) -> Prop) : Prop :=
  ∀ (pins : List (Addr × Obj)) (s : Shared) (σ : St) (H : Hp) (x : V) (v : Value) (R : It -> Hp -> Th -> Prop), Inv X pins σ H s -> RelV x v -> r x H R -> wpAny (model X.prog X.w) X.A (pyIter v) (PIE2 X pins σ tg R) X.xe s
@[irreducible] noncomputable def iterG (x : V) (H : Hp) (R : It -> Hp -> Th -> Prop) : Prop := match x with
  | .str z => R (Its z) H none
  | .ref a => match H a with
    | some (.lst _) => R (Itl0 a) H none
    | some (.tup _) => R (Itt0 a) H none
    | some (.dK kvs) => ∀ o, R (Itd a o kvs) (upd H a (.frz o (.dK kvs))) (some (a, .dK kvs))
    | some (.frz o (.dK kvs)) => R (Itd a o kvs) H none
    | some (.dT kvs) => ∀ o, R (Itdt a o kvs) (upd H a (.frz o (.dT kvs))) (some (a, .dT kvs))
    | some (.frz o (.dT kvs)) => R (Itdt a o kvs) H none
    | _ => False
  | _ => False
theorem no_th {X : Cx} : ∀ a u, (none : Th) = some (a, u) -> NF X a := λ _ _ e => by cases e
theorem it_dict {pins : List (Addr × Obj)} {s : Shared} {σ : St} {H : Hp} {R : It -> Hp -> Th -> Prop} {a : Addr} {o : Obj} {kvs : List (Key × V)} {th : Th} (nf : ∀ a u, th = some (a, u) -> NF X a) (I : Inv X pins σ H s) (e : H a = some (.frz o (.dK kvs))) (h : R (Itd a o kvs) H th) : wpAny (model X.prog X.w) X.A (pyIter (.ref a)) (PIE2 X pins σ tg R) X.xe s := by
  obtain ⟨lo, _, eo, vs, ep, r, d⟩ := frz_at I e
  refine wpAny_pyIter_dict lo d ⟨th, nf, s.heap.objs.size, [s.heap.objs.size], _, Itd a o kvs, H, rfl, I.kept (t' := s.toks) λ b o e => Heap.get?_push_of_some _ e, turn_dict s.heap.objs.size a o r (dict_const eo d), ⟨_, Heap.get?_push_size _ rfl, rfl, rfl⟩, λ b hb => ?_, h⟩
  have e : b = s.heap.objs.size := by simpa using hb
  subst e
  exact I.fpOk (Nat.le_refl _) (I.hok.fresh (Nat.le_refl _))
theorem it_dT {pins : List (Addr × Obj)} {s : Shared} {σ : St} {H : Hp} {R : It -> Hp -> Th -> Prop} {a : Addr} {o : Obj} {kvs : List (List Key × V)} {th : Th} (nf : ∀ a u, th = some (a, u) -> NF X a) (I : Inv X pins σ H s) (e : H a = some (.frz o (.dT kvs))) (h : R (Itdt a o kvs) H th) : wpAny (model X.prog X.w) X.A (pyIter (.ref a)) (PIE2 X pins σ tg R) X.xe s := by
  obtain ⟨lo, _, xs, es, ep, pr, e4, r⟩ := dT_raw I (.inr ⟨o, e⟩)
  obtain ⟨o', r1, r2, r3⟩ := id r
  rw [(I.hok a _ e).1] at r1
  cases r1
  have hl : es.size = kvs.length := by
    rw [<- Array.length_toList, e4, List.length_map]
    exact (Paired.length pr).symm
  refine raw_iter lo r ⟨th, nf, s.heap.objs.size, [s.heap.objs.size], _, Itdt a o kvs, H, rfl, I.kept (t' := s.toks) λ b o e => Heap.get?_push_of_some _ e, turn_dT s.heap.objs.size a o hl r3, ⟨_, Heap.get?_push_size _ rfl, rfl, rfl⟩, λ b hb => ?_, h⟩
  have e : b = s.heap.objs.size := by simpa using hb
  subst e
  exact I.fpOk (Nat.le_refl _) (I.hok.fresh (Nat.le_refl _))
theorem it_G : ItR X tg iterG := λ pins s σ H x v R I r h => by
  unfold iterG at h
  split at h
  . rename_i z
    obtain ⟨t, rfl⟩ := r
    have fin : ∀ (o : Obj) (ty : String), ty = "str_ascii_iterator" \/ ty = "str_iterator" -> (s.heap.push o).IsStrIter s.heap.objs.size ty z t 0 -> PIE2 X pins σ tg R (.ref s.heap.objs.size) { s with heap := s.heap.push o } := λ o ty hty st => by
      refine ⟨none, no_th, s.heap.objs.size, [s.heap.objs.size], _, Its z, H, rfl, I.kept (t' := s.toks) λ b o e => Heap.get?_push_of_some _ e, turn_str _ z t ty hty, st, λ b hb => ?_, h⟩
      have e : b = s.heap.objs.size := by simpa using hb
      subst e
      exact I.fpOk (Nat.le_refl _) (I.hok.fresh (Nat.le_refl _))
    cases ha : z.cps.all (· < 128)
    . exact wpAny_pyIter_wide ha (fin _ _ (.inr rfl) ⟨_, Heap.get?_push_size _ rfl, rfl, rfl⟩)
    . exact wpAny_pyIter_ascii ha (fin _ _ (.inl rfl) ⟨_, Heap.get?_push_size _ rfl, rfl, rfl⟩)
  . rename_i a
    cases r
    split at h
    . rename_i xs e
      obtain ⟨its, rv, p, hz⟩ := I.list (.inl (.inl e))
      refine wpAny_pyIter_list p.isList ⟨none, no_th, s.heap.objs.size, [s.heap.objs.size], _, Itl0 a, H, rfl, I.kept (t' := s.toks) λ b o e => Heap.get?_push_of_some _ e, (turn_list (K := X.K) a _).imp (λ i H ⟨xs, x, h1, h2⟩ => ⟨xs, x, .inl h1, h2⟩) (λ i H x H' _ ⟨h1, h2⟩ => ⟨h1, λ xs h => h2 xs (.inl h)⟩) (λ i H ⟨xs, h1, h2⟩ => ⟨xs, .inl h1, h2⟩), ⟨_, Heap.get?_push_size _ rfl, rfl, rfl⟩, λ b hb => ?_, h⟩
      have e : b = s.heap.objs.size := by simpa using hb
      subst e
      exact I.fpOk (Nat.le_refl _) (I.hok.fresh (Nat.le_refl _))
    . rename_i xs e
      obtain ⟨its, rv, p, hz⟩ := I.tuple (.inl (.inl e))
      refine wpAny_pyIter_tuple (show s.heap.IsTuple a its.toArray from p) ⟨none, no_th, s.heap.objs.size, [s.heap.objs.size], _, Itt0 a, H, rfl, I.kept (t' := s.toks) λ b o e => Heap.get?_push_of_some _ e, (turn_tuple (K := X.K) a _).imp (λ i H ⟨xs, x, h1, h2⟩ => ⟨xs, x, .inl h1, h2⟩) (λ i H x H' _ ⟨h1, h2⟩ => ⟨h1, λ xs h => h2 xs (.inl h)⟩) (λ i H ⟨xs, h1, h2⟩ => ⟨xs, .inl h1, h2⟩), ⟨_, Heap.get?_push_size _ rfl, rfl, rfl⟩, λ b hb => ?_, h⟩
      have e : b = s.heap.objs.size := by simpa using hb
      subst e
      exact I.fpOk (Nat.le_refl _) (I.hok.fresh (Nat.le_refl _))
    . rename_i kvs e
      obtain ⟨nf, o, eo, I'⟩ := inv_freeze I e rfl
      exact it_dict (th := some (a, .dK kvs)) (λ b u z => by cases z; exact nf) I' upd_same (h o)
    . rename_i o kvs e
      exact it_dict no_th I e h
    . rename_i kvs e
      obtain ⟨nf, o, eo, I'⟩ := inv_freeze I e rfl
      exact it_dT (th := some (a, .dT kvs)) (λ b u z => by cases z; exact nf) I' upd_same (h o)
    . rename_i o kvs e
      exact it_dT no_th I e h
    . exact h.elim
  . exact h.elim
noncomputable def iOf (r : V -> Hp -> (It -> Hp -> Th -> Prop) -> Prop) (te : TE) : TI2 := λ σ H R => te σ H λ x H1 => r x H1 R
theorem pi_of {r : V -> Hp -> (It -> Hp -> Th -> Prop) -> Prop} {e : Expr} {te : TE} (hr : ItR X tg r) (he : PE X e te) : PI2 X tg e (iOf r te) := λ pins s σ H R I h =>
  thn (he pins s σ H _ I h) λ v s1 ⟨x, H1, I1, r1, q1⟩ => hr pins s1 σ H1 x v R I1 r1 q1
noncomputable def xI2 : TI2 := λ _ _ _ => False
theorem pi2_x {e : Expr} : PI2 X tg e xI2 := λ _ _ _ _ _ _ h => h.elim
noncomputable def rngG (vs : List V) (H : Hp) (R : It -> Hp -> Th -> Prop) : Prop := match vs with
  | [.int j] => (-(2 ^ 62) <= j /\ j < 2 ^ 62) /\ R (Itr 0 j.toNat) H none
  | [.int i, .int j] => (-(2 ^ 62) <= i /\ i < 2 ^ 62 /\ -(2 ^ 62) <= j /\ j < 2 ^ 62) /\ R (Itr i (j - i).toNat) H none
  | _ => False
noncomputable def iRngG (ta : TA) : TI2 := λ σ H R => ta σ H λ vs H1 => rngG vs H1 R
theorem pie_none {pins : List (Addr × Obj)} {σ : St} {R : It -> Hp -> Th -> Prop} {v : Value} {s : Shared} (h : PIE X pins σ tg (λ J H => R J H none) v s) : PIE2 X pins σ tg R v s := ⟨none, no_th, h⟩
theorem pi_rng {e : Expr} {es : List Expr} {ta : TA} {p pos : Pos} (hg : Gl X "range") (hm : X.mg "range" = none) (ha : PA X (e :: es) ta) (hs : (e :: es).any isStar = false) : PI2 X tg (.Call (.Name "range" p) (e :: es) [] pos) (iRngG ta) := by
  rw [List.any_cons, Bool.or_eq_false_iff] at hs
  intro pins s σ H R I h
  refine Call_ (ld_blt I hg hm boot_range (PyProof.Rows.callWith_type1 (thn (ha pos pins s σ H _ I h) λ us s1 ⟨vs, H1, I1, r1, q1⟩ => ?_) (star_cons hs.1) (stars_none hs.2).1))
  have q1 : rngG vs H1 R := q1
  unfold rngG at q1
  split at q1
  . obtain ⟨⟨h1, h2⟩, q⟩ := q1
    obtain ⟨u, rfl, ru⟩ := vals1 r1
    obtain ⟨t, rfl⟩ := ru
    exact call_range_1 (thn (range_it (tg := tg) (R := λ J H => R J H none) I1 (by omega) (by omega) h1 h2 (by simpa using q)) λ _ _ z => pie_none z)
  . obtain ⟨⟨h1, h2, h3, h4⟩, q⟩ := q1
    obtain ⟨u, u2, rfl, ru, ru2⟩ := vals2 r1
    obtain ⟨t, rfl⟩ := ru
    obtain ⟨t', rfl⟩ := ru2
    exact call_range_2 (thn (range_it (tg := tg) (R := λ J H => R J H none) I1 h1 h2 h3 h4 q) λ _ _ z => pie_none z)
  . exact q1.elim
@[irreducible] noncomputable def itemsG (x : V) (H : Hp) (R : It -> Hp -> Th -> Prop) : Prop := match x with
  | .ref a => match H a with
    | some (.dK kvs) => ∀ o, R (Itp a o kvs) (upd H a (.frz o (.dK kvs))) (some (a, .dK kvs))
    | some (.frz o (.dK kvs)) => R (Itp a o kvs) H none
    | _ => False
  | _ => False
theorem it_items {es : List Expr} {k1 : Nat} {tp : Pos} {pins : List (Addr × Obj)} {s : Shared} {σ : St} {H : Hp} {R : It -> Hp -> Th -> Prop} {a v : Addr} {o : Obj} {kvs : List (Key × V)} {th : Th} (nf : ∀ a u, th = some (a, u) -> NF X a) (I : Inv X pins σ H s) (e : H a = some (.frz o (.dK kvs))) (hv : s.heap.IsItemsView v a) (h : R (Itp a o kvs) H th) : wpAny (model X.prog X.w) X.A (pyIter (.ref v)) (PIE2 X pins σ (.Tuple es k1 tp) R) X.xe s := by
  obtain ⟨lo, _, eo, vs, ep, r, d⟩ := frz_at I e
  refine wpAny_pyIter_items hv d ⟨th, nf, s.heap.objs.size, [s.heap.objs.size], _, Itp a o kvs, H, rfl, I.kept (t' := s.toks) λ b o e => Heap.get?_push_of_some _ e, turn_items s.heap.objs.size a o r (dict_const eo d), ⟨.none, .none, Heap.get?_push_size _ rfl⟩, λ b hb => ?_, h⟩
  have e : b = s.heap.objs.size := by simpa using hb
  subst e
  exact I.fpOk (Nat.le_refl _) (I.hok.fresh (Nat.le_refl _))
theorem pi_items {d : Expr} {td : TE} {es : List Expr} {k1 : Nat} {tp apos cpos : Pos} (hd : PE X d td) (hb : notSuper d = true) (hline : (apos.endLine == cpos.line) = true) : PI2 X (.Tuple es k1 tp) (.Call (.Attribute d "items" apos) [] [] cpos) (iOf itemsG td) := by
  intro pins s σ H R I h
  refine wpAny_Call_method0_late (base_of hb) hline (thn (hd pins s σ H _ I h) λ v s1 ⟨x, H1, I1, r1, q1⟩ => ?_)
  replace q1 : itemsG x H1 R := q1
  have go : ∀ a : Addr, x = .ref a -> (∃ kvs, Rd H1 a (.dK kvs)) -> (∀ s2, Inv X pins σ H1 s2 -> s2.heap.IsItemsView s1.heap.objs.size a -> wpAny (model X.prog X.w) X.A (pyIter (.ref s1.heap.objs.size)) (PIE2 X pins σ (.Tuple es k1 tp) R) X.xe s2) →
      ∃ T id, PlainAttrs T /\ Slot T "items" id /\ typeOf (.builtin id) = pure (.type "method_descriptor") /\ s1.TypeIs v T /\ (∀ a, v = .ref a -> ∃ ob, s1.heap.get? a = some ob /\ ob.dict = none) ∧
        wpAny (model X.prog X.w) X.A (callWith cpos (.builtin id) [v] (backTo cpos (starEach [] X.env)) (backToKw cpos (keywordEach [] X.env))) (λ v s1 => wpAny (model X.prog X.w) X.A (pyIter v) (PIE2 X pins σ (.Tuple es k1 tp) R) X.xe s1) X.xe s1 := λ a ea hk next => by
    subst ea
    cases r1
    obtain ⟨kvs, hk⟩ := hk
    obtain ⟨ty, nd, lo⟩ := isD_at I1 (.inl ⟨kvs, hk⟩)
    obtain ⟨z, _, vs, r, dd⟩ := dk_rd I1.hok hk
    refine ⟨"dict", "dict.items", PySem.F.plainAttrs_dict, PySem.F.slot_dict_items, PySem.F.type_dict_items, ty, nd, Calls.callWith_builtin rfl (PySem.evalArgs_none ?_)⟩
    refine call_meetsIn PySem.F.slot_dict_items ty PySem.F.entry_dict_items (PySem.F.args_dict_items_1 _) (meets_dict_items (mixKind X.prog X.w) a lo) ⟨⟨vs, dd⟩, ?_⟩
    exact next _ (I1.kept (t' := s1.toks) λ b o e => Heap.get?_push_of_some _ e) ⟨_, Heap.get?_push_size _ rfl, rfl, rfl⟩
  unfold itemsG at q1
  split at q1
  . rename_i a
    split at q1
    . rename_i kvs e
      refine go a rfl ⟨kvs, .inl e⟩ λ s2 I2 hv => ?_
      obtain ⟨nf, o, eo, I'⟩ := inv_freeze I2 e rfl
      exact it_items (th := some (a, .dK kvs)) (λ b u z => by cases z; exact nf) I' upd_same hv (q1 o)
    . rename_i o kvs e
      exact go a rfl ⟨kvs, .inr ⟨o, e⟩⟩ λ s2 I2 hv => it_items no_th I2 e hv q1
    . exact q1.elim
  . exact q1.elim
structure Cfg where
  K : PySem.W.Frag
  N : List Str
  names : List (Str × NameKind)
  fns : List (Str × Sp)
  mks : List (Str × Addr × Sp)
  mts : List (Str × Addr × Sp)
  fld : List (Str × Addr)
  glo : List (Str × V)
  nog : List Str
  scr : List Str
  E : XK
  ics : List Addr
structure IsC (K : PySem.W.Frag) (C : Addr) : Prop where
  cl : Cls K C
  ha : PySem.W.findIn K (.ref C) "__class__" = some (some (.builtin "object.__class__"))
  hn : PySem.W.specialIn K (.builtin "object.__class__") "__get__" = some (some (.builtin "getset_descriptor.__get__"))
  tk : PySem.W.takesIn K (.builtin "object.__class__") = some true
  hm : PySem.W.mroIn K C (.type "object") = some true
@[irreducible] noncomputable def isiC (ics : List Addr) : List V -> Hp -> VK -> Prop := λ xs H Q => match xs with
  | [.ref a, .ref c] => match H a with
    | some (.ins C _ _) => C = c /\ c ∈ ics /\ Q (.bl true) H
    | _ => False
  | _ => False
theorem call_isiC {X : Cx} {ics : List Addr} (hi : ∀ c ∈ ics, IsC X.K c) : CallR X (.builtin "isinstance") (isiC ics) := λ pins s σ H xs us Q I r h => by
  unfold isiC at h
  split at h
  . split at h
    . rename_i a c _ C dx fs ea
      obtain ⟨rfl, hc, q⟩ := h
      obtain ⟨u, w', rfl, ru, rw'⟩ := vals2 r
      cases rw'
      have ic := hi _ hc
      exact isinst_ok I ru (.ins ea ic.cl ic.ha ic.hn ic.tk ic.hm) (by unfold PySem.W.kitOne; simp) λ tk => ⟨.bl true, H, I.tok tk, rfl, q⟩
    . exact h.elim
  . exact h.elim
structure Fits (CX : CXT) (k : Nat) (X : Cx) (C : Cfg) : Prop where
  K : X.K = C.K
  N : X.N = C.N
  nd : C.N.Nodup
  names : X.env.scope.names = C.names
  kind : X.env.scope.kind = .function
  calm : X.calm = true
  room : Room (k + 1) X.A
  pass : Passes CX X C.E
  no : ∀ (o : List Env) (H : Hp) (s : Shared) (e : Value) (s' : Shared), CX o H s E0 e s' -> False
  fns : ∀ x sp, C.fns.lookup x = some sp -> ∃ f fd ps, FnOk X.prog X.w X.K X.mg X.base CX k f fd ps sp /\ X.mg x = some (.ref f) /\ PySem.W.keepIn X.K (.ref f) = true /\ Binds X.K fd ps []
  mks : ∀ x cl sp, C.mks.lookup x = some (cl, sp) -> ∃ f fd ps, Mk X.K cl f /\ FnOk X.prog X.w X.K X.mg X.base CX k f fd ps sp /\ X.mg x = some (.ref cl) /\ Binds X.K fd ps []
  mts : ∀ m cl sp, C.mts.lookup m = some (cl, sp) -> ∃ f fd ps, Cls X.K cl /\ Meth X.K cl m f /\ FnOk X.prog X.w X.K X.mg X.base CX k f fd ps sp /\ Binds X.K fd ps []
  fld : ∀ f cl, C.fld.lookup f = some cl -> Cls X.K cl /\ NoAttr X.K cl f
  glo : ∀ x v, C.glo.lookup x = some v -> ∃ u, X.mg x = some u /\ RelV v u
  nog : ∀ x ∈ C.nog, X.mg x = none
  ics : ∀ c ∈ C.ics, IsC X.K c
noncomputable def okName (x : Str) : Bool := !(x == ("__debug__" : Str)) && !(x == ("__classdict__" : Str))
noncomputable def nameG (C : Cfg) (x : Str) : TE := match okName x with
  | true => match C.names.lookup x with
    | some .globalImplicit => match C.glo.lookup x with
      | some v => tC v
      | none => match C.nog.contains x, tyName x with
        | true, some T => tC (.ty T)
        | _, _ => xE
    | some .local => match slotOf C.N x with
      | some i => gv i
      | none => xE
    | some .cell => match slotOf C.N x with
      | some i => gv i
      | none => xE
    | _ => xE
  | false => xE
section
variable {CX : CXT} {k : Nat} {C : Cfg}
theorem pe_nameG (F : Fits CX k X C) (x : Str) (pos : Pos) : PE X (.Name x pos) (nameG C x) := by
  unfold nameG
  split
  . rename_i ok
    simp only [okName, Bool.and_eq_true, Bool.not_eq_true'] at ok
    split
    . rename_i e
      have hg : Gl X x := by
        show X.env.scope.names.lookup x = _
        rw [F.names]
        exact e
      split
      . rename_i v ev
        obtain ⟨u, hm, r⟩ := F.glo x v ev
        exact pe_glob hg hm r ok.1
      . split
        . rename_i h1 h2
          obtain ⟨b1, b2, b3⟩ := tyName_ok h2
          exact pe_bltn hg (F.nog x (by simpa using h1)) b1 rfl b2 b3
        . exact pe_x
    . rename_i e
      split
      . rename_i i ei
        exact pe_gv (by rw [F.N]; exact slotOf_get ei) (.inl (by rw [F.names]; exact e)) ok.1 ok.2
      . exact pe_x
    . rename_i e
      split
      . rename_i i ei
        exact pe_gv (by rw [F.N]; exact slotOf_get ei) (.inr (.inl (by rw [F.names]; exact e))) ok.1 ok.2
      . exact pe_x
    . exact pe_x
  . exact pe_x
end
end
section
variable {prog : Program} {w : World} {A : Around} {E : Value -> Shared -> Prop} {s : Shared} {es : Array DictEntry} {ep : Nat} {r d : Addr}
theorem pairs_extend {R : Result -> Shared -> Prop} (hh : A.handled = none) (hv : s.heap.IsItemsView r d) (hm : RawD s.heap d es ep) (S : Addr) (hSr : S ≠ r) (hSd : d ≠ S) (res : Value) (c₀ : Nat) (hS : s.heap.get? S = some { cls := .type "list", data := .seq #[] c₀ }) (hn : es.size <= sizeLine)
    (hR : ∀ h' tk acc c as, (∀ b o, b ≠ S -> s.heap.get? b = some o -> h'.get? b = some o) -> h'.get? S = some { cls := .type "list", dict := none, data := .seq acc c, slots := #[] } -> as.length = es.size -> PrsAt es s.heap.objs.size h' as -> acc.toList = as.map Value.ref -> R (.ok (.ret res)) { s with heap := h', toks := tk }) :
    wpAny (model prog w) A.in1 (Builtin.List.listExtendWith (.ref S) (.ref r) res) (λ fin s' => match fin with | .done f => R (.ok f) s' | .again c' => c'.quiet = true /\ codeAny (model prog w) A c' R s') (λ e s' => R (.error e) s') s := by
  have lS : S < s.heap.objs.size := Heap.lt_size hS
  have ld : d < s.heap.objs.size := by obtain ⟨o, z, _⟩ := hm; exact Heap.lt_size z
  obtain ⟨ob, hob⟩ : ∃ ob : Obj, ob = { cls := .type "dict_itemiterator", data := .fields #[.none, .bool false, .ref d, .int 0 0, .int es.size 0, .int ep 0, .none, .none] } := ⟨_, rfl⟩
  have go : ∀ (h : Heap) (c₁ tk : Nat), (∀ b o, b ≠ S -> (s.heap.push ob).get? b = some o -> h.get? b = some o) -> h.get? S = some { cls := .type "list", data := .seq #[] c₁ } -> codeAny (model prog w) A (.builtin "list.extend.loop" ⟨[.ref S, .ref s.heap.objs.size, res], []⟩) R { s with heap := h, toks := tk } := by
    intro h c₁ tk hk h1
    have hI := hk s.heap.objs.size _ (Nat.ne_of_gt lS) (Heap.get?_push_size _ (by rw [hob]; rfl))
    rw [hob] at hI
    refine pairs_loop (es := es) (ep := ep) (s := s) (g := s.heap) (d := d) hh lS hSd (Nat.ne_of_lt ld) hn res (λ h' tk' acc c as k2 z1 z2 z3 z4 => hR h' tk' acc c as (λ b o n z => k2 b o n (Nat.ne_of_lt (Heap.lt_size z)) z) z1 z2 z3 z4) es.size h tk c₁ #[] [] (Nat.sub_zero _) (Nat.zero_le _) (.inl ⟨rfl, .none, .none, hI⟩) ?_ (λ b o n _ z => hk b o n (Heap.get?_push_of_some _ z)) h1 rfl ⟨List.Pairwise.nil, (λ _ z => nomatch z), λ j a z => by simp at z⟩ (Heap.lt_size hI)
    obtain ⟨o, z1, z2⟩ := hm
    exact ⟨o, hk d o hSd (Heap.get?_push_of_some _ z1), z2⟩
  unfold Builtin.List.listExtendWith
  refine wpAny_bind (wpAny_typeOf (T := "dict_items") hv.typeIs ?_)
  rw [show Builtin.List.listSameRef (.ref S) (.ref r) = false by simp [Builtin.List.listSameRef, hSr]]
  simp only [show (Value.type "dict_items" == Value.type "list") = false by decide, show (Value.type "dict_items" == Value.type "tuple") = false by decide, Bool.or_false, Bool.false_eq_true, if_false]
  refine wpAny_bind (raw_items hv hm ?_)
  rw [<- hob]
  have h1 := Heap.get?_push_of_some ob hS
  refine wpAny_bind (wpAny_holding (PySem.W.kdx_hint (by obtain ⟨o, z1, z2, _⟩ := hv; exact ⟨o, Heap.get?_push_of_some _ z1, z2⟩) ?_))
  refine wpAny_ite_split (λ _ => ?_) λ _ => wpAny_pure ⟨plainId_quiet F.plain_extend_loop _, go _ c₀ _ (λ b o _ z => z) h1⟩
  refine wpAny_bind (wpAny_rule (wpAny_bind ?_))
  show wpAny _ _ (updateSeq S (·.push .none) >>= λ _ => updateSeq S (·.pop)) _ _ _
  refine wpAny_bind (wpAny_updateSeq h1 rfl ?_)
  have h2 := Heap.get?_update_self (Obj.mapSeq (·.push Value.none)) h1 rfl
  refine wpAny_updateSeq (hz := by seq_fits) h2 rfl ?_
  have h3 := Heap.get?_update_self (Obj.mapSeq (·.pop)) h2 rfl
  exact wpAny_pure ⟨plainId_quiet F.plain_extend_loop _, go _ _ _ (λ b o n z => (Heap.get?_update_other _ _ (Ne.symm n)).trans ((Heap.get?_update_other _ _ (Ne.symm n)).trans z)) h3⟩
theorem pairs_call {Q : Value -> Shared -> Prop} (hh : A.handled = none) (hv : s.heap.IsItemsView r d) (hm : RawD s.heap d es ep) (hn : es.size <= sizeLine)
    (hQ : ∀ h' tk acc c as, (∀ b o, s.heap.get? b = some o -> h'.get? b = some o) -> h'.get? s.heap.objs.size = some { cls := .type "list", dict := none, data := .seq acc c, slots := #[] } -> as.length = es.size -> PrsAt es s.heap.objs.size h' as -> acc.toList = as.map Value.ref -> Q (.ref s.heap.objs.size) { s with heap := h', toks := tk }) :
    wpAny (model prog w) A (call (.type "list") [.ref r]) Q E s := by
  refine callType_codes (Q₁ := λ obj s₁ => obj = .ref s.heap.objs.size /\ s₁ = { s with heap := s.heap.push { cls := .type "list", data := .seq #[] } }) F.called_list (F.typeCall_list_1 _) F.entry_list_init (code_list_new _ ⟨rfl, rfl⟩) λ obj s₁ z => ?_
  obtain ⟨rfl, rfl⟩ := z
  obtain ⟨S, hSe⟩ : ∃ S, S = s.heap.objs.size := ⟨_, rfl⟩
  have hS : (s.heap.push { cls := .type "list", data := .seq #[] }).get? S = some { cls := .type "list", data := .seq #[] } := by rw [hSe]; exact Heap.get?_push_size _ rfl
  have lr : r < s.heap.objs.size := by obtain ⟨o, z, _⟩ := hv; exact Heap.lt_size z
  have ld : d < s.heap.objs.size := by obtain ⟨o, z, _⟩ := hm; exact Heap.lt_size z
  rw [<- hSe]
  refine ⟨⟨_, hS, rfl⟩, F.args_list_init_2 _ _, ?_⟩
  show wpAny _ _ (do let old ← Builtin.List.listItems (.ref S); Builtin.List.listUpdate (.ref S) (λ _ => #[]); letGo old.toList.reverse; Builtin.List.listExtendWith (.ref S) (.ref r) .none) _ _ _
  unfold Builtin.List.listItems
  refine wpAny_bind (wpAny_bind (wpAny_seqItems hS rfl (wpAny_pure ?_)))
  show wpAny _ _ (updateSeq S (λ _ => #[]) >>= λ _ => letGo (#[] : Array Value).toList.reverse >>= λ _ => Builtin.List.listExtendWith (.ref S) (.ref r) .none) _ _ _
  refine wpAny_bind (wpAny_updateSeq hS rfl ?_)
  have h2 := Heap.get?_update_self (Obj.mapSeq (λ _ => (#[] : Array Value))) hS rfl
  have oth : ∀ b o, s.heap.get? b = some o -> ((s.heap.push { cls := .type "list", data := .seq #[] }).update S (Obj.mapSeq (λ _ => (#[] : Array Value)))).get? b = some o := λ b o z => (Heap.get?_update_other _ _ (by rw [hSe]; exact Nat.ne_of_gt (Heap.lt_size z))).trans (Heap.get?_push_of_some _ z)
  refine wpAny_bind (wpAny_letGo (pairs_extend (A := A.in1) (es := es) (ep := ep) (d := d) hh ?_ ?_ S (by rw [hSe]; exact Nat.ne_of_gt lr) (by rw [hSe]; exact Nat.ne_of_lt ld) .none _ h2 hn λ h' tk acc c as k z1 z2 z3 z4 => ⟨rfl, ?_⟩))
  . obtain ⟨o, z1, z2⟩ := hv
    exact ⟨o, oth r o z1, z2⟩
  . obtain ⟨o, z1, z2⟩ := hm
    exact ⟨o, oth d o z1, z2⟩
  . rw [hSe]
    refine hQ h' tk acc c as (λ b o z => k b o (by rw [hSe]; exact Nat.ne_of_lt (Heap.lt_size z)) (oth b o z)) (by rw [<- hSe]; exact z1) z2 ⟨z3.up, λ a m => ?_, z3.at_⟩ z4
    exact Nat.lt_trans (by rw [<- hSe]; exact Heap.lt_size h2) (z3.new a m)
theorem meets_view (d : Addr) (hd : (d == sysModules) = false) : MeetsIn prog w (Builtin.«dict.items» ⟨[.ref d], []⟩) (λ _ R s => s.TypeIs (.ref d) "dict" /\ R (.ok (.ret (.ref s.heap.objs.size))) { s with heap := s.heap.push { cls := .type "dict_items", data := .fields #[.ref d] } }) :=
  .of_wp λ A R s ⟨ty, h⟩ => by
    unfold Builtin.«dict.items» Builtin.Dict.noArgs
    refine wpAny_bind (wpAny_bind (wpAny_notOrdered_dict ty ?_))
    show wpAny _ _ (pure d) _ _ s
    refine wpAny_pure ?_
    show wpAny _ _ (Builtin.Dict.showsAll d >>= _) _ _ s
    unfold Builtin.Dict.showsAll
    rw [if_neg (by rw [hd]; decide)]
    exact wpAny_bind (wpAny_pure (wpAny_bind (wpAny_newObj_type (wpAny_pure ⟨_, rfl, h⟩))))
end
@[irreducible] noncomputable def newPairs : List (List Key × V) -> Hp -> (List V -> Hp -> Prop) -> Prop
  | [], H, R => R [] H
  | kv :: r, H, R => ∀ t p, H t = some (.tup (kv.1.map kV)) -> H p = none -> newPairs r (upd H p (.tup [.ref t, kv.2])) λ xs H' => R (.ref p :: xs) H'
theorem newPairs_nil {H : Hp} {R : List V -> Hp -> Prop} : newPairs [] H R = R [] H := by with_unfolding_all rfl
theorem newPairs_cons {kv : List Key × V} {r : List (List Key × V)} {H : Hp} {R : List V -> Hp -> Prop} : newPairs (kv :: r) H R = ∀ t p, H t = some (.tup (kv.1.map kV)) -> H p = none -> newPairs r (upd H p (.tup [.ref t, kv.2])) λ xs H' => R (.ref p :: xs) H' := by
  with_unfolding_all rfl
@[irreducible] noncomputable def lstItems (x : V) (H : Hp) (Q : VK) : Prop := match x with
  | .ref a => match H a with
    | some (.dT kvs) => newPairs kvs H λ xs H' => newO H' (.lst xs) Q
    | some (.frz _ (.dT kvs)) => newPairs kvs H λ xs H' => newO H' (.lst xs) Q
    | _ => False
  | _ => False
noncomputable def tListItems (td : TE) : TE := λ σ H Q => td σ H λ x H1 => lstItems x H1 Q
section
variable {X : Cx} {pins : List (Addr × Obj)} {σ : St} {s0 s : Shared}
theorem pairs_tracked (n : Nat) (h0 : ∀ (H' : Hp) b, n <= b -> H' b = none -> FpOk X pins H' b) (hs0 : X.s₀.heap.objs.size <= n) {kind : List Key × Addr × Value -> DictEntry} (hkind : ∀ x, (kind x).key = .ref x.2.1 /\ (kind x).val = x.2.2) :
    ∀ (as : List Addr) (kvs : List (List Key × V)) (xs : List (List Key × Addr × Value)) (H : Hp) (R : List V -> Hp -> Prop), Inv X pins σ H s -> KT H kvs xs -> as.length = xs.length -> as.Pairwise (· < ·) -> (∀ a ∈ as, n <= a /\ H a = none) →
      (∀ (j : Nat) (a : Addr), as[j]? = some a -> ∃ x, xs[j]? = some x /\ s.heap.get? a = some { cls := .type "tuple", data := .seq #[(kind x).key, (kind x).val] }) -> newPairs kvs H R →
      ∃ vs H', Vals vs (as.map Value.ref) /\ Inv X pins σ H' s /\ R vs H' /\ ∀ b, b ∉ as -> H' b = H b
  | [], kvs, xs, H, R, I, kt, hl, _, _, _, q => by
    cases kt with
    | nil => rw [newPairs_nil] at q; exact ⟨[], H, .nil, I, q, λ _ _ => rfl⟩
    | cons _ _ => simp at hl
  | a :: as, kvs, xs, H, R, I, kt, hl, up, fr, hp, q => by
    cases kt with
    | nil => simp at hl
    | cons hx kt =>
      rename_i kv x kvs xs
      obtain ⟨k1, k2, k3⟩ := hx
      rw [newPairs_cons] at q
      obtain ⟨na, ha⟩ := fr a (by simp)
      obtain ⟨y, hy, ht⟩ := hp 0 a rfl
      simp at hy
      subst hy
      have up' := List.pairwise_cons.mp up
      have I1 : Inv X pins σ (upd H a (.tup [.ref x.2.1, kv.2])) s := by
        refine inv_track I (h0 H a na ha) (Nat.le_trans hs0 na) ⟨by show 2 <= sizeLine; decide, [(kind x).key, (kind x).val], ?_, _, ht, rfl, _, rfl⟩
        rw [(hkind x).1, (hkind x).2]
        exact .cons rfl (.cons k3 .nil)
      obtain ⟨vs, H', r1, r2, r3, r4⟩ := pairs_tracked n h0 hs0 hkind as kvs xs _ _ I1 (KT.keeps kt λ b ys e => by rw [upd_ne (ne_of_none e ha)]; exact e) (by simpa using hl) up'.2 (λ b hb => ⟨(fr b (by simp [hb])).1, by rw [upd_ne (Nat.ne_of_gt (up'.1 b hb))]; exact (fr b (by simp [hb])).2⟩) (λ j b hj => hp (j + 1) b (by simpa using hj)) (q x.2.1 a k2 ha)
      exact ⟨.ref a :: vs, H', .cons rfl r1, r2, r3, λ b hb => by
        simp only [List.mem_cons, not_or] at hb
        rw [r4 b hb.2, upd_ne hb.1]⟩
theorem pe_listItems {d : Expr} {td : TE} {p apos cpos pos : Pos} (hc : X.calm = true) (hg : Gl X "list") (hm : X.mg "list" = none) (hd : PE X d td) (hb : notSuper d = true) (hline : (apos.endLine == cpos.line) = true) :
    PE X (.Call (.Name "list" p) [.Call (.Attribute d "items" apos) [] [] cpos] [] pos) (tListItems td) := by
  intro pins s σ H Q I h
  refine Call_ (ld_blt I hg hm (u := .type "list") (by first | rfl | kernel_rfl) (PyProof.Rows.callWith_type1 (Calls.spliced_cons (Q := λ us s1 => wpAny (model X.prog X.w) X.A (call (.type "list") us) (EP X pins σ Q) X.xe s1) ?_) rfl rfl))
  refine wpAny_Call_method0_late (base_of hb) hline (thn (hd pins s σ H _ I h) λ v s1 ⟨x, H1, I1, r1, q1⟩ => ?_)
  replace q1 : lstItems x H1 Q := q1
  obtain ⟨a, kvs, rfl, hk, q2⟩ : ∃ a kvs, x = .ref a /\ Rd H1 a (.dT kvs) /\ newPairs kvs H1 λ xs H' => newO H' (.lst xs) Q := by
    unfold lstItems at q1
    split at q1
    . rename_i a
      split at q1
      . rename_i kvs e; exact ⟨a, kvs, rfl, .inl e, q1⟩
      . rename_i o kvs e; exact ⟨a, kvs, rfl, .inr ⟨o, e⟩, q1⟩
      . exact q1.elim
    . exact q1.elim
  cases r1
  obtain ⟨lo, z, xs, es, ep, kt, e4, r⟩ := dT_raw I1 hk
  have ty := r.typeIs
  have nd : ∀ b, Value.ref a = .ref b -> ∃ ob, s1.heap.get? b = some ob /\ ob.dict = none := λ b eb => by
    cases eb
    obtain ⟨o, z1, z2, _⟩ := r
    exact ⟨o, z1, z2.2.1⟩
  refine ⟨"dict", "dict.items", F.plainAttrs_dict, F.slot_dict_items, F.type_dict_items, ty, nd, Calls.callWith_builtin rfl (PySem.evalArgs_none ?_)⟩
  refine call_meetsIn F.slot_dict_items ty F.entry_dict_items (F.args_dict_items_1 _) (meets_view a lo) ⟨ty, ?_⟩
  refine Calls.spliced_nil ?_
  have hz : es.size = kvs.length := by rw [<- Array.length_toList, e4, List.length_map]; exact (Paired.length kt).symm
  have I2 := I1.kept (t' := s1.toks) (h' := s1.heap.push { cls := .type "dict_items", data := .fields #[.ref a] }) λ b o e => Heap.get?_push_of_some _ e
  have r2 : RawD (s1.heap.push { cls := .type "dict_items", data := .fields #[.ref a] }) a es ep := by
    obtain ⟨o, z1, z2⟩ := r
    exact ⟨o, Heap.get?_push_of_some _ z1, z2⟩
  refine pairs_call (s := { s1 with heap := s1.heap.push { cls := .type "dict_items", data := .fields #[.ref a] } }) (I.ok.hd hc) ⟨_, Heap.get?_push_size _ rfl, rfl, rfl⟩ r2 (by rw [hz]; exact z) λ h' tk acc c as k hS hl G ha => ?_
  obtain ⟨n, hn⟩ : ∃ n, n = (s1.heap.push { cls := .type "dict_items", data := .fields #[.ref a] }).objs.size := ⟨_, rfl⟩
  have I3 := I2.kept (t' := tk) (h' := h') k
  have fresh : ∀ b, n <= b -> H1 b = none := λ b hb => I2.hok.fresh (by rw [<- hn]; exact hb)
  have hat : ∀ (j : Nat) (b : Addr), as[j]? = some b -> ∃ x, xs[j]? = some x /\ h'.get? b = some { cls := .type "tuple", data := .seq #[(entryOfKey (tupleKind (mixKind X.prog X.w)) x).key, (entryOfKey (tupleKind (mixKind X.prog X.w)) x).val] } := λ j b hj => by
    obtain ⟨e, z1, z2⟩ := G.at_ j b hj
    rw [<- Array.getElem?_toList, e4, List.getElem?_map] at z1
    cases hx : xs[j]? with
    | none => rw [hx] at z1; cases z1
    | some x =>
      rw [hx] at z1
      cases z1
      exact ⟨x, rfl, z2⟩
  obtain ⟨vs, H', v1, v2, v3, v4⟩ := pairs_tracked (s := { s1 with heap := h', toks := tk }) n (λ H' b hb e => I2.fpOk (by rw [<- hn]; exact hb) e) (by rw [hn]; exact I2.sz) (kind := entryOfKey (tupleKind (mixKind X.prog X.w))) (λ x => ⟨rfl, rfl⟩) as kvs xs H1 _ I3 kt (by rw [hl, hz]; exact Paired.length kt) G.up (λ b hb => ⟨Nat.le_of_lt (by rw [hn]; exact G.new b hb), fresh b (Nat.le_of_lt (by rw [hn]; exact G.new b hb))⟩) hat q2
  . have hS' : H' n = none := by
      rw [v4 n λ m => ?_]
      . exact fresh n (Nat.le_refl _)
      . have := G.new n m
        rw [hn] at this
        exact absurd this (Nat.lt_irrefl _)
    refine ⟨.ref n, upd H' n (.lst vs), inv_track v2 (I2.fpOk (by rw [hn]; exact Nat.le_refl _) hS') (by rw [hn]; exact I2.sz) ⟨?_, as.map Value.ref, c, v1, ?_⟩, by rw [hn]; rfl, v3.at n hS'⟩
    . rw [Paired.length v1, List.length_map, hl, hz]
      exact z
    . rw [hn, <- ha, Array.toArray_toList]
      exact hS
end
theorem lri_no_len : typeLookup (.type "list_reverseiterator") "__len__" = pure none := by
  rw [typeLookup_type, builtinLookup_eq_fast]
  kernel_rfl
theorem lri_hint : typeLookup (.type "list_reverseiterator") "__length_hint__" = pure (some (.builtin "list_reverseiterator.__length_hint__")) := by
  rw [typeLookup_type, builtinLookup_eq_fast]
  kernel_rfl
section
variable {prog : Program} {w : World} {A : Around} {E : Value -> Shared -> Prop} {s : Shared}
theorem hint_rev {r : Addr} {Q : Bool -> Shared -> Prop} (ty : s.TypeIs (.ref r) "list_reverseiterator") (h : Q false s) : wpAny (model prog w) A (Builtin.List.listLengthHint (.ref r)) Q E s := by
  unfold Builtin.List.listLengthHint
  refine wpAny_bind (wpAny_specialOf ty lri_no_len ?_)
  show wpAny _ _ (specialOf (.ref r) (Str.ofString "__length_hint__") >>= _) _ _ _
  refine wpAny_bind (wpAny_specialOf ty lri_hint ?_)
  generalize hi : ("list_reverseiterator.__length_hint__" : String) = j
  wp_delta
  rw [show splitId j = some ("list_reverseiterator", "__length_hint__") from by subst hi; decide +kernel]
  subst hi
  refine wpAny_bind (wpAny_isInstance (b := true) (T := "list_reverseiterator") ty (by rw [isSubtype_type]; kernel_rfl) ?_)
  refine wpAny_ite_split (λ z => absurd z (by decide)) λ _ => ?_
  refine wpAny_ite_split (λ _ => ?_) λ z => absurd (by decide +kernel) z
  refine wpAny_ite_split (λ z => absurd z (by decide)) λ _ => ?_
  exact wpAny_pure h
noncomputable def RevP (items : Array Value) : Nat -> Value -> Prop := λ i v => items[items.size - 1 - i]? = some v
theorem rev_extend {R : Result -> Shared -> Prop} {it l S : Addr} {items : Array Value} {c₀ : Nat} (hh : A.handled = none) (hit : s.heap.IsRevIter it l ((items.size : Int) - 1)) (hl : s.heap.IsList l items) (hne : l ≠ it) (h1 : S ≠ it) (h2 : S ≠ l) (hn : items.size <= sizeLine)
    (hS : s.heap.get? S = some { cls := .type "list", data := .seq #[] c₀ })
    (hR : ∀ h' tk acc c, (∀ b o, b ≠ S -> b ≠ it -> s.heap.get? b = some o -> h'.get? b = some o) -> h'.get? S = some { cls := .type "list", dict := none, data := .seq acc c, slots := #[] } -> ItemsOf (RevP items) acc items.size -> R (.ok (.ret .none)) { s with heap := h', toks := tk }) :
    wpAny (model prog w) A.in1 (Builtin.List.listExtendWith (.ref S) (.ref it) .none) (λ fin s' => match fin with
      | .done f => R (.ok f) s'
      | .again c' => c'.quiet = true /\ codeAny (model prog w) A c' R s') (λ e s' => R (.error e) s') s := by
  have Wk := Walks.listRev (prog := prog) (w := w) (A := A.in1) hh it l hne items
  have hSf : S ∉ [it, l] := by
    simp only [List.mem_cons, List.not_mem_nil, or_false, not_or]
    exact ⟨h1, h2⟩
  unfold Builtin.List.listExtendWith
  refine wpAny_bind (wpAny_typeOf hit.typeIs ?_)
  have e1 : Builtin.List.listSameRef (.ref S) (.ref it) = false := by simp [Builtin.List.listSameRef, h1]
  have e2 : (Value.type "list_reverseiterator" == Value.type "list") = false /\ (Value.type "list_reverseiterator" == Value.type "tuple") = false := by decide
  simp only [e1, e2.1, e2.2, Bool.or_false, Bool.false_eq_true, if_false]
  refine wpAny_bind (wpAny_pyIter_revIter hit ?_)
  refine wpAny_bind (wpAny_holding (hint_rev hit.typeIs ?_))
  have loop : ∀ (h : Heap) (c₁ tk : Nat), h.IsRevIter it l ((items.size : Int) - 1) -> h.IsList l items -> (∀ b o, b ≠ S -> s.heap.get? b = some o -> h.get? b = some o) -> h.get? S = some { cls := .type "list", data := .seq #[] c₁ } →
      codeAny (model prog w) A (.builtin "list.extend.loop" ⟨[.ref S, .ref it, .none], []⟩) R { s with heap := h, toks := tk } := by
    intro h c₁ tk k1 k2 k3 k4
    refine codeAny_extend_loopS Wk.toS hn S hSf .none items.size 0 _ #[] c₁ rfl (Nat.zero_le _) ⟨Nat.zero_le _, by simpa using k1, k2⟩ k4 (ItemsOf.nil _) λ s' acc c hm g1 g2 => ?_
    rw [Moved.eq_with hm]
    refine hR s'.heap s'.toks acc c (λ b o b1 b2 e => hm.heap b o (λ z => ?_) (k3 b o b1 e)) g1 g2
    rcases List.mem_cons.mp z with z | z
    . exact b1 z
    . exact b2 (List.mem_singleton.mp z)
  refine wpAny_ite_split (λ z => absurd z (by decide)) λ _ => wpAny_pure ⟨plainId_quiet PySem.F.plain_extend_loop _, loop s.heap c₀ s.toks hit hl (λ _ _ _ e => e) hS⟩
theorem rev_list {Q : Value -> Shared -> Prop} {it l : Addr} {items : Array Value} (hh : A.handled = none) (hit : s.heap.IsRevIter it l ((items.size : Int) - 1)) (hl : s.heap.IsList l items) (hne : l ≠ it) (hn : items.size <= sizeLine)
    (hQ : ∀ h' tk acc c, (∀ b o, b ≠ it -> s.heap.get? b = some o -> h'.get? b = some o) -> h'.get? s.heap.objs.size = some { cls := .type "list", dict := none, data := .seq acc c, slots := #[] } -> ItemsOf (RevP items) acc items.size -> Q (.ref s.heap.objs.size) { s with heap := h', toks := tk }) :
    wpAny (model prog w) A (call (.type "list") [.ref it]) Q E s := by
  refine callType_codes (Q₁ := λ o s₁ => o = .ref s.heap.objs.size /\ s₁ = { s with heap := s.heap.push { cls := .type "list", data := .seq #[] } }) PySem.F.called_list (PySem.F.typeCall_list_1 _) PySem.F.entry_list_init (code_list_new _ ⟨rfl, rfl⟩) λ o s₁ hz => ?_
  obtain ⟨rfl, rfl⟩ := hz
  have l1 : it < s.heap.objs.size := by obtain ⟨o, ho, _⟩ := id hit; exact Heap.lt_size ho
  have l2 : l < s.heap.objs.size := by obtain ⟨o, ho, _⟩ := id hl; exact Heap.lt_size ho
  have hS : (s.heap.push { cls := .type "list", data := .seq #[] }).get? s.heap.objs.size = some { cls := .type "list", data := .seq #[] } := Heap.get?_push_size _ rfl
  have k : ∀ b o, s.heap.get? b = some o -> (s.heap.push { cls := .type "list", data := .seq #[] }).get? b = some o := λ b o e => Heap.get?_push_of_some _ e
  generalize s.heap.push { cls := .type "list", data := .seq #[] } = h₁ at hS k ⊢
  refine ⟨⟨_, hS, rfl⟩, PySem.F.args_list_init_2 _ _, ?_⟩
  show wpAny _ _ (Builtin.List.listItems (.ref s.heap.objs.size) >>= λ old => Builtin.List.listUpdate (.ref s.heap.objs.size) (λ _ => #[]) >>= λ _ => letGo old.toList.reverse >>= λ _ => Builtin.List.listExtendWith (.ref s.heap.objs.size) (.ref it) .none) _ _ { s with heap := h₁ }
  refine wpAny_bind ?_
  unfold Builtin.List.listItems
  refine wpAny_bind (wpAny_seqItems hS rfl (wpAny_pure ?_))
  refine wpAny_bind (show wpAny _ _ (updateSeq s.heap.objs.size λ _ => #[]) _ _ _ from wpAny_updateSeq hS rfl ?_)
  have hS₂ := Heap.get?_update_self (Obj.mapSeq λ _ => (#[] : Array Value)) hS rfl
  refine wpAny_bind (wpAny_letGo ?_)
  have k2 : ∀ b o, b ≠ s.heap.objs.size -> h₁.get? b = some o -> (h₁.update s.heap.objs.size (Obj.mapSeq λ _ => (#[] : Array Value))).get? b = some o := λ b o hb e => (Heap.get?_update_other _ _ (Ne.symm hb)).trans e
  have q1 : it ≠ s.heap.objs.size := Nat.ne_of_lt l1
  have q2 : l ≠ s.heap.objs.size := Nat.ne_of_lt l2
  refine rev_extend (A := A.in1) (s := { s with heap := h₁.update s.heap.objs.size (Obj.mapSeq λ _ => (#[] : Array Value)) }) hh (hit.at λ o e => k2 _ _ q1 (k _ _ e)) (hl.at λ o e => k2 _ _ q2 (k _ _ e)) hne (Ne.symm q1) (Ne.symm q2) hn hS₂ λ h' tk acc c kk g1 g2 => ?_
  exact ⟨rfl, hQ h' tk acc c (λ b o hb e => kk b o (Nat.ne_of_lt (Heap.lt_size e)) hb (k2 _ _ (Nat.ne_of_lt (Heap.lt_size e)) (k _ _ e))) g1 g2⟩
end
@[irreducible] noncomputable def lstRev (vs : List V) (H : Hp) (Q : VK) : Prop := match vs with
  | [.ref a] => match H a with
    | some (.lst xs) => newO H (.lst xs.reverse) Q
    | _ => False
  | _ => False
theorem lstRev_i {a : Addr} {xs : List V} {H : Hp} {Q : VK} (h : H a = some (.lst xs)) (q : newO H (.lst xs.reverse) Q) : lstRev [.ref a] H Q := by
  unfold lstRev
  simp only [h]
  exact q
noncomputable def tListRev (ta : TA) : TE := λ σ H Q => ta σ H λ vs H1 => lstRev vs H1 Q
section
variable {X : Cx}
theorem pe_listRev {e : Expr} {es : List Expr} {ta : TA} {p p2 pos2 pos : Pos} (hc : X.calm = true) (hg : Gl X "list") (hm : X.mg "list" = none) (hg2 : Gl X "reversed") (hm2 : X.mg "reversed" = none) (ha : PA X (e :: es) ta) (hs : (e :: es).any isStar = false) :
    PE X (.Call (.Name "list" p) [.Call (.Name "reversed" p2) (e :: es) [] pos2] [] pos) (tListRev ta) := by
  rw [List.any_cons, Bool.or_eq_false_iff] at hs
  intro pins s σ H Q I h
  refine Call_ (ld_blt I hg hm (u := .type "list") (by first | rfl | kernel_rfl) (PyProof.Rows.callWith_type1 (Calls.spliced_cons (Q := λ us s1 => wpAny (model X.prog X.w) X.A (call (.type "list") us) (EP X pins σ Q) X.xe s1) ?_) rfl rfl))
  refine Call_ (ld_blt I hg2 hm2 boot_reversed (PyProof.Rows.callWith_type1 (thn (ha pos2 pins s σ H _ I h) λ us s1 ⟨vs, H1, I1, r1, q1⟩ => ?_) (star_cons hs.1) (stars_none hs.2).1))
  replace q1 : lstRev vs H1 Q := q1
  unfold lstRev at q1
  split at q1
  . rename_i a
    split at q1
    . rename_i xs ex
      obtain ⟨u, rfl, ru⟩ := vals1 r1
      cases ru
      obtain ⟨its, rv, p', hz⟩ := I1.list (.inl (.inl ex))
      have hl := rv.length
      refine call_reversed_list p'.isList (Calls.spliced_nil ?_)
      have la : a < s1.heap.objs.size := by obtain ⟨o, ho, _⟩ := id p'.isList; exact Heap.lt_size ho
      have st : (s1.heap.push (revObj a (((its.toArray.size : Nat) : Int) - 1))).IsRevIter s1.heap.objs.size a (((its.toArray.size : Nat) : Int) - 1) := ⟨_, Heap.get?_push_size _ rfl, rfl, rfl⟩
      refine rev_list (s := { s1 with heap := s1.heap.push (revObj a (((its.toArray.size : Nat) : Int) - 1)) }) (items := its.toArray) (I.ok.hd hc) st (p'.isList.at λ o e => Heap.get?_push_of_some _ e) (Nat.ne_of_lt la) (by rw [List.size_toArray]; omega) λ h' tk acc c k g1 g2 => ?_
      have kk : ∀ b o, s1.heap.get? b = some o -> h'.get? b = some o := λ b o e => k b o (Nat.ne_of_lt (Heap.lt_size e)) (Heap.get?_push_of_some _ e)
      have ea : acc.toList = its.reverse := by
        refine List.ext_getElem? λ i => ?_
        have g21 : acc.size = its.toArray.size := g2.1
        by_cases hi : i < its.length
        . have hi2 : i < acc.size := by rw [g21, List.size_toArray]; exact hi
          have := g2.2 i acc[i] (by simp [hi2])
          unfold RevP at this
          rw [List.getElem?_reverse hi, Array.getElem?_toList, Array.getElem?_eq_getElem hi2, <- this]
          simp
        . rw [List.getElem?_eq_none (by rw [Array.length_toList, g21, List.size_toArray]; omega), List.getElem?_eq_none (by rw [List.length_reverse]; omega)]
      have sz1 : s1.heap.objs.size <= (s1.heap.push (revObj a (((its.toArray.size : Nat) : Int) - 1))).objs.size := by rw [Heap.size_push]; omega
      refine ⟨.ref _, _, I1.laid (t' := tk) (o := .lst xs.reverse) kk sz1 ?_, rfl, q1.at _ (I1.hok.fresh sz1)⟩
      refine ⟨by rw [List.length_reverse]; exact hz, _, c, rv.reverse, ?_⟩
      rw [<- ea, Array.toArray_toList]
      exact g1
    . exact q1.elim
  . exact q1.elim
end
section
variable {X : Cx}
@[irreducible] noncomputable def eqE : R2 := λ x y H Q => match x, y with
  | .ref a, .ref b => (H a = some (.dT []) /\ H b = some (.dT [])) /\ Q (.bl true) H
  | _, _ => False
theorem eqE_i {a b : Addr} {H : Hp} {Q : VK} (h1 : H a = some (.dT [])) (h2 : H b = some (.dT [])) (q : Q (.bl true) H) : eqE (.ref a) (.ref b) H Q := by
  unfold eqE
  exact ⟨⟨h1, h2⟩, q⟩
theorem dT_nil {pins : List (Addr × Obj)} {σ : St} {H : Hp} {s : Shared} {a : Addr} (I : Inv X pins σ H s) (h : H a = some (.dT [])) : (a == sysModules) = false /\ s.heap.DictOf (mixKind X.prog X.w) a [] := by
  obtain ⟨lo, _, xs, es, ep, kt, e4, o, h1, h2, h3⟩ := dT_raw I (.inl h)
  cases kt
  have e : es = #[] := by
    apply Array.toList_inj.mp
    rw [e4]
    rfl
  subst e
  exact ⟨lo, o, #[], ep, h1, h2, h3, (λ i hi => by simp at hi), .nil, by simp⟩
theorem op_eqE {k : Nat} (hr : Room k X.A) : OpR X (compareOp .Eq) eqE := λ pins s σ H x y v u Q I rx ry h => by
  unfold eqE at h
  split at h
  . rename_i a b
    obtain ⟨⟨h1, h2⟩, q⟩ := h
    cases rx
    cases ry
    obtain ⟨l1, d1⟩ := dT_nil I h1
    obtain ⟨l2, d2⟩ := dT_nil I h2
    exact PySem.W.keq_eq l1 l2 d1 d2 (by have := hr.un; omega) (λ _ => .nil) ⟨.bl true, H, I, rfl, q⟩
  . exact h.elim
end
structure W where
  E : Cfg -> Expr -> TE
  T : Cfg -> Expr -> TT
  S : Cfg -> Stmt -> TS
noncomputable def wA (w : W) (C : Cfg) : List Expr -> TA
  | [] => tNil
  | e :: es => match isStar e with
    | true => xA
    | false => tCons (w.E C e) (wA w C es)
noncomputable def constG : Const -> TE
  | .int i => tC (.int i)
  | .bool b => tC (.bl b)
  | .none => tC .non
  | .str x => tC (.str x)
  | _ => xE
noncomputable def andG (w : W) (C : Cfg) : List Expr -> TE
  | [] => xE
  | [a] => w.E C a
  | a :: r => tAndG (w.E C a) (andG w C r)
noncomputable def orG (w : W) (C : Cfg) : List Expr -> TE
  | [] => xE
  | [a] => w.E C a
  | a :: r => tOrG (w.E C a) (orG w C r)
noncomputable def andB (w : W) (C : Cfg) : List Expr -> TT
  | [] => xT
  | [a] => w.T C a
  | a :: r => tAndB (w.T C a) (andB w C r)
noncomputable def orB (w : W) (C : Cfg) : List Expr -> TT
  | [] => xT
  | [a] => w.T C a
  | a :: r => tOrB (w.T C a) (orB w C r)
noncomputable def isSet : Expr -> Bool
  | .Set _ _ _ => true
  | _ => false
noncomputable def isSlice : Expr -> Bool
  | .Slice _ _ _ _ => true
  | _ => false
noncomputable def isComp : Expr -> Bool
  | .ListComp _ _ _ _ => true
  | .SetComp _ _ _ _ => true
  | .DictComp _ _ _ _ _ => true
  | _ => false
noncomputable def isScr (C : Cfg) : Expr -> Bool
  | .Name x _ => C.scr.contains x
  | _ => false
noncomputable def isNoD : CmpOp -> Expr -> Bool
  | .Eq, .Dict [] [] _ => true
  | _, _ => false
theorem isNoD_eq {op : CmpOp} {b : Expr} (h : isNoD op b = true) : op = .Eq := by
  cases op <;> first | rfl | cases h
noncomputable def cmpE (w : W) (C : Cfg) (a : Expr) : List CmpOp -> List Expr -> TE
  | [op], [b] => match isSet b with
    | false => match isNoD op b with
      | true => tOp eqE (w.E C a) (w.E C b)
      | false => tOp (cmpG op) (w.E C a) (w.E C b)
    | true => xE
  | [op, op'], [b, c] => match isSet c with
    | false => chainG (cmpG op) (cmpG op') (w.E C a) (w.E C b) (w.E C c)
    | true => xE
  | _, _ => xE
noncomputable def partG (t : TE) : TO := λ σ H Q => t σ H λ x H1 => match x with
  | .int i => Q (some i) H1
  | _ => False
noncomputable def poG (w : W) (C : Cfg) : Option Expr -> TO
  | none => tNoPart
  | some e => partG (w.E C e)
@[irreducible] noncomputable def slH (a : Addr) (lo hi : Option Int) (H : Hp) (Q : VK) : Prop := match H a with
  | some (.lst xs) => newO H (.lst (cutV xs lo hi)) Q
  | _ => False
noncomputable def slG : V -> Option Int -> Option Int -> Hp -> VK -> Prop := λ x lo hi H Q => match x with
  | .str z => z.length <= sizeLine /\ Q (.str (Txt.slice z lo hi)) H
  | .ref a => slH a lo hi H Q
  | _ => False
noncomputable def lenS (K : PySem.W.Frag) : List V -> Hp -> VK -> Prop := λ xs H Q => ∃ p ys, xs = [.ref p] /\ SqL K H p ys /\ Q (.int ys.length) H
noncomputable def isOwn (C : Cfg) : List Expr -> Bool
  | [.Name y _] => match C.glo.lookup y with
    | some (.ref _) => true
    | _ => false
  | _ => false
noncomputable def itemsOf (x : Str) : List Expr -> Option Expr
  | [.Call (.Attribute d m apos) [] [] cpos] => if x = "list" /\ m = "items" /\ notSuper d = true /\ (apos.endLine == cpos.line) = true then some d else none
  | _ => none
noncomputable def revOf (x : Str) : List Expr -> Option (List Expr)
  | [.Call (.Name y _) es [] _] => if x = "list" /\ y = "reversed" /\ es.any isStar = false then some es else none
  | _ => none
theorem revOf_is {x : Str} {es as : List Expr} (h : revOf x es = some as) : x = "list" /\ ∃ p pos, es = [.Call (.Name "reversed" p) as [] pos] /\ as.any isStar = false := by
  unfold revOf at h
  split at h
  . split at h
    . rename_i c
      cases h
      obtain ⟨c1, c2, c3⟩ := c
      subst c2
      exact ⟨c1, _, _, rfl, c3⟩
    . cases h
  . cases h
theorem itemsOf_is {x : Str} {es : List Expr} {d : Expr} (h : itemsOf x es = some d) : x = "list" /\ ∃ apos cpos, es = [.Call (.Attribute d "items" apos) [] [] cpos] /\ notSuper d = true /\ (apos.endLine == cpos.line) = true := by
  unfold itemsOf at h
  split at h
  . split at h
    . rename_i c
      cases h
      obtain ⟨c1, c2, c3, c4⟩ := c
      subst c2
      exact ⟨c1, _, _, rfl, c3, c4⟩
    . cases h
  . cases h
noncomputable def callG (w : W) (C : Cfg) (x : Str) (es : List Expr) : TE := match okName x, C.names.lookup x, es.any isStar with
  | true, some .globalImplicit, false => match C.fns.lookup x with
    | some sp => tCall sp [] C.E (wA w C es)
    | none => match C.mks.lookup x with
      | some (cl, sp) => tMake cl sp [] C.E (wA w C es)
      | none => match C.nog.contains x, es with
        | true, e :: r => match bltF x with
          | some (i, rd) => match i == "len" && isScr C e && r.isEmpty with
            | true => tCB (lenS C.K) (wA w C (e :: r))
            | false => match i == "isinstance" && isOwn C r with
              | true => tCB (isiC C.ics) (wA w C (e :: r))
              | false => tCB rd (wA w C (e :: r))
          | none => match bltC x with
            | some (i, rd) => match itemsOf x (e :: r) with
              | some d => tListItems (w.E C d)
              | none => match revOf x (e :: r), C.names.lookup ("reversed" : Str), C.nog.contains ("reversed" : Str) with
                | some (a :: as), some .globalImplicit, true => tListRev (wA w C (a :: as))
                | _, _, _ => tCB rd (wA w C (e :: r))
            | none => xE
        | _, _ => xE
  | _, _, _ => xE
noncomputable def methG (w : W) (C : Cfg) (o : Expr) (m : Str) (apos cpos : Pos) (es : List Expr) : TE := match notSuper o, es.any isStar, decide (es.length < 29), (apos.endLine == cpos.line) with
  | true, false, true, true => match C.mts.lookup m with
    | some (cl, sp) => tMethG cl m sp C.E (w.E C o) (wA w C es)
    | none => tBmG m (w.E C o) (wA w C es)
  | _, _, _, _ => xE
noncomputable def slotL (C : Cfg) (x : Str) : Option Nat := match C.names.lookup x with
  | some .local => slotOf C.N x
  | some .cell => slotOf C.N x
  | _ => none
noncomputable def gNm (C : Cfg) (x : Str) : TG := match slotL C x with
  | some i => gName i
  | none => xG
noncomputable def gNms (C : Cfg) : List Expr -> TGs
  | [] => gNil
  | .Name x _ :: r => gCons (gNm C x) (gNms C r)
  | _ :: _ => λ _ _ _ _ => False
noncomputable def wG (C : Cfg) : Expr -> TG
  | .Name x _ => gNm C x
  | .Tuple ts _ _ => gTup0 ts.length (gNms C ts)
  | _ => xG
noncomputable def isTup : Expr -> Bool
  | .Tuple _ _ _ => true
  | _ => false
noncomputable def wIN (w : W) (C : Cfg) (tg : Expr) (x : Str) (e : Expr) (es : List Expr) : TI2 := match decide (x = "range"), C.names.lookup x, C.nog.contains x, (e :: es).any isStar with
    | true, some .globalImplicit, true, false => iRngG (wA w C (e :: es))
    | true, _, _, _ => xI2
    | false, _, _, _ => match decide (x = "reversed"), C.names.lookup x, C.nog.contains x, (e :: es).any isStar with
      | true, some .globalImplicit, true, false => iRevG (wA w C (e :: es))
      | true, _, _, _ => xI2
      | false, _, _, _ => iOf iterG (callG w C x (e :: es))
noncomputable def wIM (w : W) (C : Cfg) (tg d : Expr) (m : Str) (apos cpos : Pos) : TI2 := match isTup tg && decide (m = "items") && notSuper d && (apos.endLine == cpos.line) with
    | true => iOf itemsG (w.E C d)
    | false => iOf iterG (w.E C (.Call (.Attribute d m apos) [] [] cpos))
noncomputable def wI (w : W) (C : Cfg) (tg : Expr) : Expr -> TI2
  | .Call (.Name x _) (e :: es) [] _ => wIN w C tg x e es
  | .Call (.Attribute d m apos) [] [] cpos => wIM w C tg d m apos cpos
  | .Set _ _ _ => xI2
  | e => iOf iterG (w.E C e)
noncomputable def freeOf (C : Cfg) : List (Str × NameKind) -> Option (List (Str × Nat))
  | [] => some []
  | (x, .free) :: r => match slotOf C.N x, C.names.lookup x, freeOf C r with
    | some j, some .cell, some l => some ((x, j) :: l)
    | _, _, _ => none
  | (_, .cell) :: _ => none
  | _ :: r => freeOf C r
noncomputable def relN (C : Cfg) (names : List (Str × NameKind)) : List (Str × NameKind) := names.map λ (n, k) => if (k == NameKind.free && C.names.lookup n == some .cell) = true then (n, .cell) else (n, k)
noncomputable def tgNames : Expr -> Option (List Str)
  | .Name x _ => some [x]
  | .Tuple ts _ _ => ts.mapM λ e => match e with
    | .Name x _ => some x
    | _ => none
  | _ => none
noncomputable def ifsG (w : W) (C : Cfg) : List Expr -> TT
  | [] => tYes
  | [c] => w.T C c
  | _ => xT
noncomputable def okBlock (tn : List Str) (fr : List (Str × Nat)) (names : List (Str × NameKind)) : Bool :=
  decide (tn ++ fr.map (·.1)).Nodup && (names.all λ y => names.lookup y.1 == some y.2) && tn.all λ x => names.lookup x == some .local
noncomputable def inCfg (C : Cfg) (tn : List Str) (fr : List (Str × Nat)) (names : List (Str × NameKind)) : Cfg := { C with N := tn ++ fr.map (·.1), names := relN C names, E := E0, scr := [] }
noncomputable def compG (w : W) (C : Cfg) (elt : Expr) (gens : List Comprehension) (scope : Scope) : TE := match gens with
  | [⟨tg, it, ifs, 0⟩] => match tgNames tg, freeOf C scope.names, scope.kind, isSet it with
    | some tn, some fr, .function, false => match okBlock tn fr scope.names with
      | true => tCompI (wI w C tg it) tn fr (wG (inCfg C tn fr scope.names) tg) (ifsG w (inCfg C tn fr scope.names) ifs) (w.E (inCfg C tn fr scope.names) elt)
      | false => xE
    | _, _, _, _ => xE
  | _ => xE
noncomputable def tLstG (t : TA) : TE := λ σ H Q => t σ H λ xs H1 => xs.length <= sizeLine /\ newO H1 (.lst xs) Q
noncomputable def tTupG (t : TA) : TE := λ σ H Q => t σ H λ xs H1 => xs.length <= sizeLine /\ newO H1 (.tup xs) Q
noncomputable def rSlS (K : PySem.W.Frag) : V -> Option Int -> Option Int -> Hp -> VK -> Prop := λ x lo hi H Q => ∃ a xs, x = .ref a /\ SqL K H a xs /\ newO H (.lst (cutV xs lo hi)) Q
noncomputable def tDNew : TE := λ _ H Q => newO H (.dK []) Q \/ newO H (.dT []) Q
noncomputable def pairsG (w : W) (C : Cfg) : List (Option Expr) -> List Expr -> Option (List (TE × TE))
  | [], [] => some []
  | some k :: ks, v :: vs => match pairsG w C ks vs with
    | some l => some ((w.E C k, w.E C v) :: l)
    | none => none
  | _, _ => none
noncomputable def dispG (w : W) (C : Cfg) (ks : List (Option Expr)) (vs : List Expr) : TE := match pairsG w C ks vs, decide (ks.length <= 15) with
  | some [], _ => tDNew
  | some l, true => tDisp l
  | _, _ => xE
noncomputable def slX (w : W) (C : Cfg) (a : Expr) (lo hi : Option Expr) : TE := match isScr C a with
  | true => tSl (rSlS C.K) (w.E C a) (poG w C lo) (poG w C hi)
  | false => tSl slG (w.E C a) (poG w C lo) (poG w C hi)
noncomputable def subX (w : W) (C : Cfg) (a b : Expr) : TE := match isSlice b, isScr C a with
  | false, true => tOp (rIxL C.K) (w.E C a) (w.E C b)
  | false, false => tOp getG (w.E C a) (w.E C b)
  | true, _ => xE
noncomputable def attX (w : W) (C : Cfg) (o : Expr) (f : Str) : TE := match C.fld.lookup f, notSuper o with
  | some cl, true => tFldG cl f (w.E C o)
  | _, _ => xE
noncomputable def stepE (w : W) (C : Cfg) (e : Expr) : TE := match e with
  | .Constant c _ _ => constG c
  | .Name x _ => nameG C x
  | .BinOp a op b _ => tOp (binG op) (w.E C a) (w.E C b)
  | .UnaryOp .Not a _ => tNotG (w.E C a)
  | .UnaryOp .USub a _ => tUn negG (w.E C a)
  | .BoolOp .And es _ => andG w C es
  | .BoolOp .Or es _ => orG w C es
  | .Compare a ops bs _ => cmpE w C a ops bs
  | .IfExp c a b _ => tIfG (w.T C c) (w.E C a) (w.E C b)
  | .List es _ => tLstG (wA w C es)
  | .Tuple es _ _ => tTupG (wA w C es)
  | .Dict ks vs _ => dispG w C ks vs
  | .Subscript a (.Slice lo hi none _) _ => slX w C a lo hi
  | .Subscript a b _ => subX w C a b
  | .Attribute o f _ => attX w C o f
  | .Call (.Name x _) es [] _ => callG w C x es
  | .Call (.Attribute o m apos) es [] cpos => methG w C o m apos cpos es
  | .ListComp elt gens scope _ => compG w C elt gens scope
  | _ => xE
noncomputable def stepT (w : W) (C : Cfg) (e : Expr) : TT := match e with
  | .UnaryOp .Not a _ => tNot (w.T C a)
  | .UnaryOp _ _ _ => xT
  | .BoolOp .And es _ => andB w C es
  | .BoolOp .Or es _ => orB w C es
  | .IfExp _ _ _ _ => xT
  | .Compare a ops bs _ => bT (cmpE w C a ops bs)
  | e => ptG (stepE w C e)
noncomputable def wSs (w : W) (C : Cfg) : List Stmt -> TS
  | [] => tNext
  | [s] => w.S C s
  | s :: r => tSeq (w.S C s) (wSs w C r)
noncomputable def sIf (c : TT) (t u : TS) : TS := λ D σ H => c σ H λ b H1 => br b (t D σ H1) (u D σ H1)
noncomputable def isDoc : Expr -> Bool
  | .Constant (.str _) _ _ => true
  | _ => false
@[irreducible] noncomputable def sfH (cl : Addr) (f : Str) (p : Addr) (y : V) (σ : St) (H2 : Hp) (N : St -> Hp -> Prop) : Prop := match H2 p with
  | some (.ins C dx fs) => C = cl /\ fs.length < 1000 /\ N σ (upd H2 p (.ins C dx (putF f y fs)))
  | _ => False
noncomputable def sFldG (cl : Addr) (f : Str) (to te : TE) : TS := λ D σ H => te σ H λ y H1 => to σ H1 λ x H2 => match x with
  | .ref p => sfH cl f p y σ H2 D.nx
  | _ => False
noncomputable def asgN (w : W) (C : Cfg) (x : Str) (e : Expr) : TS := match slotL C x with
  | some i => tAsg (w.E C e) (gName i)
  | none => xS
noncomputable def asgS (w : W) (C : Cfg) (o i e : Expr) : TS := match isSlice i, isComp e with
  | false, false => tAsg (w.E C e) (gSub (w.E C o) (w.E C i) setG)
  | _, _ => xS
noncomputable def asgF (w : W) (C : Cfg) (o : Expr) (f : Str) (e : Expr) : TS := match C.fld.lookup f, isComp e with
  | some cl, false => sFldG cl f (w.E C o) (w.E C e)
  | _, _ => xS
noncomputable def asgG (w : W) (C : Cfg) (tg e : Expr) : TS := match tg with
  | .Name x _ => asgN w C x e
  | .Subscript o i _ => asgS w C o i e
  | .Attribute o f _ => asgF w C o f e
  | _ => xS
noncomputable def exX (w : W) (C : Cfg) (e : Expr) : TS := match isDoc e, isComp e with
  | true, _ => tNext
  | false, false => tDrop (w.E C e)
  | _, _ => xS
noncomputable def forX (w : W) (C : Cfg) (tg it : Expr) (body : List Stmt) : TS := match isSet it with
  | false => sFor (wI w C tg it) (wG C tg) (wSs w C body)
  | true => xS
noncomputable def stepS (w : W) (C : Cfg) (s : Stmt) : TS := match s with
  | .Expr e _ => exX w C e
  | .Return (some e) _ => tRet (w.E C e)
  | .Return none _ => tRetN
  | .Pass _ => tNext
  | .If c a b _ => sIf (w.T C c) (wSs w C a) (wSs w C b)
  | .For tg it body [] _ => forX w C tg it body
  | .Assign [tg] e _ => asgG w C tg e
  | _ => xS
noncomputable def step (w : W) : W := ⟨stepE w, stepT w, stepS w⟩
noncomputable def wp : Nat -> W
  | 0 => ⟨λ _ _ => xE, λ _ _ => xT, λ _ _ => xS⟩
  | n + 1 => step (wp n)
end Tv
namespace Tv
open PySem PySem.Spec PyProof.Rows L2
structure Snd (w : W) : Prop where
  E : ∀ {CX : CXT} {k : Nat} {X : Cx} {C : Cfg}, Fits CX k X C -> ∀ e, PE X e (w.E C e)
  T : ∀ {CX : CXT} {k : Nat} {X : Cx} {C : Cfg}, Fits CX k X C -> ∀ e, PT X e (w.T C e)
  A : ∀ {CX : CXT} {k : Nat} {X : Cx} {C : Cfg}, Fits CX k X C -> (∀ x, X.fn x = true) -> ∀ (x : Str) (i : Nat) (pos' pos : Pos) (e : Expr), slotL C x = some i -> PS X (.Assign [.Name x pos'] e pos) (tAsg (w.E C e) (gName i))
  S : ∀ {CX : CXT} {k : Nat} {X : Cx} {C : Cfg}, Fits CX k X C -> PassesOwn (model X.prog X.w) X.A X.env X.xe -> (∀ x, X.fn x = true) -> ∀ s, PS X s (w.S C s)
section
variable {CX : CXT} {k : Nat} {X : Cx} {C : Cfg} {w : W}
theorem wA_ok (hw : Snd w) (F : Fits CX k X C) : ∀ es, PA X es (wA w C es)
  | [] => pa_nil
  | e :: es => by
    unfold wA
    split
    . exact pa_x
    . rename_i h
      exact pa_cons (hw.E F e) (wA_ok hw F es) (star_cons h)
theorem constG_ok {j : Nat} {pos : Pos} : ∀ c, PE X (.Constant c j pos) (constG c)
  | .int _ => pe_int
  | .bool _ => pe_bl
  | .none => pe_non
  | .str _ => pe_str
  | .float _ => pe_x
  | .complex _ _ => pe_x
  | .bytes _ => pe_x
  | .ellipsis => pe_x
theorem andG_ok (hw : Snd w) (F : Fits CX k X C) {pos : Pos} : ∀ es, PE X (.BoolOp .And es pos) (andG w C es)
  | [] => pe_x
  | [a] => pe_one (hw.E F a)
  | a :: b :: r => pe_andG (hw.E F a) (andG_ok hw F (b :: r))
theorem orG_ok (hw : Snd w) (F : Fits CX k X C) {pos : Pos} : ∀ es, PE X (.BoolOp .Or es pos) (orG w C es)
  | [] => pe_x
  | [a] => pe_one (hw.E F a)
  | a :: b :: r => pe_orG (hw.E F a) (orG_ok hw F (b :: r))
theorem pw_x {e : Expr} : PW X e xT := λ _ _ _ _ _ _ _ h => h.elim
theorem andB_ok (hw : Snd w) (F : Fits CX k X C) {pos : Pos} : ∀ es, PW X (.BoolOp .And es pos) (andB w C es)
  | [] => pw_x
  | [a] => pw_and1 (hw.T F a)
  | a :: b :: r => pw_andB (hw.T F a) (andB_ok hw F (b :: r))
theorem orB_ok (hw : Snd w) (F : Fits CX k X C) {pos : Pos} : ∀ es, PW X (.BoolOp .Or es pos) (orB w C es)
  | [] => pw_x
  | [a] => pw_or1 (hw.T F a)
  | a :: b :: r => pw_orB (hw.T F a) (orB_ok hw F (b :: r))
theorem mark_of {op : CmpOp} {b : Expr} (h : isSet b = false) : behindInMarks op b = false := by
  cases b <;> first | rfl | cases h
theorem cmpE_ok (hw : Snd w) (F : Fits CX k X C) {a : Expr} {ops : List CmpOp} {bs : List Expr} {pos : Pos} : PE X (.Compare a ops bs pos) (cmpE w C a ops bs) := by
  unfold cmpE
  split
  . split
    . split
      . rename_i hb
        cases isNoD_eq hb
        exact pe_cmpR (op_eqE F.room) (hw.E F _) (hw.E F _) (mark_of (by assumption))
      . exact pe_cmpR (op_cmpG F.room _) (hw.E F _) (hw.E F _) (mark_of (by assumption))
    . exact pe_x
  . split
    . exact pe_chainG (op_cmpG F.room _) (op_cmpG F.room _) (hw.E F _) (hw.E F _) (hw.E F _) (mark_of (by assumption))
    . exact pe_x
  . exact pe_x
theorem pt_bx {e : Expr} : PT X e (bT xE) := λ _ _ _ _ _ _ h => h.elim
theorem cmpT_ok (hw : Snd w) (F : Fits CX k X C) {a : Expr} {ops : List CmpOp} {bs : List Expr} {pos : Pos} : PT X (.Compare a ops bs pos) (bT (cmpE w C a ops bs)) := by
  unfold cmpE
  split
  . split
    . split
      . rename_i hb
        cases isNoD_eq hb
        exact pt_cmpG (op_eqE F.room) (hw.E F _) (hw.E F _) (mark_of (by assumption))
      . exact pt_cmpG (op_cmpG F.room _) (hw.E F _) (hw.E F _) (mark_of (by assumption))
    . exact pt_bx
  . split
    . exact pt_chainG (op_cmpG F.room _) (op_cmpG F.room _) (hw.E F _) (hw.E F _) (hw.E F _) (mark_of (by assumption))
    . exact pt_bx
  . exact pt_bx
theorem po_G {e : Expr} {t : TE} (h : PE X e t) : PO X (some e) (partG t) := λ pins s σ H Q I q => po_some (PE.mo h) pins s σ H Q I ⟨_, q, λ x H1 q1 => by
  cases x <;> first | exact ⟨_, rfl, q1⟩ | exact q1.elim⟩
theorem poG_ok (hw : Snd w) (F : Fits CX k X C) : ∀ o, PO X o (poG w C o)
  | none => po_none
  | some e => po_G (hw.E F e)
theorem sl_G : SlR X slG := λ pins s σ H x v vl vu lo hi sl Q I rx hs pl pu h => by
  unfold slG at h
  split at h
  . exact sl_str pins s σ H _ v vl vu lo hi sl Q I rx hs pl pu ⟨_, rfl, h.1, h.2⟩
  . unfold slH at h
    split at h
    . exact sl_list pins s σ H _ v vl vu lo hi sl Q I rx hs pl pu ⟨_, _, rfl, .inl (.inl (by assumption)), h.at⟩
    . exact h.elim
  . exact h.elim
theorem gl_of (F : Fits CX k X C) {x : Str} (h : C.names.lookup x = some .globalImplicit) : Gl X x := by
  show X.env.scope.names.lookup x = _
  rw [F.names]
  exact h
theorem call_lenS (F : Fits CX k X C) : CallR X (.builtin "len") (lenS C.K) := CallR.imp call_len_seq λ xs H Q ⟨p, ys, e, h, q⟩ => ⟨p, ys, e, .inl (by rw [F.K]; exact h), q⟩
theorem callG_ok (hw : Snd w) (F : Fits CX k X C) {x : Str} {es : List Expr} {p pos : Pos} : PE X (.Call (.Name x p) es [] pos) (callG w C x es) := by
  unfold callG
  split
  . rename_i ok e hs
    simp only [okName, Bool.and_eq_true, Bool.not_eq_true'] at ok
    have hg := gl_of F e
    split
    . rename_i sp ef
      obtain ⟨f, fd, ps, G, hm, hk, hb⟩ := F.fns x sp ef
      cases es with
      | nil => exact pe_call0 G (F.room.mono (Nat.le_succ _)) hg hm hk hb .nil F.pass ok.1
      | cons a r =>
        have hs' := hs
        rw [List.any_cons, Bool.or_eq_false_iff] at hs'
        exact pe_call G (F.room.mono (Nat.le_succ _)) hg hm hk hb .nil F.pass (wA_ok hw F _) ok.1 (star_cons hs'.1) (stars_none hs'.2).1
    . split
      . rename_i cl sp ef
        obtain ⟨f, fd, ps, M, G, hm, hb⟩ := F.mks x cl sp ef
        cases es with
        | nil => exact pe_make0 M G F.room hg hm hb .nil F.pass ok.1
        | cons a r =>
          have hs' := hs
          rw [List.any_cons, Bool.or_eq_false_iff] at hs'
          exact pe_make M G F.room hg hm hb .nil F.pass (wA_ok hw F _) ok.1 (star_cons hs'.1) (stars_none hs'.2).1
      . split
        . rename_i a r hn
          have hm := F.nog x (by simpa using hn)
          have hs' := hs
          rw [List.any_cons, Bool.or_eq_false_iff] at hs'
          split
          . rename_i i rd eb
            obtain ⟨c1, c2, c3, c4⟩ := bltF_ok F.calm eb
            split
            . rename_i hc
              simp only [Bool.and_eq_true] at hc
              have ei : i = "len" := by simpa using hc.1.1
              subst ei
              exact pe_callB (call_lenS F) hg hm c2 (wA_ok hw F _) c3 c4 (star_cons hs'.1) (stars_none hs'.2).1
            . split
              . rename_i hc
                simp only [Bool.and_eq_true] at hc
                have ei : i = "isinstance" := by simpa using hc.1
                subst ei
                exact pe_callB (call_isiC F.ics) hg hm c2 (wA_ok hw F _) c3 c4 (star_cons hs'.1) (stars_none hs'.2).1
              . exact pe_callB c1 hg hm c2 (wA_ok hw F _) c3 c4 (star_cons hs'.1) (stars_none hs'.2).1
          . split
            . rename_i i rd eb
              obtain ⟨c1, c2, c3, c4⟩ := bltC_ok F.calm eb
              split
              . rename_i d ed
                obtain ⟨rfl, apos, cpos, he, h1, h2⟩ := itemsOf_is ed
                rw [he]
                exact pe_listItems F.calm hg hm (hw.E F _) h1 h2
              . split
                . rename_i b bs er hl hc
                  obtain ⟨rfl, q1, q2, he, h1⟩ := revOf_is er
                  rw [he]
                  exact pe_listRev F.calm hg hm (gl_of F hl) (F.nog _ (by simpa using hc)) (wA_ok hw F _) h1
                . exact pe_callTy c1 hg hm c2 (wA_ok hw F _) c3 c4 (star_cons hs'.1) (stars_none hs'.2).1
            . exact pe_x
        . exact pe_x
  . exact pe_x
theorem methG_ok (hw : Snd w) (F : Fits CX k X C) {o : Expr} {m : Str} {es : List Expr} {apos cpos : Pos} : PE X (.Call (.Attribute o m apos) es [] cpos) (methG w C o m apos cpos es) := by
  unfold methG
  split
  . rename_i h1 h2 h3 h4
    have h3' : es.length < 29 := of_decide_eq_true h3
    split
    . rename_i cl sp em
      obtain ⟨f, fd, ps, cc, mm, G, hb⟩ := F.mts m cl sp em
      cases es with
      | nil => exact pe_methG0 (hw.E F o) cc mm G (F.room.mono (Nat.le_succ _)) hb F.pass h1 h4
      | cons a r => exact pe_methG (hw.E F o) cc mm G (F.room.mono (Nat.le_succ _)) hb F.pass (wA_ok hw F _) h1 h2 h3' h4
    . cases es with
      | nil => exact pe_bmG0 F.room (hw.E F o) h1 h4
      | cons a r => exact pe_bmG F.room (hw.E F o) (wA_ok hw F _) h1 h2 h3' h4
  . exact pe_x
theorem slotL_ok (F : Fits CX k X C) {x : Str} {i : Nat} (h : slotL C x = some i) : X.N[i]? = some x /\ Loc X.env.scope x /\ (X.env.scope.names.lookup x = some .local \/ C.names.lookup x = some .cell) := by
  unfold slotL at h
  split at h
  . rename_i e
    have e' : X.env.scope.names.lookup x = some .local := by rw [F.names]; exact e
    exact ⟨by rw [F.N]; exact slotOf_get h, .inl e', .inl e'⟩
  . rename_i e
    have e' : X.env.scope.names.lookup x = some .cell := by rw [F.names]; exact e
    exact ⟨by rw [F.N]; exact slotOf_get h, .inr e', .inr e⟩
  . cases h
theorem nodupN (F : Fits CX k X C) : X.N.Nodup := by rw [F.N]; exact F.nd
theorem gNm_ok (F : Fits CX k X C) {x : Str} {pos : Pos} (hx : C.names.lookup x = some .cell -> X.fn x = true) : PG X (.Name x pos) (gNm C x) := by
  unfold gNm
  split
  . rename_i i ei
    obtain ⟨h1, h2, h3⟩ := slotL_ok F ei
    exact pg_name (nodupN F) h1 h2 (h3.elim .inr λ z => .inl (hx z))
  . exact pg_x
theorem gNms_ok (F : Fits CX k X C) : ∀ ts : List Expr, (∀ x pos, Expr.Name x pos ∈ ts -> C.names.lookup x = some .cell -> X.fn x = true) -> PGs X ts (gNms C ts)
  | [], _ => pgs_nil
  | e :: r, h => by
    cases e with
    | Name x pos => exact pgs_cons (gNm_ok F (h x pos (by simp))) (gNms_ok F r λ y q hy => h y q (List.mem_cons_of_mem _ hy))
    | _ => exact λ _ _ _ _ _ _ _ _ _ z => z.elim
theorem each_names {C : Cfg} {env : Env} : ∀ {ts : List Expr}, (∀ v σ H Q, gNms C ts v σ H Q -> False) \/ ((assignEach ts env).length = ts.length /\ (assignEach ts env).findIdx? (·.1) = none)
  | [] => .inr ⟨rfl, rfl⟩
  | e :: r => by
    cases e with
    | Name x pos =>
      rcases each_names (C := C) (env := env) (ts := r) with h | ⟨h1, h2⟩
      . exact .inl λ v σ H Q ⟨a, b, e, q⟩ => by
          unfold gNm at q
          cases hsl : slotL C x with
          | none => rw [hsl] at q; exact q
          | some i => rw [hsl] at q; exact h _ _ _ _ q
      . refine .inr ⟨?_, ?_⟩
        . show ((false, _) :: assignEach r env).length = _
          simp [h1]
        . show List.findIdx? _ ((false, _) :: assignEach r env) = none
          simp [List.findIdx?_cons, h2]
    | _ => exact .inl λ v σ H Q z => z
theorem gTup_ok (F : Fits CX k X C) {ts : List Expr} {j : Nat} {pos : Pos} (h : ∀ x pos, Expr.Name x pos ∈ ts -> C.names.lookup x = some .cell -> X.fn x = true) : PG X (.Tuple ts j pos) (gTup0 ts.length (gNms C ts)) := by
  rcases each_names (C := C) (env := X.env) (ts := ts) with z | ⟨h1, h2⟩
  . exact λ pins s σ H v u Q I r ⟨a, xs, e, hr, hl, q⟩ => (z _ _ _ _ q).elim
  . exact pg_tup0 F.calm (gNms_ok F ts h) h1 h2
end
noncomputable def clOf (env : Env) : List (Str × NameKind) -> List (Str × Addr) -> List (Str × Addr)
  | [], acc => acc
  | (x, .free) :: r, acc => clOf env r ((x, (env.cells.lookup x).getD 0) :: acc)
  | (_, _) :: r, acc => clOf env r acc
theorem clos_of {env : Env} : ∀ {names : List (Str × NameKind)} {acc : List (Str × Addr)}, (∀ x, (x, NameKind.free) ∈ names -> ∃ c, env.cells.lookup x = some c) →
    (forIn names acc (λ (p : Str × NameKind) (r : List (Str × Addr)) => if (p.2 == .free) = true then do let c ← cellOf env p.1; pure (ForInStep.yield ((p.1, c) :: r)) else pure (ForInStep.yield r)) : Sem (List (Str × Addr))) = pure (clOf env names acc)
  | [], acc, _ => by rw [List.forIn_nil]; rfl
  | (x, kd) :: r, acc, h => by
    rw [List.forIn_cons]
    have ih := λ acc => clos_of (env := env) (names := r) (acc := acc) λ y hy => h y (List.mem_cons_of_mem _ hy)
    cases kd with
    | free =>
      obtain ⟨c, hc⟩ := h x (by simp)
      have e1 : cellOf env x = pure c := by unfold cellOf; rw [hc]
      simp only [beq_self_eq_true, if_true, e1, pure_bind]
      rw [ih]
      show _ = pure (clOf env r ((x, (env.cells.lookup x).getD 0) :: acc))
      rw [hc]
      rfl
    | «local» => simpa [clOf] using ih acc
    | cell => simpa [clOf] using ih acc
    | globalExplicit => simpa [clOf] using ih acc
    | globalImplicit => simpa [clOf] using ih acc
theorem closureFor_some {scope : Scope} {env : Env} (h : ∀ x, (x, NameKind.free) ∈ scope.names -> ∃ c, env.cells.lookup x = some c) : closureFor scope env = pure (clOf env scope.names []) := by
  have := clos_of (env := env) (names := scope.names) (acc := []) h
  unfold closureFor
  simpa using this
theorem clOf_mem {env : Env} : ∀ {names : List (Str × NameKind)} {acc : List (Str × Addr)} {p : Str × Addr}, p ∈ clOf env names acc -> p ∈ acc \/ ((p.1, NameKind.free) ∈ names /\ p.2 = (env.cells.lookup p.1).getD 0)
  | [], acc, p, h => .inl h
  | (x, kd) :: r, acc, p, h => by
    cases kd with
    | free =>
      rcases clOf_mem (names := r) h with h | ⟨h1, h2⟩
      . rcases List.mem_cons.mp h with rfl | h
        . exact .inr ⟨by simp, rfl⟩
        . exact .inl h
      . exact .inr ⟨List.mem_cons_of_mem _ h1, h2⟩
    | _ =>
      rcases clOf_mem (names := r) h with h | ⟨h1, h2⟩
      . exact .inl h
      . exact .inr ⟨List.mem_cons_of_mem _ h1, h2⟩
theorem clOf_acc {env : Env} : ∀ {names : List (Str × NameKind)} {acc : List (Str × Addr)} {p : Str × Addr}, p ∈ acc -> p ∈ clOf env names acc
  | [], acc, p, h => h
  | (x, kd) :: r, acc, p, h => by
    cases kd with
    | free => exact clOf_acc (names := r) (List.mem_cons_of_mem _ h)
    | _ => exact clOf_acc (names := r) h
theorem clOf_has {env : Env} : ∀ {names : List (Str × NameKind)} {acc : List (Str × Addr)} {x : Str}, (x, NameKind.free) ∈ names -> ∃ c, (x, c) ∈ clOf env names acc
  | (y, kd) :: r, acc, x, h => by
    rcases List.mem_cons.mp h with e | h2
    . cases e
      exact ⟨_, clOf_acc (names := r) (List.mem_cons_self)⟩
    . cases kd <;> exact clOf_has (names := r) h2
theorem lookup_some_mem {α β : Type} [BEq α] [LawfulBEq α] : ∀ {l : List (α × β)} {a : α} {b : β}, l.lookup a = some b -> (a, b) ∈ l
  | (x, y) :: r, a, b, h => by
    rw [List.lookup_cons] at h
    split at h
    . rename_i e
      cases h
      have := eq_of_beq e
      subst this
      simp
    . exact List.mem_cons_of_mem _ (lookup_some_mem h)
theorem lookup_of_mem {α β : Type} [BEq α] [LawfulBEq α] : ∀ {l : List (α × β)} {a : α} {b : β}, (a, b) ∈ l -> ∃ c, l.lookup a = some c
  | (x, y) :: r, a, b, h => by
    rw [List.lookup_cons]
    split
    . exact ⟨_, rfl⟩
    . rename_i ne
      rcases List.mem_cons.mp h with e | h
      . cases e
        simp at ne
      . exact lookup_of_mem h
section
variable {CX : CXT} {k : Nat} {X : Cx} {C : Cfg} {w : W} {scope : Scope} {tn : List Str} {fr : List (Str × Nat)}
theorem relN_eq (F : Fits CX k X C) : (relabel scope X.env).names = relN C scope.names := by
  unfold relabel relN
  simp only
  apply List.map_congr_left
  rintro ⟨n, kd⟩ _
  have e1 : (X.env.scope.kind == ScopeKind.function) = true := by rw [F.kind]; rfl
  have e2 : X.env.kindOf n = C.names.lookup n := by show X.env.scope.names.lookup n = _; rw [F.names]
  simp only [e1, e2, Bool.and_true]
theorem relN_lookup {names : List (Str × NameKind)} {x : Str} : ∀ {kd : NameKind}, names.lookup x = some kd -> (relN C names).lookup x = some (if (kd == NameKind.free && C.names.lookup x == some .cell) = true then .cell else kd) := by
  induction names with
  | nil => intro kd h; cases h
  | cons p r ih =>
    intro kd h
    obtain ⟨n, q⟩ := p
    rw [List.lookup_cons] at h
    unfold relN
    rw [List.map_cons, List.lookup_cons]
    split at h
    . rename_i e
      cases h
      have e' := eq_of_beq e
      subst e'
      by_cases hc : (kd == NameKind.free && C.names.lookup x == some .cell) = true
      . simp only [hc, if_true, beq_self_eq_true]
      . simp only [hc, if_false, beq_self_eq_true, Bool.false_eq_true]
    . rename_i ne
      have e1 : (x == (if (q == NameKind.free && C.names.lookup n == some .cell) = true then (n, NameKind.cell) else (n, q)).1) = false := by
        split <;> simpa using ne
      simp only [e1]
      exact ih h
theorem freeOf_ok : ∀ {names : List (Str × NameKind)} {fr : List (Str × Nat)}, freeOf C names = some fr -> (∀ y ∈ names, y.2 ≠ .cell) /\ (∀ x, (x, NameKind.free) ∈ names -> C.names.lookup x = some .cell) ∧
    ∀ q ∈ fr, slotOf C.N q.1 = some q.2 /\ C.names.lookup q.1 = some .cell /\ (q.1, NameKind.free) ∈ names
  | [], fr, h => by
    cases h
    exact ⟨λ y hy => by simp at hy, λ x hx => by simp at hx, λ q hq => by simp at hq⟩
  | (x, kd) :: r, fr, h => by
    cases kd with
    | free =>
      unfold freeOf at h
      split at h
      . rename_i j l e1 e2 e3
        cases h
        obtain ⟨i1, i2, i3⟩ := freeOf_ok e3
        refine ⟨λ y hy => ?_, λ z hz => ?_, λ q hq => ?_⟩
        . rcases List.mem_cons.mp hy with rfl | hy
          . simp
          . exact i1 y hy
        . rcases List.mem_cons.mp hz with e | hz
          . cases e; exact e2
          . exact i2 z hz
        . rcases List.mem_cons.mp hq with rfl | hq
          . exact ⟨e1, e2, by simp⟩
          . obtain ⟨a, b, c⟩ := i3 q hq
            exact ⟨a, b, List.mem_cons_of_mem _ c⟩
      . cases h
    | cell => cases h
    | _ =>
      obtain ⟨i1, i2, i3⟩ := freeOf_ok (names := r) (fr := fr) h
      refine ⟨λ y hy => ?_, λ z hz => ?_, λ q hq => ?_⟩
      . rcases List.mem_cons.mp hy with rfl | hy
        . simp
        . exact i1 y hy
      . rcases List.mem_cons.mp hz with e | hz
        . cases e
        . exact i2 z hz
      . obtain ⟨a, b, c⟩ := i3 q hq
        exact ⟨a, b, List.mem_cons_of_mem _ c⟩
theorem compOk_of (F : Fits CX k X C) (ok : X.Ok) (hf : freeOf C scope.names = some fr) (hk : scope.kind = .function) (hb : okBlock tn fr scope.names = true) : CompOk X scope tn fr (clOf X.env scope.names []) := by
  obtain ⟨f1, f2, f3⟩ := freeOf_ok hf
  simp only [okBlock, Bool.and_eq_true] at hb
  obtain ⟨⟨b1, b2⟩, b3⟩ := hb
  have b2' : ∀ y ∈ scope.names, scope.names.lookup y.1 = some y.2 := λ y hy => by simpa using List.all_eq_true.mp b2 y hy
  have kx : ∀ x, X.env.kindOf x = C.names.lookup x := λ x => by show X.env.scope.names.lookup x = _; rw [F.names]
  have hc : ∀ x, (x, NameKind.free) ∈ scope.names -> ∃ c, X.env.cells.lookup x = some c := λ x hx => ok.has x (.inl (by rw [kx]; exact f2 x hx))
  have sub : ∀ x c, (clOf X.env scope.names []).lookup x = some c -> X.env.cells.lookup x = some c := λ x c h => by
    rcases clOf_mem (lookup_some_mem h) with z | ⟨h1, h2⟩
    . simp at z
    . obtain ⟨c', hc'⟩ := hc x h1
      simp only at h2
      rw [hc'] at h2
      simp only [Option.getD_some] at h2
      rw [h2]
      exact hc'
  have has : ∀ x, (x, NameKind.free) ∈ scope.names -> ∃ c, (clOf X.env scope.names []).lookup x = some c := λ x hx => by
    obtain ⟨c, h⟩ := clOf_has (env := X.env) (acc := []) hx
    exact lookup_of_mem h
  refine ⟨closureFor_some hc, hk, f1, λ y hy hl => by rw [b2' y hy, hl], ?_, λ x hx => ?_, sub⟩
  . -- the free names
    have : ∀ l : List (Str × Nat), (∀ q ∈ l, q ∈ fr) -> FreeOk X scope (clOf X.env scope.names []) l := by
      intro l
      induction l with
      | nil => exact λ _ => .nil
      | cons q r ih =>
        intro h
        obtain ⟨x, j⟩ := q
        obtain ⟨a, b, c⟩ := f3 (x, j) (h _ (by simp))
        refine .cons (by rw [F.N]; exact slotOf_get a) (by rw [kx]; exact b) ?_ ?_ (ih λ q hq => h q (List.mem_cons_of_mem _ hq))
        . rw [relN_eq F, relN_lookup (b2' _ c)]
          simp [b]
        . obtain ⟨cc, e⟩ := has x c
          rw [e, sub x cc e]
    exact this fr λ q hq => hq
  . rw [relN_eq F] at hx
    have hin : (x, NameKind.free) ∈ scope.names := by
      have : ∃ kd, (relN C scope.names).lookup x = some kd /\ (kd = .cell \/ kd = .free) := by
        rcases hx with h | h
        . exact ⟨_, h, .inl rfl⟩
        . exact ⟨_, h, .inr rfl⟩
      obtain ⟨kd, h1, h2⟩ := this
      have hm := lookup_some_mem h1
      unfold relN at hm
      obtain ⟨⟨n, q⟩, hm1, hm2⟩ := List.mem_map.mp hm
      simp only at hm2
      split at hm2
      . rename_i hcond
        cases hm2
        have : q = .free := by
          simp only [Bool.and_eq_true] at hcond
          exact eq_of_beq hcond.1
        subst this
        exact hm1
      . cases hm2
        rcases h2 with rfl | rfl
        . exact absurd rfl (f1 _ hm1)
        . exact hm1
    exact has x hin
theorem fits_in (F : Fits CX k X C) (hk : scope.kind = .function) (hb : okBlock tn fr scope.names = true) (cl : List (Str × Addr)) (d : CDyn) : Fits CX k (compCx X tn fr scope cl d) (inCfg C tn fr scope.names) where
  K := F.K
  N := rfl
  nd := by
    simp only [okBlock, Bool.and_eq_true] at hb
    exact of_decide_eq_true hb.1.1
  names := relN_eq F
  kind := hk
  calm := F.calm
  room := F.room
  pass := λ pins σ H s e s' I h => (F.no _ _ _ _ _ h).elim
  no := F.no
  fns := F.fns
  mks := F.mks
  mts := F.mts
  fld := F.fld
  glo := F.glo
  nog := F.nog
  ics := F.ics
theorem slotOf_lt : ∀ {tn l : List Str} {x : Str} {i : Nat}, x ∈ tn -> slotOf (tn ++ l) x = some i -> i < tn.length
  | y :: r, l, x, i, hx, h => by
    rw [List.cons_append] at h
    unfold slotOf at h
    split at h
    . cases h
      simp
    . rename_i ne
      rcases List.mem_cons.mp hx with e | hx
      . exact absurd e.symm ne
      . cases e : slotOf (r ++ l) x with
        | none => rw [e] at h; cases h
        | some j =>
          rw [e] at h
          cases h
          have := slotOf_lt hx e
          simp
          omega
theorem slotL_lt {x : Str} {i : Nat} (hx : x ∈ tn) (h : slotL (inCfg C tn fr scope.names) x = some i) : i < tn.length := by
  unfold slotL at h
  split at h
  . exact slotOf_lt hx h
  . exact slotOf_lt hx h
  . cases h
theorem kg_Nm {x : Str} (hx : x ∈ tn) : KeepsG tn.length (gNm (inCfg C tn fr scope.names) x) := by
  unfold gNm
  split
  . rename_i e
    exact kg_name (slotL_lt hx e)
  . exact λ v σ H Q h => h.elim
theorem kg_Nms : ∀ {ts : List Expr}, (∀ x pos, Expr.Name x pos ∈ ts -> x ∈ tn) -> KeepsGs tn.length (gNms (inCfg C tn fr scope.names) ts)
  | [], _ => kg_nil
  | e :: r, h => by
    cases e with
    | Name x pos =>
      intro vs σ H Q ⟨v, q, e, g⟩
      refine ⟨v, q, e, ?_⟩
      have hx := h x pos (by simp)
      have ih := kg_Nms (ts := r) λ y p hy => h y p (List.mem_cons_of_mem _ hy)
      unfold gNm at g ⊢
      cases e2 : slotL (inCfg C tn fr scope.names) x with
      | none => rw [e2] at g; exact g.elim
      | some i =>
        rw [e2] at g
        have := ih _ _ _ _ g
        have e3 : (σ.set i (some v)).drop tn.length = σ.drop tn.length := List.drop_set_of_lt (slotL_lt hx e2)
        rw [e3] at this
        exact this
    | _ => exact λ vs σ H Q z => z.elim
theorem mapM_mem {α β : Type} {f : α -> Option β} : ∀ {xs : List α} {ys : List β} {x : α} {y : β}, xs.mapM f = some ys -> x ∈ xs -> f x = some y -> y ∈ ys
  | a :: r, ys, x, y, h, hx, hf => by
    rw [mapM_cons] at h
    cases e : f a with
    | none => rw [e] at h; cases h
    | some z =>
      cases e2 : r.mapM f with
      | none => rw [e, e2] at h; cases h
      | some q =>
        rw [e, e2] at h
        cases h
        rcases List.mem_cons.mp hx with rfl | hx
        . rw [e] at hf; cases hf; simp
        . exact List.mem_cons_of_mem _ (mapM_mem e2 hx hf)
end
section
variable {CX : CXT} {k : Nat} {X : Cx} {C : Cfg} {w : W}
theorem folded_of {it : Expr} {env : Env} (h : isSet it = false) : ∀ x, foldedSetIterable it env x = pure x := λ x => by
  cases it <;> first | rfl | cases h
theorem wIN_ok (hw : Snd w) (F : Fits CX k X C) {tg : Expr} {x : Str} {p pos : Pos} {e : Expr} {es : List Expr} : PI2 X tg (.Call (.Name x p) (e :: es) [] pos) (wIN w C tg x e es) := by
  unfold wIN
  split
  . rename_i h1 h2 h3 h4
    have ex : x = "range" := of_decide_eq_true h1
    subst ex
    exact pi_rng (gl_of F h2) (F.nog _ (by simpa using h3)) (wA_ok hw F _) h4
  . exact pi2_x
  . split
    . rename_i h1 h2 h3 h4
      have ex : x = "reversed" := of_decide_eq_true h1
      subst ex
      exact pi_rev (gl_of F h2) (F.nog _ (by simpa using h3)) (wA_ok hw F _) h4
    . exact pi2_x
    . exact pi_of it_G (callG_ok hw F)
theorem wIM_ok (hw : Snd w) (F : Fits CX k X C) {tg d : Expr} {m : Str} {apos cpos : Pos} : PI2 X tg (.Call (.Attribute d m apos) [] [] cpos) (wIM w C tg d m apos cpos) := by
  unfold wIM
  split
  . rename_i h
    simp only [Bool.and_eq_true] at h
    obtain ⟨⟨⟨h1, h2⟩, h3⟩, h4⟩ := h
    have ex := of_decide_eq_true h2
    subst ex
    cases tg <;> first | (cases h1; done) | skip
    exact pi_items (hw.E F _) h3 h4
  . exact pi_of it_G (hw.E F _)
theorem wI_ok (hw : Snd w) (F : Fits CX k X C) {tg : Expr} : ∀ it, PI2 X tg it (wI w C tg it) := λ it => by
  cases it with
  | Call f es kw pos =>
    cases kw with
    | cons a b => cases f <;> first | exact pi_of it_G (hw.E F _) | (cases es <;> exact pi_of it_G (hw.E F _))
    | nil =>
      cases es with
      | nil => cases f <;> first | exact wIM_ok hw F | exact pi_of it_G (hw.E F _)
      | cons e es => cases f <;> first | exact wIN_ok hw F | exact pi_of it_G (hw.E F _)
  | Set _ _ _ => exact pi2_x
  | _ => exact pi_of it_G (hw.E F _)
theorem ep_thaw {pins : List (Addr × Obj)} {σ : St} {Q : VK} {v : Value} {s : Shared} (h : EP X pins σ (anyQ X Q) v s) : EP X pins σ Q v s := by
  obtain ⟨x, H, I, r, q | ⟨a, o, u, nf, e, q⟩⟩ := h
  . exact ⟨x, H, I, r, q⟩
  . exact ⟨x, _, inv_thaw I e nf, r, q⟩
theorem ifsG_ok (hw : Snd w) (F : Fits CX k X C) : ∀ ifs, PIfs X ifs (ifsG w C ifs)
  | [] => pif_nil
  | [c] => pif_one (hw.T F c)
  | _ :: _ :: _ => λ _ _ _ _ _ _ h => h.elim
theorem block_tg {scope : Scope} {tn : List Str} {fr : List (Str × Nat)} (hb : okBlock tn fr scope.names = true) {x : Str} (hx : x ∈ tn) : (relN C scope.names).lookup x = some .local := by
  simp only [okBlock, Bool.and_eq_true] at hb
  have := List.all_eq_true.mp hb.2 x hx
  rw [relN_lookup (kd := .local) (by simpa using this)]
  rfl
theorem tg_in {tg : Expr} {tn : List Str} (h : tgNames tg = some tn) : (∀ x pos, tg = .Name x pos -> x ∈ tn) /\ ∀ ts j pos, tg = .Tuple ts j pos -> ∀ x p, Expr.Name x p ∈ ts -> x ∈ tn := by
  refine ⟨λ x pos e => ?_, λ ts j pos e x p hx => ?_⟩
  . subst e
    cases h
    simp
  . subst e
    exact mapM_mem h hx rfl
theorem tg_ok {scope : Scope} {tn : List Str} {fr : List (Str × Nat)} {tg : Expr} (F : Fits CX k X C) (hk : scope.kind = .function) (hb : okBlock tn fr scope.names = true) (ht : tgNames tg = some tn) (cl : List (Str × Addr)) :
    (∀ d, PG (compCx X tn fr scope cl d) tg (wG (inCfg C tn fr scope.names) tg)) /\ KeepsG tn.length (wG (inCfg C tn fr scope.names) tg) := by
  obtain ⟨t1, t2⟩ := tg_in ht
  have nc : ∀ x, x ∈ tn -> (inCfg C tn fr scope.names).names.lookup x = some .cell -> False := λ x hx h => by
    rw [show (inCfg C tn fr scope.names).names.lookup x = some .local from block_tg hb hx] at h
    cases h
  cases tg with
  | Name x pos => exact ⟨λ d => gNm_ok (fits_in F hk hb cl d) λ h => (nc x (t1 x pos rfl) h).elim, kg_Nm (t1 x pos rfl)⟩
  | Tuple ts j pos => exact ⟨λ d => gTup_ok (fits_in F hk hb cl d) λ x p hx h => (nc x (t2 ts j pos rfl x p hx) h).elim, kg_tup (kg_Nms (t2 ts j pos rfl))⟩
  | _ => cases ht
theorem compG_ok (hw : Snd w) (F : Fits CX k X C) {elt : Expr} {gens : List Comprehension} {scope : Scope} {pos : Pos} : PE X (.ListComp elt gens scope pos) (compG w C elt gens scope) := by
  unfold compG
  split
  . rename_i tg it ifs
    split
    . rename_i tn fr e1 e2 e3 e4
      split
      . rename_i hb
        intro pins s σ H Q I h
        obtain ⟨g1, g2⟩ := tg_ok F e3 hb e1 (clOf X.env scope.names [])
        exact thn (pe_comp F.calm (compOk_of F I.ok e2 e3 hb) g2 (pi_old (wI_ok hw F it)) g1 (λ d => ifsG_ok hw (fits_in F e3 hb _ d) ifs) (λ d => hw.E (fits_in F e3 hb _ d) elt) (folded_of e4) pins s σ H (anyQ X Q) I (compI_old h)) λ _ _ z => ep_thaw z
      . exact pe_x
    . exact pe_x
  . exact pe_x
theorem ps_setC {x : Str} {pos' pos cpos : Pos} {elt tg it : Expr} {ifs : List Expr} {scope : Scope} {tn : List Str} {fr : List (Str × Nat)} {wi : TI} {g : TG} {tt : TT} {te : TE} {cl : List (Str × Addr)} {i : Nat}
    (hc : X.calm = true) (ok : CompOk X scope tn fr cl) (kg : KeepsG tn.length g) (hi : PI X tg it wi)
    (hg : ∀ d, PG (compCx X tn fr scope cl d) tg g) (ht : ∀ d, PIfs (compCx X tn fr scope cl d) ifs tt) (he : ∀ d, PE (compCx X tn fr scope cl d) elt te) (hs : ∀ x, foldedSetIterable it X.env x = pure x)
    (hN : X.N.Nodup) (hx : X.N[i]? = some x) (hl : Loc X.env.scope x) (hf : X.fn x = true) (sw : swapsWith (.ListComp elt [⟨tg, it, ifs, 0⟩] scope cpos) (some (.Name x pos')) pos.line X.env = pure true)
    {pins : List (Addr × Obj)} {s : Shared} {σ : St} {H : Hp} {D : Ends} (I : Inv X pins σ H s) (h : tComp wi tn fr g tt te σ H λ v H1 => D.nx (σ.set i (some v)) H1) :
    wpAny (model X.prog X.w) X.A (exec (.Assign [.Name x pos'] (.ListComp elt [⟨tg, it, ifs, 0⟩] scope cpos) pos) X.env) (SP X pins D) X.xe s := by
  rw [exec_Assign_Name_used x pos' _ pos sw]
  refine wpAny_bind (wpAny_standAt ?_)
  show wpAny _ _ (evalThenUse (.ListComp elt [⟨tg, it, ifs, 0⟩] scope cpos) X.env (assign (.Name x pos') X.env) >>= λ _ => pure Flow.next) _ _ _
  refine wpAny_bind ?_
  show wpAny _ _ (comprehension (.ListComp elt [⟨tg, it, ifs, 0⟩] scope cpos) scope X.env _ (newList []) false (eval it X.env) (some (assign (.Name x pos') X.env)) >>= λ _ => pure ()) _ _ _
  refine wpAny_bind ?_
  refine wpAny_comprehension_free (use := some (assign (.Name x pos') X.env)) rfl hs ok.clos ok.kind ok.names (comp_core (RR := λ acc Cc => compPost (model X.prog X.w) X.A X.xe (some (assign (.Name x pos') X.env)) _ acc Cc) hc ok kg hi hg ht he I h ?_)
  intro p Cc G s' I' f m q
  obtain ⟨m, hm⟩ := m
  show wpAny _ _ (assign (.Name x pos') X.env (.ref p)) _ _ _
  show wpAny _ _ (do standAt pos'; bindName X.env x (.ref p)) _ _ _
  refine wpAny_bind (wpAny_standAt ?_)
  refine bindName_ ?_
  refine store_ok2 I' hN hx hl (v := .ref p) rfl (λ s'' I'' ⟨a, sb, ha⟩ => ?_) (.inl hf)
  have hne : Cc ≠ a := by
    rcases ha with rfl | ha
    . exact f.2.1
    . exact λ e => f.2.2.2.2.1 _ _ ha e.symm
  refine ⟨m, hm.sameBut sb hne, λ h' hs' => ?_⟩
  refine wpAny_pure (wpAny_pure ?_)
  refine ⟨_, G, ?_, q⟩
  exact I''.turned (it := Cc) (h' := h') (t' := s''.toks) (λ b o hb e => hs'.extBut b o hb e) f.1 f.2.1 f.2.2.2.1 f.2.2.2.2.1 f.2.2.2.2.2
end
section
variable {CX : CXT} {k : Nat} {X : Cx} {C : Cfg} {w : W}
theorem swaps_not {e : Expr} {t : Option Expr} {n : Nat} {env : Env} (h : isComp e = false) : swapsWith e t n env = pure false := by
  cases e <;> first | rfl | cases h
theorem sole_not {e t : Expr} {n : Nat} {env : Env} (h : isComp e = false) : swapsWithSole [t] e n env = pure false := by
  show swapsWith e (some t) n env = pure false
  exact swaps_not h
theorem plain_ix {b : Expr} (h : isSlice b = false) : PlainIx b := λ o i => by
  cases b <;> first | rfl | cases h
theorem sl_scr : SlR X (rSlS X.K) := λ pins s σ H x v vl vu lo hi sl Q I rx hs pl pu ⟨a, xs, e, h, q⟩ => sl_list pins s σ H x v vl vu lo hi sl Q I rx hs pl pu ⟨a, xs, e, h, q.at⟩
theorem pairsG_ok (hw : Snd w) (F : Fits CX k X C) {pos : Pos} : ∀ {ks : List (Option Expr)} {vs : List Expr} {l : List (TE × TE)}, pairsG w C ks vs = some l -> PPs X pos ks vs l /\ ks.all (·.isSome) = true /\ ks.length = vs.length /\ ks.length = l.length
  | [], [], l, h => by cases h; exact ⟨pps_nil, rfl, rfl, rfl⟩
  | [], _ :: _, l, h => by cases h
  | none :: _, [], l, h => by cases h
  | none :: _, _ :: _, l, h => by cases h
  | some _ :: _, [], l, h => by cases h
  | some e :: ks, v :: vs, l, h => by
    unfold pairsG at h
    split at h
    . rename_i r er
      cases h
      obtain ⟨i1, i2, i3, i4⟩ := pairsG_ok hw F (pos := pos) er
      exact ⟨pps_cons (hw.E F e) (hw.E F v) i1, by simpa using i2, by simp [i3], by simp [i4]⟩
    . cases h
theorem pe_dnew {pos : Pos} : PE X (.Dict [] [] pos) tDNew := λ pins s σ H Q I h => h.elim (λ h => pe_dnewK pins s σ H Q I h.at) (λ h => pe_dnewT pins s σ H Q I h.at)
theorem dispG_ok (hw : Snd w) (F : Fits CX k X C) {ks : List (Option Expr)} {vs : List Expr} {pos : Pos} : PE X (.Dict ks vs pos) (dispG w C ks vs) := by
  unfold dispG
  split
  . rename_i h
    obtain ⟨i1, i2, i3, i4⟩ := pairsG_ok hw F (pos := pos) h
    have : ks = [] := List.length_eq_zero_iff.mp (by rw [i4]; rfl)
    subst this
    have : vs = [] := List.length_eq_zero_iff.mp (by rw [<- i3]; rfl)
    subst this
    exact pe_dnew
  . rename_i l hl h1 h2
    obtain ⟨i1, i2, i3, i4⟩ := pairsG_ok hw F (pos := pos) h1
    refine pe_disp i1 i2 i3 (λ e => ?_) (of_decide_eq_true h2)
    subst e
    have : l = [] := List.length_eq_zero_iff.mp (by rw [<- i4]; rfl)
    subst this
    exact hl rfl
  . exact pe_x
theorem slX_ok (hw : Snd w) (F : Fits CX k X C) {a : Expr} {lo hi : Option Expr} {p2 pos : Pos} : PE X (.Subscript a (.Slice lo hi none p2) pos) (slX w C a lo hi) := by
  unfold slX
  split
  . rw [<- F.K]
    exact pe_slice sl_scr (hw.E F _) (poG_ok hw F _) (poG_ok hw F _)
  . exact pe_slice sl_G (hw.E F _) (poG_ok hw F _) (poG_ok hw F _)
theorem subX_ok (hw : Snd w) (F : Fits CX k X C) {a b : Expr} {pos : Pos} : PE X (.Subscript a b pos) (subX w C a b) := by
  unfold subX
  split
  . rename_i h1 h2
    rw [<- F.K]
    exact pe_ix ix_list (hw.E F _) (hw.E F _) (plain_ix h1)
  . rename_i h1 h2
    exact pe_ix (ix_getG (hu_of F.room)) (hw.E F _) (hw.E F _) (plain_ix h1)
  . exact pe_x
theorem attX_ok (hw : Snd w) (F : Fits CX k X C) {o : Expr} {f : Str} {pos : Pos} : PE X (.Attribute o f pos) (attX w C o f) := by
  unfold attX
  split
  . rename_i cl e1 e2
    obtain ⟨c, n⟩ := F.fld _ cl e1
    exact pe_fldG c n (hw.E F _) (base_of e2)
  . exact pe_x
theorem stepE_ok (hw : Snd w) (F : Fits CX k X C) : ∀ e, PE X e (stepE w C e) := λ e => by
  cases e with
  | Constant c j p => exact constG_ok _
  | Name x p => exact pe_nameG F _ _
  | BinOp a op b p => exact pe_op (op_binG _) (hw.E F _) (hw.E F _)
  | UnaryOp op a p => cases op <;> first | exact pe_notG (hw.E F _) | (show PE X _ (tUn negG (w.E C a)); exact pe_un un_negG (hw.E F _)) | exact pe_x
  | BoolOp op es p => cases op <;> first | exact andG_ok hw F _ | exact orG_ok hw F _
  | Compare a ops bs p => exact cmpE_ok hw F
  | IfExp c a b p => exact pe_ifG (hw.T F _) (hw.E F _) (hw.E F _)
  | List es p => exact PE.imp (pe_lst (PA.mo (wA_ok hw F _))) λ σ H Q h => ⟨_, h, λ xs H1 q => ⟨q.1, q.2.at⟩⟩
  | Tuple es j p => exact PE.imp (pe_tup (PA.mo (wA_ok hw F _))) λ σ H Q h => ⟨_, h, λ xs H1 q => ⟨q.1, q.2.at⟩⟩
  | Dict ks vs p => exact dispG_ok hw F
  | Subscript a b p =>
    cases b with
    | Slice lo hi st p2 =>
      cases st with
      | none => exact slX_ok hw F
      | some st => exact subX_ok hw F
    | _ => exact subX_ok hw F
  | Attribute o f p => exact attX_ok hw F
  | Call f es kw p =>
    cases kw with
    | nil => cases f <;> first | exact callG_ok hw F | exact methG_ok hw F | exact pe_x
    | cons a b => cases f <;> exact pe_x
  | ListComp elt gens scope p => exact compG_ok hw F
  | _ => exact pe_x
theorem stepT_ok (hw : Snd w) (F : Fits CX k X C) : ∀ e, PT X e (stepT w C e) := λ e => by
  cases e with
  | UnaryOp op a pos => cases op <;> first | exact pt_not (hw.T F a) | exact pt_x
  | BoolOp op es pos => cases op <;> first | exact (andB_ok hw F es).pt | exact (orB_ok hw F es).pt
  | IfExp a b c pos => exact pt_x
  | Compare a ops bs pos => exact cmpT_ok hw F
  | _ => exact pt_G (stepE_ok hw F _) λ _ => rfl
theorem stepA_ok (hw : Snd w) (F : Fits CX k X C) (hf : ∀ x, X.fn x = true) (x : Str) (i : Nat) (pos' pos : Pos) (e : Expr) (ei : slotL C x = some i) : PS X (.Assign [.Name x pos'] e pos) (tAsg (stepE w C e) (gName i)) := by
  obtain ⟨h1, h2, h3⟩ := slotL_ok F ei
  have plain : ∀ {e : Expr}, swapsWith e (some (.Name x pos')) pos.line X.env = pure false -> PS X (.Assign [.Name x pos'] e pos) (tAsg (stepE w C e) (gName i)) := λ {e} h => ps_set (nodupN F) h1 h2 (stepE_ok hw F e) h (.inl (hf x))
  cases e with
  | ListComp elt gens scope cpos =>
    cases hb : (X.env.blockKind == .function && X.env.kindOf x == some .local && pos'.line == (Expr.ListComp elt gens scope cpos).pos.line && !(scope.names.any λ (n, k) => n == x && (k == .local || k == .cell))) with
    | false => exact plain (by show pure _ = _; rw [hb])
    | true =>
      show PS X _ (tAsg (compG w C elt gens scope) (gName i))
      unfold compG
      split
      . rename_i tg it ifs
        split
        . rename_i tn fr e1 e2 e3 e4
          split
          . rename_i hb2
            intro pins s σ H D I h
            obtain ⟨g1, g2⟩ := tg_ok F e3 hb2 e1 (clOf X.env scope.names [])
            exact thn (ps_setC (D := anyD X D) F.calm (compOk_of F I.ok e2 e3 hb2) g2 (pi_old (wI_ok hw F it)) g1 (λ d => ifsG_ok hw (fits_in F e3 hb2 _ d) ifs) (λ d => hw.E (fits_in F e3 hb2 _ d) elt) (folded_of e4) (nodupN F) h1 h2 (hf x) (by show pure _ = _; rw [hb]) I (compI_old h)) λ _ _ z => SP.thaw z
          . exact λ _ _ _ _ _ _ h => h.elim
        . exact λ _ _ _ _ _ _ h => h.elim
      . exact λ _ _ _ _ _ _ h => h.elim
  | SetComp a g sc p => exact λ _ _ _ _ _ _ h => h.elim
  | DictComp a b g sc p => exact λ _ _ _ _ _ _ h => h.elim
  | _ => exact plain (swaps_not rfl)
theorem ps_ifG {c : Expr} {a b : List Stmt} {tc : TT} {t u : TS} {pos : Pos} (hc : PT X c tc) (ha : PSs X a t) (hb : PSs X b u) : PS X (.If c a b pos) (sIf tc t u) := λ pins s σ H D I h =>
  ps_if (PT.mo hc) ha hb pins s σ H D I ⟨_, h, λ d H1 q => br_ite q⟩
theorem wSs_ok (hw : ∀ s, PS X s (w.S C s)) : ∀ ss, PSs X ss (wSs w C ss)
  | [] => pss_nil
  | [s] => pss_one (hw s)
  | s :: t :: r => pss_cons (hw s) (wSs_ok hw (t :: r))
theorem ps_fldG {cl : Addr} {f : Str} {o e : Expr} {to te : TE} {pos pos' : Pos} (c : Cls X.K cl) (n : NoAttr X.K cl f) (ho : PE X o to) (he : PE X e te) (hs : isComp e = false) : PS X (.Assign [.Attribute o f pos'] e pos) (sFldG cl f to te) := λ pins s σ H D I h =>
  ps_fld (PE.mo ho) (PE.mo he) (swaps_not hs) pins s σ H D I ⟨_, h, λ y H1 q => ⟨_, q, λ x H2 q2 => by
    split at q2
    . unfold sfH at q2
      split at q2
      . obtain ⟨rfl, q3, q4⟩ := q2
        exact ⟨_, _, _, _, rfl, by assumption, c, n, q3, q4⟩
      . exact q2.elim
    . exact q2.elim⟩⟩
theorem asgG_ok (hw : Snd w) (F : Fits CX k X C) (hf : ∀ x, X.fn x = true) {tg e : Expr} {pos : Pos} : PS X (.Assign [tg] e pos) (asgG w C tg e) := by
  cases tg with
  | Name x p =>
    show PS X _ (asgN w C x e)
    unfold asgN
    split
    . exact hw.A F hf _ _ _ _ _ (by assumption)
    . exact ps_x
  | Subscript o i p =>
    show PS X _ (asgS w C o i e)
    unfold asgS
    split
    . rename_i h1 h2
      exact ps_asg (hw.E F _) (pg_sub (hw.E F _) (hw.E F _) (set_G F.room) (by intro v; cases i <;> first | rfl | cases h1)) (sole_not h2) (by cases e <;> rfl) rfl
    . exact ps_x
  | Attribute o f p =>
    show PS X _ (asgF w C o f e)
    unfold asgF
    split
    . rename_i cl e1 e2
      obtain ⟨c, n⟩ := F.fld f cl e1
      exact ps_fldG c n (hw.E F _) (hw.E F _) e2
    . exact ps_x
  | _ => exact ps_x
theorem wG_ok (F : Fits CX k X C) (hf : ∀ x, X.fn x = true) : ∀ tg, PG X tg (wG C tg) := λ tg => by
  cases tg with
  | Name x pos => exact gNm_ok F λ _ => hf x
  | Tuple ts j pos => exact gTup_ok F λ x _ _ _ => hf x
  | _ => exact pg_x
theorem exX_ok (hw : Snd w) (F : Fits CX k X C) {e : Expr} {p : Pos} : PS X (.Expr e p) (exX w C e) := by
  unfold exX
  split
  . rename_i h
    cases e with
    | Constant c j q => cases c <;> first | exact ps_doc | cases h
    | _ => cases h
  . rename_i h1 h2
    exact ps_expr (hw.E F _) (swaps_not h2)
  . exact ps_x
theorem stepS_ok (hw : Snd w) (F : Fits CX k X C) (hp : PassesOwn (model X.prog X.w) X.A X.env X.xe) (hf : ∀ x, X.fn x = true) : ∀ s, PS X s (stepS w C s) := λ s => by
  cases s with
  | Expr e p => exact exX_ok hw F
  | Return o p =>
    cases o with
    | some e => exact ps_ret (hw.E F _)
    | none => exact ps_retN
  | Pass p => exact ps_pass
  | If c a b p => exact ps_ifG (hw.T F _) (wSs_ok (hw.S F hp hf) _) (wSs_ok (hw.S F hp hf) _)
  | For tg it body els p =>
    cases els with
    | nil =>
      show PS X _ (forX w C tg it body)
      unfold forX
      split
      . rename_i h
        exact ps_for2 hp F.calm (wI_ok hw F _) (wG_ok F hf _) (wSs_ok (hw.S F hp hf) _) (folded_of h)
      . exact ps_x
    | cons a b => exact ps_x
  | Assign ts e p =>
    cases ts with
    | nil => exact ps_x
    | cons tg r =>
      cases r with
      | nil => exact asgG_ok hw F hf
      | cons a b => exact ps_x
  | _ => exact ps_x
theorem wp_ok : ∀ n, Snd (wp n)
  | 0 => ⟨λ _ _ => pe_x, λ _ _ => pt_x, λ _ _ _ _ _ _ _ _ _ _ _ _ _ _ h => h.elim, λ _ _ _ _ => ps_x⟩
  | n + 1 => ⟨stepE_ok (wp_ok n), stepT_ok (wp_ok n), stepA_ok (wp_ok n), stepS_ok (wp_ok n)⟩
end
structure Tabs where
  fns : List (Str × Sp) := []
  mks : List (Str × Addr × Sp) := []
  mts : List (Str × Addr × Sp) := []
  fld : List (Str × Addr) := []
  glo : List (Str × V) := []
  nog : List Str := []
  scr : List Str := []
  ics : List Addr := []
noncomputable def cfg (T : Tabs) (K : PySem.W.Frag) (N : List Str) (names : List (Str × NameKind)) (E : XK) : Cfg := ⟨K, N, names, T.fns, T.mks, T.mts, T.fld, T.glo, T.nog, T.scr, E, T.ics⟩
structure Lib (P : Program) (w : World) (K : PySem.W.Frag) (mg : Str -> Option Value) (base : Heap) (CX : CXT) (k : Nat) (T : Tabs) : Prop where
  fns : ∀ x sp, T.fns.lookup x = some sp -> ∃ f fd ps, FnOk P w K mg base CX k f fd ps sp /\ mg x = some (.ref f) /\ PySem.W.keepIn K (.ref f) = true /\ Binds K fd ps []
  mks : ∀ x cl sp, T.mks.lookup x = some (cl, sp) -> ∃ f fd ps, Mk K cl f /\ FnOk P w K mg base CX k f fd ps sp /\ mg x = some (.ref cl) /\ Binds K fd ps []
  mts : ∀ m cl sp, T.mts.lookup m = some (cl, sp) -> ∃ f fd ps, Cls K cl /\ Meth K cl m f /\ FnOk P w K mg base CX k f fd ps sp /\ Binds K fd ps []
  fld : ∀ f cl, T.fld.lookup f = some cl -> Cls K cl /\ NoAttr K cl f
  glo : ∀ x v, T.glo.lookup x = some v -> ∃ u, mg x = some u /\ RelV v u
  nog : ∀ x ∈ T.nog, mg x = none
  ics : ∀ c ∈ T.ics, IsC K c
section
variable {P : Program} {w : World} {K : PySem.W.Frag} {mg : Str -> Option Value} {base : Heap} {CX : CXT} {k : Nat} {T : Tabs}
theorem fn_wp (n : Nat) {x qual : Str} {st : Stmt} {f : Addr} {fd : FuncData} {N ps : List Str} {sp : Sp} (F : Fun K x qual st f fd) (S : FnScope N ps (defScope st)) (L : Lib P w K mg base CX0 k T)
    (len : ∀ vs H Q E, sp vs H Q E -> vs.length = ps.length) {t : TS} (ht : wSs (wp n) (cfg T K N (defScope st).names E0) (defBody st) = t)
    (hb : ∀ vs H Q E, sp vs H Q E -> t { nx := λ _ H' => Q .non H', rt := Q } (start N vs) H) : FnOk P w K mg base CX0 (k + 2) f fd ps sp := by
  refine F.ok (k := k + 1) S len λ cdv A outer s H vs Q E hr h => ⟨t, ?_, hb vs H Q E h⟩
  rw [<- ht]
  have Ft : Fits CX0 k (cxOf CX0 P w K mg base N qual (defScope st) f cdv A outer s H E).nox (cfg T K N (defScope st).names E0) := {
    K := rfl, N := rfl, nd := S.nd, names := rfl, kind := S.kind, calm := rfl, room := hr, pass := pass0, no := λ _ _ _ _ _ h => h,
    fns := L.fns, mks := L.mks, mts := L.mts, fld := L.fld, glo := L.glo, nog := L.nog, ics := L.ics }
  exact wSs_ok (λ s => (wp_ok n).S Ft PassesOwn.never (λ _ => rfl) s) _
end
theorem loop_lst {a : Addr} {xs : List V} {g : TG} {tb : TS} {D : Ends} {σ : St} {H : Hp} (Pv : Nat -> St -> Hp -> Prop) (h0 : Pv 0 σ H) (hl : ∀ i σ H, i <= xs.length -> Pv i σ H -> H a = some (.lst xs))
    (hs : ∀ i x σ H, xs[i]? = some x -> Pv i σ H -> g x σ H λ σ2 H2 => tb { D with nx := Pv (i + 1), ct := Pv (i + 1), bk := D.nx } σ2 H2) (hd : ∀ σ H, Pv xs.length σ H -> D.nx σ H) : loopJ (Itl0 a) g tb D σ H := by
  unfold loopJ
  exact for_list0 Pv h0 (λ i σ H hi p => .inl (hl i σ H hi p)) hs hd
theorem loop_rng {lo : Int} {n : Nat} {g : TG} {tb : TS} {D : Ends} {σ : St} {H : Hp} (Pv : Nat -> St -> Hp -> Prop) (h0 : Pv 0 σ H)
    (hs : ∀ i σ H, i < n -> Pv i σ H -> g (.int (lo + i)) σ H λ σ2 H2 => tb { D with nx := Pv (i + 1), ct := Pv (i + 1), bk := D.nx } σ2 H2) (hd : ∀ σ H, Pv n σ H -> D.nx σ H) : loopJ (Itr lo n) g tb D σ H := by
  unfold loopJ
  exact for_range Pv h0 hs hd
theorem comp_txt {z : Str} {tn : List Str} {fr : List (Str × Nat)} {g : TG} {tt : TT} {te : TE} {σ : St} {H : Hp} {Q : VK} (f : Nat -> Option V) (hz : z.length < sizeLine)
    (turn : ∀ (i c : Nat), z.cps[i]? = some c -> ∀ (G : Hp) (k : Option V -> Hp -> Prop), k (f c) G -> g (.str ⟨#[c]⟩) (inn tn fr σ) G λ σ2 G2 => tt σ2 G2 λ b G3 => br b (te σ2 G3 λ y G4 => k (some y) G4) (k none G3))
    (fin : ∀ p, H p = none -> Q (.ref p) (upd H p (.lst (z.cps.toList.filterMap f)))) : compJ (Its z) tn fr g tt te σ H Q := by
  unfold compJ
  intro p hp
  exact comp_str f hz turn (fin p hp)
theorem one_lt (a b : Nat) : (([b] : List Nat) < [a]) ↔ b < a := by
  rw [List.cons_lt_cons_iff]
  constructor
  . rintro (h | ⟨_, h⟩)
    . exact h
    . exact absurd h (List.not_lt_nil _)
  . exact .inl
theorem le_one (a b : Nat) : (!decide (([b] : List Nat) < [a])) = decide (a <= b) := by
  by_cases h : a <= b
  . rw [decide_eq_true h, decide_eq_false (by rw [one_lt]; omega)]
    rfl
  . rw [decide_eq_false h, decide_eq_true (by rw [one_lt]; omega)]
    rfl
theorem all_i {p : Addr} {ys : List V} {bs : List Bool} {H : Hp} {Q : VK} (h : H p = some (.lst ys)) (hb : blsOf ys = some bs) (q : Q (.bl (bs.all id)) H) : allG [.ref p] H Q := by
  unfold allG
  simp only [h, hb]
  exact q
theorem bls_map {α : Type} (f : α -> Bool) : ∀ l : List α, blsOf (l.map λ c => V.bl (f c)) = some (l.map f)
  | [] => rfl
  | a :: r => by
    rw [List.map_cons, List.map_cons]
    show (blsOf (r.map λ c => V.bl (f c))).map (f a :: ·) = _
    rw [bls_map f r]
    rfl
noncomputable def lowB (c : Nat) : Bool := decide (97 <= c) && decide (c <= 122)
noncomputable def nameB (z : Str) : Bool := decide (1 <= z.length) && decide (z.length <= 8) && !(z == ("all" : Str)) && z.cps.toList.all lowB
noncomputable def nameV : V -> Bool
  | .str z => nameB z
  | _ => false
theorem kind_str {H : Hp} {x : V} (h : kindV H x = some "str") : ∃ z, x = .str z := by
  cases x with
  | str z => exact ⟨z, rfl⟩
  | ref a =>
    unfold kindV at h
    simp only at h
    split at h <;> first | (cases h; done) | (simp at h)
  | _ => first | (cases h; done) | (simp [kindV] at h)
theorem isi_i {T S : String} {x : V} {H : Hp} {Q : VK} (hT : okTy T = true) (hk : kindV H x = some S) (q : Q (.bl (isKind S T)) H) : isiG [x, .ty T] H Q := by
  unfold isiG
  refine ⟨hT, ?_⟩
  rw [hk]
  exact q
theorem iterS_i {z : Str} {H : Hp} {R : It -> Hp -> Th -> Prop} (q : R (Its z) H none) : iterG (.str z) H R := by
  unfold iterG
  exact q
theorem kind_lst {H : Hp} {p : Addr} {xs : List V} (h : H p = some (.lst xs)) : kindV H (.ref p) = some "list" := by
  unfold kindV
  simp only [h]
theorem kind_tup {H : Hp} {p : Addr} {xs : List V} (h : H p = some (.tup xs)) : kindV H (.ref p) = some "tuple" := by
  unfold kindV
  simp only [h]
theorem kind_dT {H : Hp} {p : Addr} {xs : List (List Key × V)} (h : H p = some (.dT xs)) : kindV H (.ref p) = some "dict" := by
  unfold kindV
  simp only [h]
noncomputable def t_is_name : TS :=
  (tSeq (sIf (tOrB (tNot (ptG (tCB isiG (tCons (gv 0) (tCons (tC (.ty "str")) tNil))))) (tNot (bT (chainG leG leG (tC (.int 1)) (tCB lenG (tCons (gv 0) tNil)) (tC (.int 8))))))
    (tRet (tC (.bl false)))
    tNext)
  (tRet (tAndG (tOp neG (gv 0) (tC (.str "all"))) (tCB allG (tCons (tCompI (iOf iterG (gv 0)) ["sign"] [] (gName 0) tYes (chainG leG leG (tC (.str "a")) (gv 0) (tC (.str "z")))) tNil)))))
theorem r_is_name {x : V} {S : String} {H : Hp} {D : Ends} (hk : kindV H x = some S) (hz : ∀ z, x = .str z -> z.length < sizeLine) (q : ∀ H', Same H H' -> D.rt (.bl (nameV x)) H') : t_is_name D [some x] H := by
  refine isi_i rfl hk ?_
  have q0 := q H (Same.refl H)
  by_cases hS : S = "str"
  . subst hS
    obtain ⟨z, rfl⟩ := kind_str hk
    have hz := hz z rfl
    have hn : nameV (.str z) = (decide (1 <= z.length) && decide (z.length <= 8) && !(z == ("all" : Str)) && z.cps.toList.all lowB) := rfl
    refine br_f rfl ⟨Nat.le_of_lt hz, ?_⟩
    refine br_dec (λ h1 => ?_) (λ h1 => ?_)
    . refine br_not (br_dec (λ h2 => ?_) (λ h2 => ?_))
      . refine br_not (br_of (λ h3 => ?_) (λ h3 => ?_))
        . rw [hn, show (z == ("all" : Str)) = true from h3] at q0
          have q0 : D.rt (.bl false) H := by simpa using q0
          exact q0
        . refine comp_i (iterS_i (comp_txt (λ c => some (.bl (lowB c))) hz ?_ ?_))
          . intro i c hc G k' hk'
            refine br_t rfl ?_
            have e1 : (!decide (([c] : List Nat) < ("a" : Str).cps.toList)) = decide (97 <= c) := le_one 97 c
            have e2 : (!decide (("z" : Str).cps.toList < ([c] : List Nat))) = decide (c <= 122) := le_one c 122
            refine br_of (λ h4 => ?_) (λ h4 => ?_)
            . have h4 : decide (97 <= c) = true := e1 ▸ h4
              have e3 : lowB c = decide (c <= 122) := by
                unfold lowB
                rw [h4, Bool.true_and]
              rw [e3, <- e2] at hk'
              exact hk'
            . have h4 : decide (97 <= c) = false := e1 ▸ h4
              have e3 : lowB c = false := by
                unfold lowB
                rw [h4, Bool.false_and]
              rw [e3] at hk'
              exact hk'
          . intro p hp
            have q1 := q (upd H p (.lst (z.cps.toList.filterMap λ c => some (V.bl (lowB c))))) (same_upd hp)
            refine all_i upd_same (bs := z.cps.toList.map lowB) ?_ ?_
            . rw [List.filterMap_eq_map']
              exact bls_map lowB _
            . rw [hn, decide_eq_true (show 1 <= z.length by omega), decide_eq_true (show z.length <= 8 by omega), show (z == ("all" : Str)) = false from h3] at q1
              rw [List.all_map]
              simpa using q1
      . rw [hn, decide_eq_false (show ¬ z.length <= 8 by omega)] at q0
        have q0 : D.rt (.bl false) H := by simpa using q0
        exact q0
    . rw [hn, decide_eq_false (show ¬ 1 <= z.length by omega)] at q0
      have q0 : D.rt (.bl false) H := by simpa using q0
      exact br_t rfl q0
  . have e : nameV x = false := by
      cases x with
      | str z => exact absurd (by cases hk; rfl) hS
      | _ => rfl
    rw [e] at q0
    have hi : isKind S "str" = false := by
      unfold isKind
      simp [hS]
    exact br_t (by rw [hi]; rfl) (br_t rfl q0)
theorem getS_i {z : Str} {i : Int} {c : Nat} {H : Hp} {Q : VK} (hc : atI z.cps.toList i = some c) (hz : z.length <= sizeLine) (q : Q (.str ⟨#[c]⟩) H) : getG (.str z) (.int i) H Q := by
  unfold getG
  simp only [hc]
  exact ⟨hz, q⟩
theorem getL_i {p : Addr} {xs : List V} {i : Int} {v : V} {H : Hp} {Q : VK} (h : H p = some (.lst xs)) (hv : atI xs i = some v) (q : Q v H) : getG (.ref p) (.int i) H Q := by
  unfold getG
  simp only [h, hv]
  exact q
theorem getT_i {p : Addr} {xs : List V} {i : Int} {v : V} {H : Hp} {Q : VK} (h : H p = some (.tup xs)) (hv : atI xs i = some v) (q : Q v H) : getG (.ref p) (.int i) H Q := by
  unfold getG
  simp only [h, hv]
  exact q
theorem lenL_i {p : Addr} {xs : List V} {H : Hp} {Q : VK} (h : H p = some (.lst xs)) (q : Q (.int xs.length) H) : lenH p H Q := by
  unfold lenH
  simp only [h]
  exact q
theorem addL_i {l b : Addr} {xs ys : List V} {H : Hp} {Q : VK} (hl : H l = some (.lst xs)) (hb : H b = some (.lst ys)) (hz : xs.length + ys.length <= sizeLine) (q : newO H (.lst (xs ++ ys)) Q) : addH l b H Q := by
  unfold addH
  simp only [hl, hb]
  exact ⟨hz, q⟩
theorem iterL_i {a : Addr} {xs : List V} {H : Hp} {R : It -> Hp -> Th -> Prop} (h : H a = some (.lst xs)) (q : R (Itl0 a) H none) : iterG (.ref a) H R := by
  unfold iterG
  simp only [h]
  exact q
theorem eq_i {x y : V} {d e : PyData} {H : Hp} {Q : VK} (hx : rdD 8 H x = some d) (hy : rdD 8 H y = some e) (q : Q (.bl (PyData.eqv d e)) H) : eqH x y H Q := by
  unfold eqH eqD
  refine .inl ?_
  simp only [hx, hy]
  exact q
theorem few {n : Nat} (h : Nat.ble n 1000 = true) : n <= sizeLine := Nat.le_of_lt (small1000 (Nat.le_of_ble_eq_true h))
end Tv
namespace Tv
open PySem PySem.Spec PyProof.Rows L2
section
variable {K : PySem.W.Frag}
noncomputable def cellAt (ns : List Int) (k : Int) : Int := if k < ns.length then ns.getD k.toNat 0 else 0
noncomputable def sp_law_cell_at (K : PySem.W.Frag) : Sp := λ vs H Q _ => ∃ (a : Addr) (ns : List Int) (k : Int), vs = [.ref a, .int k] /\ SqL K H a (ns.map V.int) /\ 0 <= k /\ Q (.int (cellAt ns k)) H
noncomputable def t_law_cell_at (K : PySem.W.Frag) : TS :=
  (tSeq (sIf (bT (tOp ltG (gv 1) (tCB (lenS K) (tCons (gv 0) tNil))))
    (tRet (tOp (rIxL K) (gv 0) (gv 1)))
    tNext)
  (tRet (tC (.int 0))))
theorem r_law_cell_at {a : Addr} {ns : List Int} {k : Int} {H : Hp} {D : Ends} (hS : SqL K H a (ns.map V.int)) (hk : 0 <= k) (q : D.rt (.int (cellAt ns k)) H) : t_law_cell_at K D [some (.ref a), some (.int k)] H := by
  refine ⟨a, _, rfl, hS, ?_⟩
  unfold cellAt at q
  refine br_dec (λ h => ?_) (λ h => ?_)
  . rw [List.length_map] at h
    rw [if_pos h] at q
    obtain ⟨j, rfl⟩ : ∃ j : Nat, k = j := ⟨k.toNat, by omega⟩
    have hj : j < ns.length := by omega
    refine ⟨a, _, j, .int ns[j], rfl, rfl, hS, atI_nat (by simp [hj]), ?_⟩
    simpa [List.getD, hj] using q
  . rw [List.length_map] at h
    rw [if_neg h] at q
    exact q
end
theorem sz : sizeLine = 16777216 := sizeLine_eq
noncomputable def sp_is_name : Sp := λ vs H Q _ => ∃ x S, vs = [x] /\ kindV H x = some S /\ (∀ z, x = .str z -> z.length < sizeLine) /\ ∀ H', Same H H' -> Q (.bl (nameV x)) H'
theorem mul_small {a b : Int} (h0 : 0 <= b) (h1 : b < 2 ^ 64) : CMulW a b := .inl (.inr ⟨by omega, h1⟩)
noncomputable def spLaw (K : PySem.W.Frag) : Sp := λ vs H Q _ => ∃ (a : Addr) (ns : List Int), vs = [.ref a] /\ SqL K H a (ns.map V.int) /\ ns.length <= 63 /\ ∀ H', Q (.bl true) H'
theorem app_i {l : Addr} {xs : List V} {t : TA} {σ : St} {Q : VK} {H : Hp} (h : H l = some (.lst xs)) (q : t σ H λ vs H2 => appendG (.ref l) vs H2 Q) : bmK "append" t σ Q (.ref l) H := by
  unfold bmK
  have : tyB H (.ref l) = some "list" := by unfold tyB; simp only [h]
  rw [this]
  exact q
theorem app_at {l : Addr} {xs : List V} {y : V} {Q : VK} {H : Hp} (h : H l = some (.lst xs)) (hz : xs.length < sizeLine) (q : Q .non (upd H l (.lst (xs ++ [y])))) : appendG (.ref l) [y] H Q := by
  unfold appendG
  simp only [h]
  exact ⟨hz, q⟩
theorem join_i {z : Str} {t : TA} {σ : St} {Q : VK} {H : Hp} (q : t σ H λ vs H2 => joinG (.str z) vs H2 Q) : bmK "join" t σ Q (.str z) H := by
  unfold bmK
  exact q
theorem join_at {z : Str} {l : Addr} {xs : List V} {ys : List Str} {Q : VK} {H : Hp} (h : H l = some (.lst xs)) (hy : strsOf xs = some ys) (hz : (ys.map (·.length)).sum + ys.length * z.length <= 16777216) (q : Q (.str (Txt.join z ys)) H) : joinG (.str z) [.ref l] H Q := by
  unfold joinG
  simp only [h, hy]
  exact ⟨hz, q⟩
theorem fld_i {cl : Addr} {f : Str} {p dx : Addr} {fs : List (Str × V)} {v : V} {H : Hp} {Q : VK} (h : H p = some (.ins cl dx fs)) (hf : fs.lookup f = some v) (q : Q v H) : fldK cl f (.ref p) H Q := by
  unfold fldK
  simp only [h, hf]
  exact ⟨trivial, q⟩
theorem meth_i {cl : Addr} {m : Str} {p dx : Addr} {fs : List (Str × V)} {H : Hp} {R : Prop} (h : H p = some (.ins cl dx fs)) (hf : fs.lookup m = none) (q : R) : methK cl m (.ref p) H R := by
  unfold methK
  simp only [h]
  exact ⟨trivial, hf, q⟩
theorem sfl_i {cl : Addr} {f : Str} {p dx : Addr} {y : V} {fs : List (Str × V)} {σ : St} {H : Hp} {N : St -> Hp -> Prop} (h : H p = some (.ins cl dx fs)) (hz : Nat.blt fs.length 1000 = true) (q : N σ (upd H p (.ins cl dx (putF f y fs)))) : sfH cl f p y σ H N := by
  unfold sfH
  simp only [h]
  exact ⟨trivial, by simpa using hz, q⟩
theorem dispL_i {tk : TE} {σ : St} {H : Hp} {Q : VK} {x : V} {k : Key} (h1 : ∀ G R, R x G -> tk σ G R) (hk : x = kV k) (h : ∀ p b G, H p = none -> H b = none -> b ≠ p -> Same H G -> G p = some (.dK [(k, .ref b)]) -> G b = some (.lst []) -> Q (.ref p) G) : tDisp [(tk, tLstG tNil)] σ H Q := by
  intro p hp
  refine h1 _ _ ⟨few rfl, new_u λ b hb => ⟨?_, [(k, .ref b)], by rw [hk]; rfl, by show 1 <= 15; decide, ?_⟩⟩
  . rw [upd_ne λ z => by rw [<- z, upd_same] at hb; cases hb]
    exact upd_same
  have nb : b ≠ p := λ z => by
    rw [z, upd_same] at hb
    cases hb
  have hb' : H b = none := by
    rw [upd_ne nb] at hb
    exact hb
  have e : mergeK [] [(k, V.ref b)] = [(k, V.ref b)] := by
    show putK [] k _ = _
    rw [putK_new _ rfl]
    rfl
  rw [e]
  refine h p b _ hp hb' nb (λ c o q => ?_) upd_same ?_
  . rw [upd_ne (ne_of_none q hp), upd_ne (ne_of_none q hb'), upd_ne (ne_of_none q hp)]
    exact q
  . rw [upd_ne nb]
    exact upd_same
theorem getK_i {p : Addr} {y v : V} {k : Key} {kvs : List (Key × V)} {H : Hp} {Q : VK} (h : Rd H p (.dK kvs)) (hk : keyOf y = some k) (hv : valV kvs k = some v) (q : Q v H) : getG (.ref p) y H Q := by
  unfold getG
  rcases h with h | ⟨o, h⟩
  . have : dLook H p y = some (some v) := by
      unfold dLook
      simp only [h, hk, Option.map_some, hv]
    simp only [h, this]
    exact q
  . have : dLook H p y = some (some v) := by
      unfold dLook
      simp only [h, hk, Option.map_some, hv]
    simp only [h, this]
    exact q
theorem setK_i {p : Addr} {i v : V} {k : Key} {kvs : List (Key × V)} {H : Hp} {Q : Hp -> Prop} (h : H p = some (.dK kvs)) (hk : keyOf i = some k) (hz : kvs.length < sizeLine) (q : Q (upd H p (.dK (putK kvs k v)))) : setG (.ref p) i v H Q := by
  unfold setG
  simp only [h, hk]
  exact ⟨hz, q⟩
theorem iterD_i {a : Addr} {kvs : List (Key × V)} {H : Hp} {R : It -> Hp -> Th -> Prop} (h : H a = some (.dK kvs)) (q : ∀ o, R (Itd a o kvs) (upd H a (.frz o (.dK kvs))) (some (a, .dK kvs))) : iterG (.ref a) H R := by
  unfold iterG
  simp only [h]
  exact q
theorem items_i {a : Addr} {kvs : List (Key × V)} {H : Hp} {R : It -> Hp -> Th -> Prop} (h : H a = some (.dK kvs)) (q : ∀ o, R (Itp a o kvs) (upd H a (.frz o (.dK kvs))) (some (a, .dK kvs))) : itemsG (.ref a) H R := by
  unfold itemsG
  simp only [h]
  exact q
theorem listL_i {p : Addr} {ys : List V} {H : Hp} {Q : VK} (h : H p = some (.lst ys)) (q : newO H (.lst ys) Q) : listG [.ref p] H Q := by
  unfold listG
  simp only [h]
  exact q
theorem listD_i {p : Addr} {kvs : List (Key × V)} {H : Hp} {Q : VK} (h : Rd H p (.dK kvs)) (q : newO H (.lst (kvs.map λ kv => kV kv.1)) Q) : listG [.ref p] H Q := by
  unfold listG
  rcases h with h | ⟨o, h⟩
  . simp only [h]
    exact q
  . simp only [h]
    exact q
theorem listS_i {z : Str} {H : Hp} {Q : VK} (hz : z.length <= sizeLine) (q : newO H (.lst (z.cps.toList.map λ c => V.str ⟨#[c]⟩)) Q) : listG [.str z] H Q := by
  unfold listG
  exact ⟨hz, q⟩
theorem lenT_i {p : Addr} {xs : List V} {H : Hp} {Q : VK} (h : H p = some (.tup xs)) (q : Q (.int xs.length) H) : lenH p H Q := by
  unfold lenH
  simp only [h]
  exact q
theorem inL_i {neg : Bool} {p : Addr} {x : V} {ys : List V} {es : List PyData} {d : PyData} {H : Hp} {Q : VK} (h : H p = some (.lst ys)) (he : rdAll H ys = some es) (hd : rdD 7 H x = some d) (q : Q (.bl (neg ^^ es.any λ e => PyData.eqv e d)) H) : inG neg x (.ref p) H Q := by
  unfold inG
  simp only [h, he, hd]
  exact q
theorem loop_dic {a : Addr} {o : Obj} {kvs : List (Key × V)} {g : TG} {tb : TS} {D : Ends} {σ : St} {H : Hp} (Pv : Nat -> St -> Hp -> Prop) (h0 : Pv 0 σ H) (hl : ∀ i σ H, i <= kvs.length -> Pv i σ H -> H a = some (.frz o (.dK kvs)))
    (hs : ∀ i k v σ H, kvs[i]? = some (k, v) -> Pv i σ H -> g (kV k) σ H λ σ2 H2 => tb { D with nx := Pv (i + 1), ct := Pv (i + 1), bk := D.nx } σ2 H2) (hd : ∀ σ H, Pv kvs.length σ H -> D.nx σ H) : loopJ (Itd a o kvs) g tb D σ H := by
  unfold loopJ
  refine ⟨λ i m σ H => m = kvs.length - i /\ i <= kvs.length /\ Pv i σ H, ⟨_, rfl, Nat.zero_le _, h0⟩, ?_⟩
  rintro i m σ H ⟨rfl, hi, p⟩
  have q := hl i σ H hi p
  by_cases hlt : i < kvs.length
  . refine .inr ⟨⟨q, hlt⟩, Pv (i + 1), λ σ' H' h => ⟨_, by omega, rfl, hlt, h⟩, ?_⟩
    rintro x H' ⟨rfl, k, v, hx, rfl⟩
    exact hs i k v σ _ hx p
  . have e : i = kvs.length := by omega
    subst e
    exact .inl ⟨⟨q, Nat.le_refl _⟩, hd σ H p⟩
theorem loop_itm {a : Addr} {o : Obj} {kvs : List (Key × V)} {g : TG} {tb : TS} {D : Ends} {σ : St} {H : Hp} (Pv : Nat -> St -> Hp -> Prop) (h0 : Pv 0 σ H) (hl : ∀ i σ H, i <= kvs.length -> Pv i σ H -> H a = some (.frz o (.dK kvs)))
    (hs : ∀ i k v t σ H G, kvs[i]? = some (k, v) -> Pv i σ H -> H t = none -> Same H G -> G t = some (.tup [kV k, v]) -> G = upd H t (.tup [kV k, v]) -> g (.ref t) σ G λ σ2 H2 => tb { D with nx := Pv (i + 1), ct := Pv (i + 1), bk := D.nx } σ2 H2) (hd : ∀ σ H, Pv kvs.length σ H -> D.nx σ H) : loopJ (Itp a o kvs) g tb D σ H := by
  unfold loopJ
  refine ⟨λ i m σ H => m = kvs.length - i /\ i <= kvs.length /\ Pv i σ H, ⟨_, rfl, Nat.zero_le _, h0⟩, ?_⟩
  rintro i m σ H ⟨rfl, hi, p⟩
  have q := hl i σ H hi p
  by_cases hlt : i < kvs.length
  . refine .inr ⟨⟨q, hlt⟩, Pv (i + 1), λ σ' H' h => ⟨_, by omega, rfl, hlt, h⟩, ?_⟩
    rintro x H' ⟨k, v, t, hx, rfl, ht, rfl⟩
    exact hs i k v t σ H _ hx p ht (same_upd ht) upd_same rfl
  . have e : i = kvs.length := by omega
    subst e
    exact .inl ⟨⟨q, Nat.le_refl _⟩, hd σ H p⟩
theorem comp_of {J : It} {xs : List V} {tn : List Str} {fr : List (Str × Nat)} {g : TG} {tt : TT} {te : TE} {σ : St} {H : Hp} {Q : VK} (f : V -> Option V) (hz : xs.length < sizeLine)
    (hJ : ∀ G, Same H G -> (∀ i, i < xs.length -> J.go i G) /\ J.stop xs.length G /\ ∀ i x G', i < xs.length -> J.yld i G x G' -> G' = G /\ xs[i]? = some x)
    (turn : ∀ (i : Nat) (x : V), xs[i]? = some x -> ∀ (G : Hp) (k : Option V -> Hp -> Prop), Same H G -> k (f x) G -> g x (inn tn fr σ) G λ σ2 G2 => tt σ2 G2 λ b G3 => br b (te σ2 G3 λ y G4 => k (some y) G4) (k none G3))
    (fin : ∀ p G, H p = none -> Same H G -> G p = some (.lst (xs.filterMap f)) -> Q (.ref p) G) : compJ J tn fr g tt te σ H Q := by
  unfold compJ
  intro p hp
  refine ⟨λ i m G => m = xs.length - i /\ i <= xs.length /\ Same H G /\ G p = some (.lst ((xs.take i).filterMap f)), ⟨_, rfl, Nat.zero_le _, same_upd hp, by simp [upd_same]⟩, ?_⟩
  rintro i m G ⟨rfl, hi, sm, hg⟩
  obtain ⟨j1, j2, j3⟩ := hJ G sm
  by_cases hlt : i < xs.length
  . refine .inr ⟨j1 i hlt, λ G' => Same H G' /\ G' p = some (.lst ((xs.take (i + 1)).filterMap f)), λ G' h => ⟨_, by omega, rfl, hlt, h⟩, λ x G' y => ?_⟩
    obtain ⟨rfl, hx⟩ := j3 i x G' hlt y
    have et : xs.take (i + 1) = xs.take i ++ [x] := by
      rw [List.take_succ, hx]
      rfl
    have hlen : ((xs.take i).filterMap f).length < sizeLine := by
      have := List.length_filterMap_le f (xs.take i)
      have h2 := List.length_take_le i xs
      omega
    refine turn i x hx _ (λ r G4 => match r with
      | some y => ∃ ys, G4 p = some (.lst ys) /\ ys.length < sizeLine /\ Same H (upd G4 p (.lst (ys ++ [y]))) /\ (upd G4 p (.lst (ys ++ [y]))) p = some (.lst ((xs.take (i + 1)).filterMap f))
      | none => Same H G4 /\ G4 p = some (.lst ((xs.take (i + 1)).filterMap f))) sm ?_
    cases e : f x with
    | none =>
      refine ⟨sm, ?_⟩
      rw [et, List.filterMap_append]
      simpa [e] using hg
    | some y =>
      refine ⟨_, hg, hlen, sm.put hp, ?_⟩
      rw [upd_same, et, List.filterMap_append]
      simp [e]
  . have e : i = xs.length := by omega
    subst e
    rw [List.take_length] at hg
    exact .inl ⟨j2, fin p G hp sm hg⟩
theorem comp_l {a : Addr} {xs : List V} {tn : List Str} {fr : List (Str × Nat)} {g : TG} {tt : TT} {te : TE} {σ : St} {H : Hp} {Q : VK} (f : V -> Option V) (ha : H a = some (.lst xs)) (hz : xs.length < sizeLine)
    (turn : ∀ (i : Nat) (x : V), xs[i]? = some x -> ∀ (G : Hp) (k : Option V -> Hp -> Prop), Same H G -> k (f x) G -> g x (inn tn fr σ) G λ σ2 G2 => tt σ2 G2 λ b G3 => br b (te σ2 G3 λ y G4 => k (some y) G4) (k none G3))
    (fin : ∀ p G, H p = none -> Same H G -> G p = some (.lst (xs.filterMap f)) -> Q (.ref p) G) : compJ (Itl0 a) tn fr g tt te σ H Q := by
  refine comp_of f hz (λ G sm => ?_) turn fin
  refine ⟨λ i hi => ⟨xs, xs[i], .inl (sm _ _ ha), by simp [hi]⟩, ⟨xs, .inl (sm _ _ ha), Nat.le_refl _⟩, ?_⟩
  rintro i x G' hi ⟨rfl, h⟩
  exact ⟨rfl, h xs (.inl (sm _ _ ha))⟩
theorem same_thaw {H G : Hp} {a : Addr} {u f : HO} (h : H a = some u) (s : Same (upd H a f) G) : Same H (upd G a u) := λ b o e => by
  by_cases z : b = a
  . subst z
    rw [h] at e
    cases e
    exact upd_same
  . rw [upd_ne z]
    exact s b o (by rw [upd_ne z]; exact e)
theorem frz_free {H : Hp} {a p : Addr} {f : HO} (h : upd H a f p = none) : H p = none /\ p ≠ a := by
  by_cases z : p = a
  . subst z
    rw [upd_same] at h
    cases h
  . rw [upd_ne z] at h
    exact ⟨h, z⟩
noncomputable def SameX (x : Addr) (H G : Hp) : Prop := ∀ b o, b ≠ x -> H b = some o -> G b = some o
theorem SameX.trans {x : Addr} {H G J : Hp} (a : SameX x H G) (b : SameX x G J) : SameX x H J := λ c o n e => b c o n (a c o n e)
theorem same_x {x : Addr} {H G : Hp} (s : Same H G) : SameX x H G := λ b o _ e => s b o e
theorem sameX_upd {x : Addr} {H : Hp} {o : HO} : SameX x H (upd H x o) := λ b u n e => by
  rw [upd_ne n]
  exact e
end Tv
namespace Tv
open PySem PySem.Spec PyProof.Rows L2
theorem us1 {us : List Value} (h : us.length = 1) : ∃ a, us = [a] := List.length_eq_one_iff.mp h
theorem us2 {us : List Value} (h : us.length = 2) : ∃ a b, us = [a, b] := by
  cases us with
  | nil => cases h
  | cons a r =>
    obtain ⟨b, rfl⟩ := us1 (us := r) (by simpa using h)
    exact ⟨a, b, rfl⟩
theorem us3 {us : List Value} (h : us.length = 3) : ∃ a b c, us = [a, b, c] := by
  cases us with
  | nil => cases h
  | cons a r =>
    obtain ⟨b, c, rfl⟩ := us2 (us := r) (by simpa using h)
    exact ⟨a, b, c, rfl⟩
noncomputable def FnE (P : Program) (w : World) (K : PySem.W.Frag) (mg : Str -> Option Value) (base : Heap) (CX : CXT) (k : Nat) (x : Str) (sp : Sp) : Prop :=
  ∃ f fd ps, FnOk P w K mg base CX k f fd ps sp /\ mg x = some (.ref f) /\ PySem.W.keepIn K (.ref f) = true /\ Binds K fd ps []
section
variable {P : Program} {w : World} {K : PySem.W.Frag} {mg : Str -> Option Value} {base : Heap} {CX : CXT} {j k : Nat} {T : Tabs} {x : Str} {sp : Sp}
theorem FnE.mono (h : FnE P w K mg base CX j x sp) (hj : j <= k) : FnE P w K mg base CX k x sp := by
  obtain ⟨f, fd, ps, F, r⟩ := h
  exact ⟨f, fd, ps, F.mono hj, r⟩
inductive Ents {α : Type} (R : Str -> α -> Prop) : List (Str × α) -> Prop where
  | nil : Ents R []
  | cons {x : Str} {a : α} {r : List (Str × α)} (h : R x a) (t : Ents R r) : Ents R ((x, a) :: r)
theorem Ents.get {α : Type} {R : Str -> α -> Prop} : ∀ {l : List (Str × α)}, Ents R l -> ∀ x a, l.lookup x = some a -> R x a
  | _, .nil, x, a, h => by cases h
  | _, .cons h t, x, a, e => by
    rw [List.lookup_cons] at e
    split at e
    . rename_i q
      cases e
      have := eq_of_beq q
      subst this
      exact h
    . exact t.get x a e
structure DefAt (K : PySem.W.Frag) (mg : Str -> Option Value) (x : Str) (st : Stmt) (ps : List Str) (f : Addr) (fd : FuncData) : Prop where
  fn : Fun K x x st f fd
  b : Binds K fd ps []
  m : mg x = some (.ref f)
theorem defAt {h : Heap} {st : Stmt} {ps : List Str} {f : Addr} {oc : Value} {od an : Option Addr} {osl : Array (Option Value)} {kV doc pm cdv ct : Value} (X : K.In h) (G : h.Ns mainGlobals mg)
    (a : PySem.W.nsIn K mainGlobals x = some (some (.ref f))) (l : K.lookup f = some ⟨oc, od, .func (PySem.W.fnOf x x (defArgs st) (defBody st) (defScope st) .none kV doc pm an cdv ct), osl⟩) (c : PySem.W.codeIn K cdv x = true) (k : PySem.W.keepIn K (.ref f) = true)
    (hb : ∀ (kV doc pm : Value) (an : Option Addr) (cdv ct : Value) (us : List Value), us.length = ps.length -> bindArgs (PySem.W.fnOf x x (defArgs st) (defBody st) (defScope st) .none kV doc pm an cdv ct) ⟨us, []⟩ = pure (ps.zip us)) :
    ∃ fd, DefAt K mg x st ps f fd := by
  have F := fun_mk (st := st) l c k
  exact ⟨_, F, F.binds hb, PySem.W.mg_of X G a⟩
theorem DefAt.ok {st : Stmt} {N ps : List Str} {f : Addr} {fd : FuncData} (A : DefAt K mg x st ps f fd) (n : Nat) (S : FnScope N ps (defScope st)) (L : Lib P w K mg base CX0 k T)
    (len : ∀ vs H Q E, sp vs H Q E -> vs.length = ps.length) {t : TS} (ht : wSs (wp n) (cfg T K N (defScope st).names E0) (defBody st) = t)
    (hb : ∀ vs H Q E, sp vs H Q E -> t { nx := λ _ H' => Q .non H', rt := Q } (start N vs) H) : FnE P w K mg base CX0 (k + 2) x sp :=
  ⟨f, fd, ps, fn_wp n A.fn S L len ht hb, A.m, A.fn.kp, A.b⟩
noncomputable def MtE (P : Program) (w : World) (K : PySem.W.Frag) (mg : Str -> Option Value) (base : Heap) (CX : CXT) (k : Nat) (m : Str) (p : Addr × Sp) : Prop :=
  ∃ f fd ps, Meth K p.1 m f /\ FnOk P w K mg base CX k f fd ps p.2 /\ Binds K fd ps []
noncomputable def MkE (P : Program) (w : World) (K : PySem.W.Frag) (mg : Str -> Option Value) (base : Heap) (CX : CXT) (k : Nat) (x : Str) (p : Addr × Sp) : Prop :=
  ∃ f fd ps, Mk K p.1 f /\ FnOk P w K mg base CX k f fd ps p.2 /\ mg x = some (.ref p.1) /\ Binds K fd ps []
theorem MtE.mono {p : Addr × Sp} (h : MtE P w K mg base CX j x p) (hj : j <= k) : MtE P w K mg base CX k x p := by
  obtain ⟨f, fd, ps, M, F, r⟩ := h
  exact ⟨f, fd, ps, M, F.mono hj, r⟩
theorem MkE.mono {p : Addr × Sp} (h : MkE P w K mg base CX j x p) (hj : j <= k) : MkE P w K mg base CX k x p := by
  obtain ⟨f, fd, ps, M, F, r⟩ := h
  exact ⟨f, fd, ps, M, F.mono hj, r⟩
theorem MtE.mk {cl : Addr} {m qual : Str} {st : Stmt} {N ps : List Str} {f : Addr} {fd : FuncData} (M : Meth K cl m f) (F : Fun K m qual st f fd) (b : Binds K fd ps []) (n : Nat) (S : FnScope N ps (defScope st)) (L : Lib P w K mg base CX0 k T)
    (len : ∀ vs H Q E, sp vs H Q E -> vs.length = ps.length) {t : TS} (ht : wSs (wp n) (cfg T K N (defScope st).names E0) (defBody st) = t)
    (hb : ∀ vs H Q E, sp vs H Q E -> t { nx := λ _ H' => Q .non H', rt := Q } (start N vs) H) : MtE P w K mg base CX0 (k + 2) m (cl, sp) :=
  ⟨f, fd, ps, M, fn_wp n F S L len ht hb, b⟩
theorem MkE.mk {cl : Addr} {m qual : Str} {st : Stmt} {N ps : List Str} {f : Addr} {fd : FuncData} (M : Mk K cl f) (hx : mg x = some (.ref cl)) (F : Fun K m qual st f fd) (b : Binds K fd ps []) (n : Nat) (S : FnScope N ps (defScope st)) (L : Lib P w K mg base CX0 k T)
    (len : ∀ vs H Q E, sp vs H Q E -> vs.length = ps.length) {t : TS} (ht : wSs (wp n) (cfg T K N (defScope st).names E0) (defBody st) = t)
    (hb : ∀ vs H Q E, sp vs H Q E -> t { nx := λ _ H' => Q .non H', rt := Q } (start N vs) H) : MkE P w K mg base CX0 (k + 2) x (cl, sp) :=
  ⟨f, fd, ps, M, fn_wp n F S L len ht hb, hx, b⟩
theorem lib_cls {C : Addr} (c : Cls K C) (h : Ents (FnE P w K mg base CX k) T.fns) (hm : Ents (MkE P w K mg base CX k) T.mks) (ht : Ents (λ m p => p.1 = C /\ MtE P w K mg base CX k m p) T.mts) (hf : Ents (λ f cl => cl = C /\ NoAttr K cl f) T.fld)
    (hg : ∀ x v, T.glo.lookup x = some v -> ∃ u, mg x = some u /\ RelV v u) (hn : ∀ x ∈ T.nog, mg x = none) (hi : ∀ c ∈ T.ics, IsC K c := by intro c hc; cases hc) : Lib P w K mg base CX k T where
  ics := hi
  fns := h.get
  mks := λ x cl sp e => hm.get x (cl, sp) e
  mts := λ x cl sp e => by
    obtain ⟨e, f, fd, ps, M, F, b⟩ := ht.get x (cl, sp) e
    have e : cl = C := e
    subst e
    exact ⟨f, fd, ps, c, M, F, b⟩
  fld := λ x cl e => by
    obtain ⟨e, n⟩ := hf.get x cl e
    subst e
    exact ⟨c, n⟩
  glo := hg
  nog := hn
end
noncomputable abbrev sts (zs : List Str) : List V := zs.map V.str
theorem strsOf_map : ∀ zs : List Str, strsOf (sts zs) = some zs
  | [] => rfl
  | z :: r => by
    rw [sts, List.map_cons]
    show (match strsOf (sts r) with | some l => some (z :: l) | none => none) = _
    rw [strsOf_map r]
theorem rd_strs (n : Nat) (H : Hp) : ∀ zs : List Str, (sts zs).mapM (rdD n H) = some (zs.map PyData.str)
  | [] => by simp
  | z :: r => by
    rw [sts, List.map_cons, mapM_cons]
    have : rdD n H (.str z) = some (.str z) := by cases n <;> rfl
    rw [this, Option.bind_some, show (r.map V.str).mapM (rdD n H) = some (r.map PyData.str) from rd_strs n H r]
    rfl
theorem any_str (zs : List Str) (z : Str) : ((zs.map PyData.str).any λ e => PyData.eqv e (.str z)) = decide (z ∈ zs) := by
  induction zs with
  | nil => simp
  | cons a r ih =>
    rw [List.map_cons, List.any_cons, ih, show PyData.eqv (.str a) (.str z) = (a == z) from rfl]
    by_cases h : a = z
    . subst h
      simp
    . have : ¬ z = a := λ e => h e.symm
      simp [h, this]
theorem inS_i {neg : Bool} {p : Addr} {z : Str} {zs : List Str} {H : Hp} {Q : VK} (h : H p = some (.lst (sts zs))) (q : Q (.bl (neg ^^ decide (z ∈ zs))) H) : inG neg (.str z) (.ref p) H Q :=
  inL_i h (rd_strs 7 H zs) rfl (by rw [any_str]; exact q)
theorem atS {zs : List Str} {j : Nat} {z : Str} (h : zs[j]? = some z) : atI (sts zs) (j : Int) = some (.str z) := atI_nat (by simp [h])
theorem nameB_at {z : Str} (h : nameB z = true) : 1 <= z.length /\ z.length <= 8 /\ z ≠ "all" := by
  unfold nameB at h
  simp only [Bool.and_eq_true, decide_eq_true_eq, Bool.not_eq_true', beq_eq_false_iff_ne] at h
  exact ⟨h.1.1.1, h.1.1.2, h.1.2⟩
noncomputable def Nms (zs : List Str) : Prop := (∀ z ∈ zs, nameB z = true) /\ zs.Nodup
noncomputable def sp_plain_text : Sp := λ vs H Q _ => ∃ z : Str, vs = [.str z] /\ z.length <= 1000 /\ ∀ H', Same H H' -> Q (.str z) H'
noncomputable def t_plain_text : TS :=
  (tRet (tBmG "join" (tC (.str "")) (tCons (tCB listG (tCons (gv 0) tNil)) tNil)))
theorem join_signs : ∀ l : List Nat, (Str.join "" (l.map λ c => (⟨#[c]⟩ : Str))).cps.toList = l
  | [] => rfl
  | [c] => rfl
  | c :: d :: r => by
    have ih := join_signs (d :: r)
    rw [List.map_cons] at ih ⊢
    show ((⟨#[c]⟩ : Str) ++ "" ++ Str.join "" ((d :: r).map λ c => (⟨#[c]⟩ : Str))).cps.toList = _
    rw [app_list, app_list]
    rw [List.map_cons, ih]
    rfl
theorem str_ext {a b : Str} (h : a.cps.toList = b.cps.toList) : a = b := by
  obtain ⟨⟨l⟩⟩ := a
  obtain ⟨⟨m⟩⟩ := b
  simp at h
  subst h
  rfl
theorem join_all (z : Str) : Txt.join "" (z.cps.toList.map λ c => (⟨#[c]⟩ : Str)) = z := by
  show Builtin.Str.glued _ _ = _
  rw [StrLaws.glued_eq_join]
  exact str_ext (join_signs _)
theorem sum_ones : ∀ l : List Nat, ((l.map λ c => (⟨#[c]⟩ : Str)).map (·.length)).sum = l.length
  | [] => rfl
  | c :: r => by
    rw [List.map_cons, List.map_cons, List.sum_cons, sum_ones r, List.length_cons]
    show 1 + _ = _
    omega
theorem r_plain_text {z : Str} {H : Hp} {D : Ends} (hz : z.length <= 1000) (q : ∀ H', Same H H' -> D.rt (.str z) H') : t_plain_text D [some (.str z)] H := by
  have hs := sz
  refine join_i (listS_i (by omega) (new_i λ p G n s h => ?_))
  have e : (z.cps.toList.map λ c => V.str ⟨#[c]⟩) = sts (z.cps.toList.map λ c => (⟨#[c]⟩ : Str)) := by rw [sts, List.map_map]; rfl
  rw [e] at h
  refine join_at h (strsOf_map _) ?_ ?_
  . rw [sum_ones]
    have e0 : ("" : Str).length = 0 := rfl
    have : z.cps.toList.length = z.length := by rw [Array.length_toList]; rfl
    rw [e0, Nat.mul_zero]
    omega
  . rw [join_all]
    exact q G s
noncomputable def sp_checked_name : Sp := λ vs H Q _ => ∃ (z : Str) (l : Addr) (ys : List Str), vs = [.str z, .ref l] /\ H l = some (.lst (sts ys)) /\ nameB z = true /\ z ∉ ys /\ ∀ H', Same H H' -> Q (.str z) H'
noncomputable def t_checked_name : TS :=
  (tSeq (sIf (tNot (ptG (tCall sp_is_name [] E0 (tCons (gv 0) tNil))))
    xS
    tNext)
  (tSeq (tAsg (tCall sp_plain_text [] E0 (tCons (gv 0) tNil)) (gName 2))
  (tSeq (sIf (bT (tOp (inG false) (gv 2) (gv 1)))
    xS
    tNext)
  (tRet (gv 2)))))
theorem r_checked_name {z : Str} {l : Addr} {ys : List Str} {H : Hp} {D : Ends} (hl : H l = some (.lst (sts ys))) (hz : nameB z = true) (hn : z ∉ ys) (q : ∀ H', Same H H' -> D.rt (.str z) H') : t_checked_name D [some (.str z), some (.ref l), none] H := by
  have hs := sz
  obtain ⟨h1, h8, _⟩ := nameB_at hz
  refine ⟨.str z, _, rfl, rfl, λ y e => (by cases e; omega), λ G1 s1 => ?_⟩
  refine br_f (by rw [show nameV (.str z) = true from hz]; rfl) ?_
  refine ⟨z, rfl, by omega, λ G2 s2 => ?_⟩
  refine inS_i (s2 _ _ (s1 _ _ hl)) ?_
  exact br_f (by rw [decide_eq_false hn]; rfl) (q G2 (s1.trans s2))
noncomputable def sp_checked_above : Sp := λ vs H Q _ => ∃ (z : Str) (l : Addr) (ys : List Str), vs = [.str z, .ref l] /\ H l = some (.lst (sts ys)) /\ z.length <= 8 /\ (z = "all" \/ z ∈ ys) /\ ∀ H', Same H H' -> Q (.str z) H'
noncomputable def t_checked_above : TS :=
  (tSeq (sIf (tNot (ptG (tCB isiG (tCons (gv 0) (tCons (tC (.ty "str")) tNil)))))
    xS
    tNext)
  (tSeq (tAsg (tCall sp_plain_text [] E0 (tCons (gv 0) tNil)) (gName 2))
  (tSeq (sIf (tAndB (bT (tOp neG (gv 2) (tC (.str "all")))) (bT (tOp (inG true) (gv 2) (gv 1))))
    xS
    tNext)
  (tRet (gv 2)))))
theorem r_checked_above {z : Str} {l : Addr} {ys : List Str} {H : Hp} {D : Ends} (hl : H l = some (.lst (sts ys))) (hz : z.length <= 8) (hn : z = "all" \/ z ∈ ys) (q : ∀ H', Same H H' -> D.rt (.str z) H') : t_checked_above D [some (.str z), some (.ref l), none] H := by
  refine isi_i rfl rfl (br_f rfl ?_)
  refine ⟨z, rfl, by omega, λ G2 s2 => ?_⟩
  refine br_of (λ h => ?_) (λ h => br_f rfl (q G2 s2))
  refine inS_i (s2 _ _ hl) ?_
  have h : (!(z == ("all" : Str))) = true := h
  have hm : z ∈ ys := by
    rcases hn with rfl | hn
    . simp at h
    . exact hn
  exact br_f (by rw [decide_eq_true hm]; rfl) (q G2 s2)
noncomputable def sp_checked_columns : Sp := λ vs H Q _ => ∃ (c : Addr) (cs : List Str), vs = [.ref c] /\ H c = some (.lst (sts cs)) /\ Nms cs /\ 1 <= cs.length /\ cs.length <= 8 /\ ∀ p H', Same H H' -> H p = none -> H' p = some (.lst (sts cs)) -> Q (.ref p) H'
noncomputable def t_checked_columns : TS :=
  (tSeq (sIf (tOrB (tNot (ptG (tCB isiG (tCons (gv 0) (tCons (tC (.ty "list")) tNil))))) (tNot (bT (chainG leG leG (tC (.int 1)) (tCB lenG (tCons (gv 0) tNil)) (tC (.int 8))))))
    xS
    tNext)
  (tSeq (tAsg (tLstG tNil) (gName 1))
  (tSeq (sFor (iOf iterG (gv 0)) (gName 2)
    (tDrop (tBmG "append" (gv 1) (tCons (tCall sp_checked_name [] E0 (tCons (gv 2) (tCons (gv 1) tNil))) tNil))))
  (tRet (gv 1)))))
theorem nd_take {α : Type} {xs : List α} (h : xs.Nodup) {i : Nat} {x : α} (hx : xs[i]? = some x) : x ∉ xs.take i := by
  intro m
  obtain ⟨j, hj, e⟩ := List.mem_iff_getElem.mp m
  have hi := (List.getElem?_eq_some_iff.mp hx).1
  rw [List.length_take] at hj
  rw [List.getElem_take] at e
  have e2 : xs[i] = x := (List.getElem?_eq_some_iff.mp hx).2
  have hp := List.pairwise_iff_getElem.mp h j i (by omega) hi (by omega)
  exact hp (e.trans e2.symm)
theorem take_snoc {α : Type} {xs : List α} {i : Nat} {x : α} (hx : xs[i]? = some x) : xs.take (i + 1) = xs.take i ++ [x] := by
  rw [List.take_succ, hx]
  rfl
theorem le_true {a b : Int} (h : a <= b) : decide (a <= b) = true := decide_eq_true h
theorem sts_at {zs : List Str} {i : Nat} {x : V} (h : (sts zs)[i]? = some x) : ∃ z, zs[i]? = some z /\ x = .str z := by
  rw [sts, List.getElem?_map] at h
  cases e : zs[i]? with
  | none => rw [e] at h; cases h
  | some z => rw [e] at h; cases h; exact ⟨z, rfl, rfl⟩
theorem sts_snoc (zs : List Str) (z : Str) : sts zs ++ [.str z] = sts (zs ++ [z]) := by simp [sts]
theorem r_checked_columns {c : Addr} {cs : List Str} {H : Hp} {D : Ends} (hc : H c = some (.lst (sts cs))) (hn : Nms cs) (h1 : 1 <= cs.length) (h8 : cs.length <= 8) (q : ∀ p H', Same H H' -> H p = none -> H' p = some (.lst (sts cs)) -> D.rt (.ref p) H') : t_checked_columns D [some (.ref c), none, none] H := by
  have hs := sz
  refine isi_i rfl (kind_lst hc) (br_f rfl ?_)
  refine lenL_i hc ?_
  rw [show (sts cs).length = cs.length from List.length_map ..]
  refine br_t (le_true (by omega)) ?_
  refine br_f (by rw [le_true (by omega)]; rfl) ?_
  refine ⟨few rfl, new_i λ p G1 n1 s1 t1 => ?_⟩
  refine sFor_i (iterL_i (s1 _ _ hc) (loop_lst (xs := sts cs) (λ i σ G => Same H G /\ G p = some (.lst (sts (cs.take i))) /\ ∃ v, σ = [some (.ref c), some (.ref p), v]) ⟨s1, t1, _, rfl⟩ (λ i σ G _ h => h.1 _ _ hc) ?_ ?_))
  . rintro i x σ G hx ⟨sm, hg, v, rfl⟩
    obtain ⟨z, hz, rfl⟩ := sts_at hx
    refine app_i hg ⟨z, p, _, rfl, hg, hn.1 z (List.mem_of_getElem? hz), nd_take hn.2 hz, λ G2 s2 => ?_⟩
    refine app_at (s2 _ _ hg) (by simp; omega) ⟨(sm.trans s2).put n1, ?_, _, rfl⟩
    rw [upd_same, sts_snoc, take_snoc hz]
  . rintro σ G ⟨sm, hg, v, rfl⟩
    rw [show (sts cs).length = cs.length from List.length_map .., List.take_length] at hg
    exact q p G sm n1 hg
noncomputable def PairsAt (H : Hp) (xs : List V) (ps : List (Str × Str)) : Prop := xs.length = ps.length /\ ∀ (i : Nat) q, ps[i]? = some q -> ∃ t, xs[i]? = some (.ref t) /\ H t = some (.tup [.str q.1, .str q.2])
theorem PairsAt.same {H G : Hp} {xs : List V} {ps : List (Str × Str)} (h : PairsAt H xs ps) (s : Same H G) : PairsAt G xs ps := ⟨h.1, λ i q e => by
  obtain ⟨t, e1, e2⟩ := h.2 i q e
  exact ⟨t, e1, s _ _ e2⟩⟩
theorem PairsAt.put {H : Hp} {xs ys : List V} {ps : List (Str × Str)} {l : Addr} {o : HO} (h : PairsAt H xs ps) (hl : H l = some (.lst ys)) : PairsAt (upd H l o) xs ps := ⟨h.1, λ i q e => by
  obtain ⟨t, e1, e2⟩ := h.2 i q e
  refine ⟨t, e1, ?_⟩
  rw [upd_ne λ z => by rw [z, hl] at e2; cases e2]
  exact e2⟩
theorem PairsAt.nil {H : Hp} : PairsAt H [] [] := ⟨rfl, λ i q e => by simp at e⟩
theorem PairsAt.snoc {H : Hp} {xs : List V} {ps : List (Str × Str)} {t : Addr} {q : Str × Str} (h : PairsAt H xs ps) (ht : H t = some (.tup [.str q.1, .str q.2])) : PairsAt H (xs ++ [.ref t]) (ps ++ [q]) := by
  refine ⟨by simp [h.1], λ i r e => ?_⟩
  by_cases hi : i < ps.length
  . rw [List.getElem?_append_left hi] at e
    rw [List.getElem?_append_left (by rw [h.1]; exact hi)]
    exact h.2 i r e
  . have hi2 : i = ps.length := by
      have := (List.getElem?_eq_some_iff.mp e).1
      simp at this
      omega
    subst hi2
    simp at e
    subst e
    exact ⟨t, by rw [<- h.1]; simp, ht⟩
theorem PairsAt.at {H : Hp} {xs : List V} {ps : List (Str × Str)} (h : PairsAt H xs ps) {i : Nat} {x : V} (hx : xs[i]? = some x) : ∃ q t, ps[i]? = some q /\ x = .ref t /\ H t = some (.tup [.str q.1, .str q.2]) := by
  have hi := (List.getElem?_eq_some_iff.mp hx).1
  rw [h.1] at hi
  obtain ⟨t, e1, e2⟩ := h.2 i ps[i] (by simp [hi])
  rw [hx] at e1
  cases e1
  exact ⟨ps[i], t, by simp [hi], rfl, e2⟩
structure Good (ps : List (Str × Str)) : Prop where
  one : 1 <= ps.length
  many : ps.length <= 24
  nms : Nms (ps.map (·.1))
  abv : ∀ (i : Nat) q, ps[i]? = some q -> q.2 = "all" \/ q.2 ∈ (ps.take i).map (·.1)
noncomputable def abvD (ps : List (Str × Str)) : List (Key × V) := ps.map λ q => (.inr q.1, .str q.2)
theorem abv_keys (ps : List (Str × Str)) : ((abvD ps).map λ kv => kV kv.1) = sts (ps.map (·.1)) := by
  unfold abvD
  rw [sts, List.map_map, List.map_map]
  rfl
theorem abv_none {ps : List (Str × Str)} {n : Str} (h : n ∉ ps.map (·.1)) : valV (abvD ps) (Sum.inr n) = none := by
  induction ps with
  | nil => rfl
  | cons a r ih =>
    unfold abvD
    rw [List.map_cons] at h ⊢
    rw [valV_neg (λ e => h (by
      have : a.1 = n := by injection e
      rw [this]
      simp))]
    exact ih λ m => h (List.mem_cons_of_mem _ m)
theorem good_fst {ps : List (Str × Str)} {i : Nat} {q : Str × Str} (h : ps[i]? = some q) : (ps.map (·.1))[i]? = some q.1 := by simp [h]
theorem Good.len2 {ps : List (Str × Str)} (g : Good ps) {i : Nat} {q : Str × Str} (h : ps[i]? = some q) : q.2.length <= 8 := by
  rcases g.abv i q h with e | m
  . rw [e]
    decide
  . have : q.2 ∈ ps.map (·.1) := by
      obtain ⟨r, hr, e⟩ := List.mem_map.mp m
      exact List.mem_map.mpr ⟨r, List.mem_of_mem_take hr, e⟩
    exact (nameB_at (g.nms.1 _ this)).2.1
noncomputable def sp_checked_parts : Sp := λ vs H Q _ => ∃ (p : Addr) (xs : List V) (ps : List (Str × Str)), vs = [.ref p] /\ H p = some (.lst xs) /\ PairsAt H xs ps /\ Good ps /\ ∀ a H', Same H H' -> H a = none -> H' a = some (.dK (abvD ps)) -> Q (.ref a) H'
noncomputable def t_checked_parts : TS :=
  (tSeq (sIf (tOrB (tNot (ptG (tCB isiG (tCons (gv 0) (tCons (tC (.ty "list")) tNil))))) (tNot (bT (chainG leG leG (tC (.int 1)) (tCB lenG (tCons (gv 0) tNil)) (tC (.int 24))))))
    xS
    tNext)
  (tSeq (tAsg tDNew (gName 1))
  (tSeq (sFor (iOf iterG (gv 0)) (gName 2)
    (tSeq (sIf (tOrB (tNot (ptG (tCB isiG (tCons (gv 2) (tCons (tC (.ty "tuple")) tNil))))) (bT (tOp neG (tCB lenG (tCons (gv 2) tNil)) (tC (.int 2)))))
      xS
      tNext)
    (tSeq (tAsg (tCall sp_checked_name [] E0 (tCons (tOp getG (gv 2) (tC (.int 0))) (tCons (tCB listG (tCons (gv 1) tNil)) tNil))) (gName 3))
    (tSeq (tAsg (tCall sp_checked_above [] E0 (tCons (tOp getG (gv 2) (tC (.int 1))) (tCons (tCB listG (tCons (gv 1) tNil)) tNil))) (gName 4))
    (tAsg (gv 4) (gSub (gv 1) (gv 3) setG))))))
  (tRet (gv 1)))))
theorem r_checked_parts {p : Addr} {xs : List V} {ps : List (Str × Str)} {H : Hp} {D : Ends} (hp : H p = some (.lst xs)) (hx : PairsAt H xs ps) (g : Good ps) (q : ∀ a H', Same H H' -> H a = none -> H' a = some (.dK (abvD ps)) -> D.rt (.ref a) H') : t_checked_parts D [some (.ref p), none, none, none, none] H := by
  have hs := sz
  have g1 := g.one
  have g2 := g.many
  refine isi_i rfl (kind_lst hp) (br_f rfl ?_)
  refine lenL_i hp ?_
  rw [hx.1]
  refine br_t (le_true (by omega)) ?_
  refine br_f (by rw [le_true (by omega)]; rfl) ?_
  refine .inl (new_i λ a G1 n1 s1 t1 => ?_)
  refine sFor_i (iterL_i (s1 _ _ hp) (loop_lst (xs := xs) (λ i σ G => Same H G /\ G a = some (.dK (abvD (ps.take i))) /\ ∃ u v w, σ = [some (.ref p), some (.ref a), u, v, w]) ⟨s1, t1, _, _, _, rfl⟩ (λ i σ G _ h => h.1 _ _ hp) ?_ ?_))
  . rintro i x σ G hxi ⟨sm, hg, u, v, w, rfl⟩
    obtain ⟨r, t, hr, rfl, ht⟩ := hx.at hxi
    replace ht := sm _ _ ht
    refine isi_i rfl (kind_tup ht) (br_f rfl ?_)
    refine lenT_i ht ?_
    refine br_f rfl ?_
    refine getT_i ht (v := .str r.1) rfl ?_
    refine listD_i (.inl hg) (new_i λ l G2 n2 s2 t2 => ?_)
    rw [abv_keys] at t2
    refine ⟨r.1, l, _, rfl, t2, g.nms.1 _ (List.mem_of_getElem? (good_fst hr)), ?_, λ G3 s3 => ?_⟩
    . rw [List.map_take]
      exact nd_take g.nms.2 (good_fst hr)
    have s23 := s2.trans s3
    refine getT_i (s23 _ _ ht) (v := .str r.2) rfl ?_
    refine listD_i (.inl (s23 _ _ hg)) (new_i λ l' G4 n4 s4 t4 => ?_)
    rw [abv_keys] at t4
    refine ⟨r.2, l', _, rfl, t4, g.len2 hr, g.abv i r hr, λ G5 s5 => ?_⟩
    have s25 := (s23.trans s4).trans s5
    have hno : valV (abvD (ps.take i)) (Sum.inr r.1) = none := abv_none (by
      rw [List.map_take]
      exact nd_take g.nms.2 (good_fst hr))
    refine setK_i (s25 _ _ hg) (k := Sum.inr r.1) rfl ?_ ⟨(sm.trans s25).put n1, ?_, _, _, _, rfl⟩
    . have : (abvD (ps.take i)).length <= ps.length := by
        unfold abvD
        rw [List.length_map, List.length_take]
        omega
      omega
    . rw [upd_same, putK_new _ hno, take_snoc hr]
      unfold abvD
      rw [List.map_append]
      rfl
  . rintro σ G ⟨sm, hg, u, v, w, rfl⟩
    rw [hx.1, List.take_length] at hg
    exact q a G sm n1 hg
noncomputable def prodP (xs ys : List Str) : List (Str × Str) := xs.flatMap λ x => ys.map λ y => (x, y)
theorem prodP_snoc (xs ys : List Str) (x : Str) : prodP (xs ++ [x]) ys = prodP xs ys ++ ys.map λ y => (x, y) := by simp [prodP]
theorem prodP_len (xs ys : List Str) : (prodP xs ys).length = xs.length * ys.length := by
  induction xs with
  | nil => simp [prodP]
  | cons a r ih =>
    rw [show prodP (a :: r) ys = (ys.map λ y => (a, y)) ++ prodP r ys by simp [prodP], List.length_append, ih, List.length_map, List.length_cons, Nat.succ_mul]
    omega
noncomputable def sp_paired : Sp := λ vs H Q _ => ∃ (p c : Addr) (xs ys : List Str), vs = [.ref p, .ref c] /\ H p = some (.lst (sts xs)) /\ H c = some (.lst (sts ys)) /\ xs.length <= 30 /\ ys.length <= 30 ∧
  ∀ l zs H', Same H H' -> H l = none -> H' l = some (.lst zs) -> PairsAt H' zs (prodP xs ys) -> Q (.ref l) H'
noncomputable def t_paired : TS :=
  (tSeq (tAsg (tLstG tNil) (gName 2))
  (tSeq (sFor (iOf iterG (gv 0)) (gName 3)
    (sFor (iOf iterG (gv 1)) (gName 4)
      (tDrop (tBmG "append" (gv 2) (tCons (tTupG (tCons (gv 3) (tCons (gv 4) tNil))) tNil)))))
  (tRet (gv 2))))
theorem r_paired {p c : Addr} {xs ys : List Str} {H : Hp} {D : Ends} (hp : H p = some (.lst (sts xs))) (hc : H c = some (.lst (sts ys))) (h1 : xs.length <= 30) (h2 : ys.length <= 30)
    (q : ∀ l zs H', Same H H' -> H l = none -> H' l = some (.lst zs) -> PairsAt H' zs (prodP xs ys) -> D.rt (.ref l) H') : t_paired D [some (.ref p), some (.ref c), none, none, none] H := by
  have hs := sz
  refine ⟨few rfl, new_i λ l G1 n1 s1 t1 => ?_⟩
  refine sFor_i (iterL_i (s1 _ _ hp) (loop_lst (xs := sts xs) (λ i σ G => Same H G /\ (∃ zs, G l = some (.lst zs) /\ PairsAt G zs (prodP (xs.take i) ys)) /\ ∃ u v, σ = [some (.ref p), some (.ref c), some (.ref l), u, v]) ⟨s1, ⟨_, t1, .nil⟩, _, _, rfl⟩ (λ i σ G _ h => h.1 _ _ hp) ?_ ?_))
  . rintro i x σ G hx ⟨sm, ⟨zs, hg, pa⟩, u, v, rfl⟩
    obtain ⟨z, hz, rfl⟩ := sts_at hx
    have hi := (List.getElem?_eq_some_iff.mp hz).1
    refine sFor_i (iterL_i (sm _ _ hc) (loop_lst (xs := sts ys) (λ j σ G => Same H G /\ (∃ zs, G l = some (.lst zs) /\ PairsAt G zs (prodP (xs.take i) ys ++ (ys.take j).map λ y => (z, y))) /\ ∃ v, σ = [some (.ref p), some (.ref c), some (.ref l), some (.str z), v]) ⟨sm, ⟨zs, hg, by simpa using pa⟩, _, rfl⟩ (λ i σ G _ h => h.1 _ _ hc) ?_ ?_))
    . rintro j y0 σ G hy0 ⟨sm, ⟨zs, hg, pa⟩, v, rfl⟩
      obtain ⟨y, hy, rfl⟩ := sts_at hy0
      have hj := (List.getElem?_eq_some_iff.mp hy).1
      refine app_i hg ⟨few rfl, new_i λ t G2 n2 s2 t2 => ?_⟩
      have hlen : zs.length < sizeLine := by
        rw [pa.1, List.length_append, prodP_len, List.length_map, List.length_take, List.length_take]
        have : min i xs.length * ys.length <= 30 * 30 := Nat.mul_le_mul (by omega) h2
        omega
      refine app_at (s2 _ _ hg) hlen ⟨(sm.trans s2).put n1, ⟨_, upd_same, ?_⟩, _, rfl⟩
      rw [take_snoc hy, List.map_append, <- List.append_assoc]
      exact ((pa.same s2).snoc (q := (z, y)) t2).put (s2 _ _ hg)
    . rintro σ G ⟨sm, ⟨zs, hg, pa⟩, v, rfl⟩
      rw [show (sts ys).length = ys.length from List.length_map .., List.take_length] at pa
      exact ⟨sm, ⟨zs, hg, by rw [take_snoc hz, prodP_snoc]; exact pa⟩, _, _, rfl⟩
  . rintro σ G ⟨sm, ⟨zs, hg, pa⟩, u, v, rfl⟩
    rw [show (sts xs).length = xs.length from List.length_map .., List.take_length] at pa
    exact q l zs G sm n1 hg pa
end Tv
namespace Tv
open PySem PySem.Spec PyProof.Rows L2
theorem same_frz {H G : Hp} {a : Addr} {f : HO} (s : Same H G) : Same (upd H a f) (upd G a f) := λ b o e => by
  by_cases z : b = a
  . subst z
    rw [upd_same] at e ⊢
    exact e
  . rw [upd_ne z] at e ⊢
    exact s b o e
noncomputable def below (ps : List (Str × Str)) (k : Str) : List Str := (ps.filter λ q => q.2 == k).map (·.1)
theorem below_snoc (ps : List (Str × Str)) (q : Str × Str) (k : Str) : below (ps ++ [q]) k = below ps k ++ if q.2 = k then [q.1] else [] := by
  unfold below
  rw [List.filter_append, List.map_append]
  congr 1
  by_cases h : q.2 = k <;> simp [h]
noncomputable def benD (ks : List Str) (bs : List Addr) : List (Key × V) := (ks.zip bs).map λ e => (Sum.inr e.1, V.ref e.2)
structure Ben (G : Hp) (b : Addr) (bs : List Addr) (ks : List Str) (f : Str -> List Str) : Prop where
  len : bs.length = ks.length
  nd : bs.Nodup
  d : G b = some (.dK (benD ks bs))
  l : ∀ (i : Nat) k a, ks[i]? = some k -> bs[i]? = some a -> G a = some (.lst (sts (f k)))
theorem val_zip : ∀ {ks : List Str} {bs : List Addr} {j : Nat} {k : Str} {c : Addr}, ks.Nodup -> ks[j]? = some k -> bs[j]? = some c -> valV (benD ks bs) (Sum.inr k) = some (.ref c)
  | [], bs, j, k, c, _, h, _ => by simp at h
  | _ :: _, [], j, k, c, _, _, h => by simp at h
  | a :: ks, b :: bs, 0, k, c, _, h1, h2 => by
    simp at h1 h2
    subst h1 h2
    exact valV_pos rfl
  | a :: ks, b :: bs, j + 1, k, c, hn, h1, h2 => by
    obtain ⟨n1, n2⟩ := List.nodup_cons.mp hn
    have h1' : ks[j]? = some k := by simpa using h1
    have h2' : bs[j]? = some c := by simpa using h2
    show valV ((Sum.inr a, V.ref b) :: benD ks bs) (Sum.inr k) = _
    rw [valV_neg]
    . exact val_zip n2 h1' h2'
    . intro e
      have : a = k := by injection e
      subst this
      exact n1 (List.mem_of_getElem? h1')
theorem ben_none {ks : List Str} {bs : List Addr} {k : Str} (h : k ∉ ks) : valV (benD ks bs) (Sum.inr k) = none := by
  induction ks generalizing bs with
  | nil => rfl
  | cons a r ih =>
    cases bs with
    | nil => rfl
    | cons b bs =>
      show valV ((Sum.inr a, V.ref b) :: benD r bs) (Sum.inr k) = none
      rw [valV_neg (λ e => h (by
        have : a = k := by injection e
        rw [this]
        simp))]
      exact ih λ m => h (List.mem_cons_of_mem _ m)
theorem benD_len (ks : List Str) (bs : List Addr) : (benD ks bs).length <= ks.length := by
  unfold benD
  rw [List.length_map, List.length_zip]
  omega
theorem benD_snoc {ks : List Str} {bs : List Addr} (k : Str) (b : Addr) (h : bs.length = ks.length) : benD (ks ++ [k]) (bs ++ [b]) = benD ks bs ++ [(Sum.inr k, V.ref b)] := by
  unfold benD
  rw [List.zip_append h.symm, List.map_append]
  rfl
theorem Ben.to {G G' : Hp} {b : Addr} {bs : List Addr} {ks : List Str} {f : Str -> List Str} (h : Ben G b bs ks f) (hb : G' b = G b) (hl : ∀ c ∈ bs, G' c = G c) : Ben G' b bs ks f :=
  ⟨h.len, h.nd, by rw [hb]; exact h.d, λ i k a e1 e2 => by rw [hl a (List.mem_of_getElem? e2)]; exact h.l i k a e1 e2⟩
theorem Ben.same {G G' : Hp} {b : Addr} {bs : List Addr} {ks : List Str} {f : Str -> List Str} (h : Ben G b bs ks f) (s : Same G G') : Ben G' b bs ks f :=
  ⟨h.len, h.nd, s _ _ h.d, λ i k a e1 e2 => s _ _ (h.l i k a e1 e2)⟩
theorem Ben.congr {G : Hp} {b : Addr} {bs : List Addr} {ks : List Str} {f f' : Str -> List Str} (h : Ben G b bs ks f) (e : ∀ k ∈ ks, f k = f' k) : Ben G b bs ks f' :=
  ⟨h.len, h.nd, h.d, λ i k a e1 e2 => by rw [<- e k (List.mem_of_getElem? e1)]; exact h.l i k a e1 e2⟩
theorem Ben.get {G : Hp} {b : Addr} {bs : List Addr} {ks : List Str} {f : Str -> List Str} (h : Ben G b bs ks f) (hn : ks.Nodup) {k : Str} (hk : k ∈ ks) : ∃ (j : Nat) (c : Addr), ks[j]? = some k /\ bs[j]? = some c /\ valV (benD ks bs) (Sum.inr k) = some (.ref c) /\ G c = some (.lst (sts (f k))) := by
  obtain ⟨j, hj⟩ := List.mem_iff_getElem?.mp hk
  have hl := (List.getElem?_eq_some_iff.mp hj).1
  obtain ⟨c, hc⟩ : ∃ c, bs[j]? = some c := ⟨bs[j]'(by rw [h.len]; exact hl), by simp [h.len, hl]⟩
  exact ⟨j, c, hj, hc, val_zip hn hj hc, h.l j k c hj hc⟩
theorem Ben.app {G : Hp} {b : Addr} {bs : List Addr} {ks : List Str} {f : Str -> List Str} (h : Ben G b bs ks f) (hn : ks.Nodup) {k n : Str} {j : Nat} {c : Addr} (hj : ks[j]? = some k) (hc : bs[j]? = some c) :
    Ben (upd G c (.lst (sts (f k) ++ [.str n]))) b bs ks (λ x => f x ++ if k = x then [n] else []) := by
  refine ⟨h.len, h.nd, ?_, λ i x a e1 e2 => ?_⟩
  . have hg := h.l j k c hj hc
    rw [upd_ne λ z => by rw [<- z, h.d] at hg; cases hg]
    exact h.d
  . by_cases hi : i = j
    . subst hi
      rw [hj] at e1
      rw [hc] at e2
      cases e1
      cases e2
      rw [upd_same, if_pos rfl, sts_snoc]
    . have li := (List.getElem?_eq_some_iff.mp e1).1
      have lj := (List.getElem?_eq_some_iff.mp hj).1
      have nx : k ≠ x := λ z => by
        subst z
        exact hi (nd_inj hn e1 hj)
      have na : a ≠ c := λ z => by
        subst z
        exact hi (nd_inj h.nd e2 hc)
      rw [upd_ne na, if_neg nx, List.append_nil]
      exact h.l i x a e1 e2
where
  nd_inj {α : Type} {xs : List α} (h : xs.Nodup) {i j : Nat} {x : α} (hi : xs[i]? = some x) (hj : xs[j]? = some x) : i = j := by
    rcases Nat.lt_trichotomy i j with l | l | l
    . have e1 := List.getElem?_eq_some_iff.mp hi
      have e2 := List.getElem?_eq_some_iff.mp hj
      exact absurd (e1.2.trans e2.2.symm) (List.pairwise_iff_getElem.mp h i j e1.1 e2.1 l)
    . exact l
    . have e1 := List.getElem?_eq_some_iff.mp hi
      have e2 := List.getElem?_eq_some_iff.mp hj
      exact absurd (e2.2.trans e1.2.symm) (List.pairwise_iff_getElem.mp h j i e2.1 e1.1 l)
noncomputable def keysB (ps : List (Str × Str)) : List Str := "all" :: ps.map (·.1)
theorem Good.keys {ps : List (Str × Str)} (g : Good ps) : (keysB ps).Nodup := List.nodup_cons.mpr ⟨λ m => (nameB_at (g.nms.1 _ m)).2.2 rfl, g.nms.2⟩
theorem Good.abvIn {ps : List (Str × Str)} (g : Good ps) {i : Nat} {q : Str × Str} (h : ps[i]? = some q) : q.2 ∈ keysB ps := by
  rcases g.abv i q h with e | m
  . rw [e]
    exact List.mem_cons_self ..
  . obtain ⟨r, hr, e⟩ := List.mem_map.mp m
    exact List.mem_cons_of_mem _ (List.mem_map.mpr ⟨r, List.mem_of_mem_take hr, e⟩)
theorem below_len (ps : List (Str × Str)) (k : Str) : (below ps k).length <= ps.length := by
  unfold below
  rw [List.length_map]
  exact List.length_filter_le ..
noncomputable def sp_turned_about : Sp := λ vs H Q _ => ∃ (a : Addr) (ps : List (Str × Str)), vs = [.ref a] /\ H a = some (.dK (abvD ps)) /\ Good ps /\ ∀ b bs H', Same H H' -> H b = none -> (∀ c ∈ bs, H c = none) -> Ben H' b bs (keysB ps) (below ps) -> Q (.ref b) H'
noncomputable def t_turned_about : TS :=
  (tSeq (tAsg (tDisp [((tC (.str "all")), (tLstG tNil))]) (gName 1))
  (tSeq (sFor (iOf iterG (gv 0)) (gName 2)
    (tAsg (tLstG tNil) (gSub (gv 1) (gv 2) setG)))
  (tSeq (sFor (iOf itemsG (gv 0)) (gTup0 2 (gCons (gName 2) (gCons (gName 3) gNil)))
    (tDrop (tBmG "append" (tOp getG (gv 1) (gv 3)) (tCons (gv 2) tNil))))
  (tRet (gv 1)))))
theorem abv_at {ps : List (Str × Str)} {i : Nat} {k : Key} {v : V} (h : (abvD ps)[i]? = some (k, v)) : ∃ q, ps[i]? = some q /\ k = Sum.inr q.1 /\ v = .str q.2 := by
  unfold abvD at h
  rw [List.getElem?_map] at h
  cases e : ps[i]? with
  | none => rw [e] at h; cases h
  | some q => rw [e] at h; cases h; exact ⟨q, rfl, rfl, rfl⟩
theorem abv_len (ps : List (Str × Str)) : (abvD ps).length = ps.length := List.length_map ..
theorem r_turned_about {a : Addr} {ps : List (Str × Str)} {H : Hp} {D : Ends} (ha : H a = some (.dK (abvD ps))) (g : Good ps) (q : ∀ b bs H', Same H H' -> H b = none -> (∀ c ∈ bs, H c = none) -> Ben H' b bs (keysB ps) (below ps) -> D.rt (.ref b) H') : t_turned_about D [some (.ref a), none, none, none] H := by
  have hs := sz
  have g2 := g.many
  show tAsg (tDisp [(tC (.str "all"), tLstG tNil)]) (gName 1) _ _ _
  show tDisp [(tC (.str "all"), tLstG tNil)] _ _ _
  refine dispL_i (tk := tC (.str "all")) (x := .str "all") (λ G R r => r) (k := Sum.inr "all") rfl λ b b0 G1 nb nb0 nbb s1 tb tb0 => ?_
  have ha1 := s1 _ _ ha
  refine sFor_i (iterD_i ha1 λ o => ?_)
  have nab : ∀ c, H c = none -> c ≠ a := λ c n z => by rw [z, ha] at n; cases n
  refine loop_dic (λ i σ G => Same (upd H a (.frz o (.dK (abvD ps)))) G /\ (∃ bs, Ben G b bs (keysB (ps.take i)) (λ _ => []) /\ ∀ c ∈ bs, H c = none) /\ ∃ u, σ = [some (.ref a), some (.ref b), u, none]) ⟨same_frz s1, ⟨[b0], ⟨rfl, by simp, ?_, ?_⟩, by simpa using nb0⟩, _, rfl⟩ (λ i σ G _ h => h.1 _ _ upd_same) ?_ ?_
  . rw [upd_ne (nab b nb)]
    exact tb
  . intro i k c e1 e2
    match i, e1, e2 with
    | 0, _, e2 =>
      cases e2
      rw [upd_ne (nab b0 nb0)]
      exact tb0
    | i + 1, _, e2 => simp at e2
  . rintro i k v σ G hk ⟨sm, ⟨bs, bn, fr⟩, u, rfl⟩
    obtain ⟨r, hr, rfl, rfl⟩ := abv_at hk
    have hi := (List.getElem?_eq_some_iff.mp hr).1
    refine ⟨few rfl, new_i λ c G2 n2 s2 t2 => ?_⟩
    have hc : H c = none := (frz_free (sm.free n2)).1
    have hno : r.1 ∉ keysB (ps.take i) := by
      unfold keysB
      rw [List.mem_cons]
      rintro (e | m)
      . exact (nameB_at (g.nms.1 _ (List.mem_of_getElem? (good_fst hr)))).2.2 e
      . rw [List.map_take] at m
        exact nd_take g.nms.2 (good_fst hr) m
    have hd := s2 _ _ bn.d
    have ncb : c ≠ b := λ z => by
      rw [z, bn.d] at n2
      cases n2
    refine setK_i hd (k := Sum.inr r.1) rfl ?_ ⟨?_, ⟨bs ++ [c], ⟨?_, ?_, ?_, ?_⟩, ?_⟩, _, rfl⟩
    . have := benD_len (keysB (ps.take i)) bs
      have e : (keysB (ps.take i)).length = (ps.take i).length + 1 := by
        unfold keysB
        rw [List.length_cons, List.length_map]
      rw [List.length_take] at e
      omega
    . exact (sm.trans s2).put (by rw [upd_ne (nab b nb)]; exact nb)
    . unfold keysB
      rw [take_snoc hr, List.map_append, List.length_append, bn.len]
      simp [keysB]
    . refine nd_snoc bn.nd λ m => ?_
      obtain ⟨j, hj⟩ := List.mem_iff_getElem?.mp m
      have hl := (List.getElem?_eq_some_iff.mp hj).1
      rw [bn.len] at hl
      have := bn.l j _ c (by simp [hl]; rfl) hj
      rw [n2] at this
      cases this
    . rw [upd_same, putK_new _ (ben_none hno), take_snoc hr]
      unfold keysB
      rw [List.map_append, <- List.cons_append]
      exact congrArg (λ z => some (HO.dK z)) (benD_snoc r.1 c bn.len).symm
    . intro j k' c' e1 e2
      rw [take_snoc hr] at e1
      unfold keysB at e1
      rw [List.map_append, <- List.cons_append] at e1
      by_cases hj : j < bs.length
      . rw [List.getElem?_append_left hj] at e2
        rw [List.getElem?_append_left (by have := bn.len; unfold keysB at this; rw [<- this]; exact hj)] at e1
        have := bn.l j k' c' e1 e2
        have nb' : c' ≠ b := λ z => by
          rw [z, bn.d] at this
          cases this
        rw [upd_ne nb']
        exact s2 _ _ this
      . have hl := (List.getElem?_eq_some_iff.mp e2).1
        rw [List.length_append] at hl
        have : j = bs.length := by simp at hl; omega
        subst this
        simp at e2
        subst e2
        rw [upd_ne ncb]
        exact t2
    . intro c' m
      rcases List.mem_append.mp m with m | m
      . exact fr c' m
      . rw [List.mem_singleton.mp m]
        exact hc
  . rintro σ G ⟨sm, ⟨bs, bn, fr⟩, u, rfl⟩
    rw [abv_len, List.take_length] at bn
    refine ⟨⟨o, sm _ _ upd_same⟩, ?_⟩
    have bnT : ∀ x : HO, Ben (upd G a x) b bs (keysB ps) (λ _ => []) := λ x => bn.to (upd_ne (nab b nb)) λ c hc => upd_ne (nab c (fr c hc))
    refine sFor_i (items_i upd_same λ o2 => ?_)
    rw [upd_upd]
    have sm0 : Same (upd H a (.frz o2 (.dK (abvD ps)))) (upd G a (.frz o2 (.dK (abvD ps)))) := by
      have := same_frz (a := a) (f := .frz o2 (.dK (abvD ps))) (same_thaw ha sm)
      rw [upd_upd] at this
      exact this
    refine loop_itm (λ i σ G => Same (upd H a (.frz o2 (.dK (abvD ps)))) G /\ Ben G b bs (keysB ps) (below (ps.take i)) /\ ∃ u v, σ = [some (.ref a), some (.ref b), u, v]) ⟨sm0, (bnT _).congr λ k _ => rfl, _, _, rfl⟩ (λ i σ G _ h => h.1 _ _ upd_same) ?_ ?_
    . rintro i k v t σ G3 G4 hk ⟨sm3, bn3, u, v, rfl⟩ nt s4 ht _
      obtain ⟨r, hr, rfl, rfl⟩ := abv_at hk
      replace bn3 := bn3.same s4
      replace sm3 := sm3.trans s4
      obtain ⟨j, c, hj, hc, hv, hl⟩ := bn3.get g.keys (g.abvIn hr)
      refine ⟨t, _, rfl, .inl ht, rfl, _, _, rfl, _, _, rfl, rfl, ?_⟩
      refine getK_i (.inl bn3.d) (k := Sum.inr r.2) rfl hv ?_
      refine app_i hl (app_at hl ?_ ⟨sm3.put ?_, ?_, _, _, rfl⟩)
      . have := below_len (ps.take i) r.2
        rw [List.length_take] at this
        simp
        omega
      . have nc := fr c (List.mem_of_getElem? hc)
        rw [upd_ne (nab c nc)]
        exact nc
      . exact (bn3.app g.keys hj hc).congr λ k _ => by rw [take_snoc hr, below_snoc]
    . rintro σ G5 ⟨sm5, bn5, u, v, rfl⟩
      rw [abv_len, List.take_length] at bn5
      refine ⟨⟨o2, sm5 _ _ upd_same⟩, ?_⟩
      exact q b bs _ (same_thaw ha sm5) nb fr (bn5.to (upd_ne (nab b nb)) λ c hc => upd_ne (nab c (fr c hc)))
noncomputable def fsH (a c b : Addr) : List (Str × V) := [("above_of", .ref a), ("column_names", .ref c), ("beneath_of", .ref b)]
structure HouseAt (cl : Addr) (H : Hp) (x : Addr) (ps : List (Str × Str)) (cs : List Str) : Prop where
  mk ::
  good : Good ps
  nms : Nms cs
  one : 1 <= cs.length
  many : cs.length <= 8
  at' : ∃ dx a c b bs, H x = some (.ins cl dx (fsH a c b)) /\ H a = some (.dK (abvD ps)) /\ H c = some (.lst (sts cs)) /\ Ben H b bs (keysB ps) (below ps)
theorem HouseAt.same {cl : Addr} {H G : Hp} {x : Addr} {ps : List (Str × Str)} {cs : List Str} (h : HouseAt cl H x ps cs) (s : Same H G) : HouseAt cl G x ps cs := by
  obtain ⟨h1, h2, h3, h4, dx, a, c, b, bs, e1, e2, e3, e4⟩ := h
  exact ⟨h1, h2, h3, h4, dx, a, c, b, bs, s _ _ e1, s _ _ e2, s _ _ e3, e4.same s⟩
section
variable {cl : Addr}
noncomputable def sp_House_init (cl : Addr) : Sp := λ vs H Q _ => ∃ (x dx p c : Addr) (xs : List V) (ps : List (Str × Str)) (cs : List Str), vs = [.ref x, .ref p, .ref c] /\ H x = some (.ins cl dx []) /\ H p = some (.lst xs) /\ PairsAt H xs ps /\ Good ps ∧
  H c = some (.lst (sts cs)) /\ Nms cs /\ 1 <= cs.length /\ cs.length <= 8 /\ ∀ H', SameX x H H' -> (∀ G : Hp, (∀ b o, H b = none \/ b = x -> H' b = some o -> G b = some o) -> HouseAt cl G x ps cs) -> Q .non H'
noncomputable def t_House_init (cl : Addr) : TS :=
  (tSeq (sFldG cl "above_of" (gv 0) (tCall sp_checked_parts [] E0 (tCons (gv 1) tNil)))
  (tSeq (sFldG cl "column_names" (gv 0) (tCall sp_checked_columns [] E0 (tCons (gv 2) tNil)))
  (sFldG cl "beneath_of" (gv 0) (tCall sp_turned_about [] E0 (tCons (tFldG cl "above_of" (gv 0)) tNil)))))
theorem nx_of {H : Hp} {a x : Addr} {o u : HO} (h : H a = some o) (hx : H x = some u) (n : o ≠ u) : a ≠ x := λ z => by
  rw [z, hx] at h
  cases h
  exact n rfl
theorem r_House_init {x dx p c : Addr} {xs : List V} {ps : List (Str × Str)} {cs : List Str} {H : Hp} {Q : VK} (hx : H x = some (.ins cl dx [])) (hp : H p = some (.lst xs)) (pa : PairsAt H xs ps) (g : Good ps) (hc : H c = some (.lst (sts cs))) (hn : Nms cs) (h1 : 1 <= cs.length) (h8 : cs.length <= 8)
    (q : ∀ H', SameX x H H' -> (∀ G : Hp, (∀ b o, H b = none \/ b = x -> H' b = some o -> G b = some o) -> HouseAt cl G x ps cs) -> Q .non H') : t_House_init cl { nx := λ _ H' => Q .non H', rt := Q } [some (.ref x), some (.ref p), some (.ref c)] H := by
  refine ⟨p, xs, ps, rfl, hp, pa, g, λ a G1 s1 n1 t1 => ?_⟩
  refine sfl_i (s1 _ _ hx) rfl ?_
  have ncx := nx_of hc hx (by simp)
  have nax : a ≠ x := λ z => by rw [z, hx] at n1; cases n1
  refine ⟨c, cs, rfl, by rw [upd_ne ncx]; exact s1 _ _ hc, hn, h1, h8, λ d G2 s2 n2 t2 => ?_⟩
  have hx2 := s2 _ _ upd_same
  have ndx : d ≠ x := λ z => by rw [z, upd_same] at n2; cases n2
  refine sfl_i hx2 rfl ?_
  refine fld_i upd_same (v := .ref a) rfl ?_
  have ha2 : G2 a = some (.dK (abvD ps)) := s2 _ _ (by rw [upd_ne nax]; exact t1)
  refine ⟨a, ps, rfl, by rw [upd_ne nax]; exact ha2, g, λ b bs G3 s3 n3 nbs bn => ?_⟩
  have hx3 := s3 _ _ upd_same
  have nbx : b ≠ x := λ z => by rw [z, upd_same] at n3; cases n3
  refine sfl_i hx3 rfl ?_
  have sx : SameX x H G3 := ((((same_x s1).trans sameX_upd).trans (same_x s2)).trans sameX_upd).trans (same_x s3)
  have nod : H d = none := s1.free (by rw [upd_ne ndx] at n2; exact n2)
  have up : ∀ c, c ≠ x -> upd G2 x (.ins cl dx (putF "column_names" (.ref d) (putF "above_of" (.ref a) []))) c = none -> H c = none := λ c nc e => by
    rw [upd_ne nc] at e
    have e := s2.free e
    rw [upd_ne nc] at e
    exact s1.free e
  have nob : H b = none := up b nbx n3
  refine q _ (sx.trans sameX_upd) λ G hG => ⟨g, hn, h1, h8, dx, a, d, b, bs, hG x _ (.inr rfl) upd_same, hG a _ (.inl n1) ?_, hG d _ (.inl nod) ?_, ?_⟩
  . rw [upd_ne nax]
    exact s3 _ _ (by rw [upd_ne nax]; exact ha2)
  . rw [upd_ne ndx]
    exact s3 _ _ (by rw [upd_ne ndx]; exact t2)
  . have nex : ∀ e ∈ bs, e ≠ x := λ e he z => by
      have := nbs e he
      rw [z, upd_same] at this
      cases this
    exact ⟨bn.len, bn.nd, hG b _ (.inl nob) (by rw [upd_ne nbx]; exact bn.d), λ i k e e1 e2 => by
      have hm := List.mem_of_getElem? e2
      refine hG e _ (.inl (up e (nex e hm) (nbs e hm))) ?_
      rw [upd_ne (nex e hm)]
      exact bn.l i k e e1 e2⟩
noncomputable def namesOf (ps : List (Str × Str)) : List Str := ps.map (·.1)
noncomputable def rowsOf (ps : List (Str × Str)) : List Str := (namesOf ps).filter λ n => (below ps n).isEmpty
noncomputable def sp_texts (cl : Addr) (f : List (Str × Str) -> List Str -> List Str) : Sp := λ vs H Q _ => ∃ x ps cs, vs = [.ref x] /\ HouseAt cl H x ps cs /\ ∀ p H', Same H H' -> H p = none -> H' p = some (.lst (sts (f ps cs))) -> Q (.ref p) H'
noncomputable def sp_pairs (cl : Addr) (f : List (Str × Str) -> List Str -> List (Str × Str)) : Sp := λ vs H Q _ => ∃ x ps cs, vs = [.ref x] /\ HouseAt cl H x ps cs /\ ∀ p zs H', Same H H' -> H p = none -> H' p = some (.lst zs) -> PairsAt H' zs (f ps cs) -> Q (.ref p) H'
noncomputable def sp_parts (cl : Addr) : Sp := sp_texts cl λ ps _ => namesOf ps
noncomputable def sp_columns (cl : Addr) : Sp := sp_texts cl λ _ cs => cs
noncomputable def sp_places (cl : Addr) : Sp := sp_pairs cl λ ps cs => prodP ("all" :: namesOf ps) (cs ++ [("all" : Str)])
noncomputable def t_House_parts (cl : Addr) : TS :=
  (tRet (tCB listG (tCons (tFldG cl "above_of" (gv 0)) tNil)))
theorem r_House_parts {x : Addr} {ps : List (Str × Str)} {cs : List Str} {H : Hp} {D : Ends} (h : HouseAt cl H x ps cs) (q : ∀ p H', Same H H' -> H p = none -> H' p = some (.lst (sts (namesOf ps))) -> D.rt (.ref p) H') : t_House_parts cl D [some (.ref x)] H := by
  obtain ⟨g, hn, h1, h8, dx, a, c, b, bs, e1, e2, e3, e4⟩ := h
  refine fld_i e1 (v := .ref a) rfl ?_
  refine listD_i (.inl e2) (new_i λ p G n s t => ?_)
  rw [abv_keys] at t
  exact q p G s n t
noncomputable def t_House_columns (cl : Addr) : TS :=
  (tRet (tCB listG (tCons (tFldG cl "column_names" (gv 0)) tNil)))
theorem r_House_columns {x : Addr} {ps : List (Str × Str)} {cs : List Str} {H : Hp} {D : Ends} (h : HouseAt cl H x ps cs) (q : ∀ p H', Same H H' -> H p = none -> H' p = some (.lst (sts cs)) -> D.rt (.ref p) H') : t_House_columns cl D [some (.ref x)] H := by
  obtain ⟨g, hn, h1, h8, dx, a, c, b, bs, e1, e2, e3, e4⟩ := h
  refine fld_i e1 (v := .ref c) rfl ?_
  exact listL_i e3 (new_i λ p G n s t => q p G s n t)
noncomputable def t_House_places (cl : Addr) : TS :=
  (tRet (tCall sp_paired [] E0 (tCons (tOp addG (tLstG (tCons (tC (.str "all")) tNil)) (tMethG cl "parts" (sp_parts cl) E0 (gv 0) tNil)) (tCons (tOp addG (tFldG cl "column_names" (gv 0)) (tLstG (tCons (tC (.str "all")) tNil))) tNil))))
theorem r_House_places {x : Addr} {ps : List (Str × Str)} {cs : List Str} {H : Hp} {D : Ends} (h : HouseAt cl H x ps cs) (q : ∀ p zs H', Same H H' -> H p = none -> H' p = some (.lst zs) -> PairsAt H' zs (prodP ("all" :: namesOf ps) (cs ++ [("all" : Str)])) -> D.rt (.ref p) H') : t_House_places cl D [some (.ref x)] H := by
  have hs := sz
  have g2 := h.good.many
  have h8 := h.many
  have hl : (namesOf ps).length = ps.length := List.length_map ..
  refine ⟨few rfl, new_i λ p1 G1 n1 s1 t1 => ?_⟩
  have h1 := h.same s1
  obtain ⟨_, _, _, _, dx, a, c, b, bs, e1, e2, e3, e4⟩ := id h1
  refine meth_i e1 rfl ⟨x, ps, cs, rfl, h1, λ p2 G2 s2 n2 t2 => ?_⟩
  refine addL_i (s2 _ _ t1) t2 (by simp; omega) (new_i λ p3 G3 n3 s3 t3 => ?_)
  have s13 := s2.trans s3
  refine fld_i (s13 _ _ e1) (v := .ref c) rfl ?_
  refine ⟨few rfl, new_i λ p4 G4 n4 s4 t4 => ?_⟩
  refine addL_i (s4 _ _ (s13 _ _ e3)) t4 (by simp; omega) (new_i λ p5 G5 n5 s5 t5 => ?_)
  have S5 := ((s1.trans s13).trans s4).trans s5
  refine ⟨p3, p5, "all" :: namesOf ps, cs ++ [("all" : Str)], rfl, s5 _ _ (s4 _ _ t3), by rw [t5, sts_snoc], by simp; omega, by simp; omega, λ l zs G6 s6 n6 t6 pa => ?_⟩
  exact q l zs G6 (S5.trans s6) (S5.free n6) t6 pa
noncomputable def sp_beneath (cl : Addr) : Sp := λ vs H Q _ => ∃ x ps cs k, vs = [.ref x, .str k] /\ HouseAt cl H x ps cs /\ k ∈ keysB ps /\ ∀ p H', Same H H' -> H p = none -> H' p = some (.lst (sts (below ps k))) -> Q (.ref p) H'
noncomputable def t_House_beneath (cl : Addr) : TS :=
  (tRet (tCB listG (tCons (tOp getG (tFldG cl "beneath_of" (gv 0)) (gv 1)) tNil)))
theorem r_House_beneath {x : Addr} {ps : List (Str × Str)} {cs : List Str} {k : Str} {H : Hp} {D : Ends} (h : HouseAt cl H x ps cs) (hk : k ∈ keysB ps) (q : ∀ p H', Same H H' -> H p = none -> H' p = some (.lst (sts (below ps k))) -> D.rt (.ref p) H') : t_House_beneath cl D [some (.ref x), some (.str k)] H := by
  obtain ⟨g, hn, h1, h8, dx, a, c, b, bs, e1, e2, e3, e4⟩ := h
  obtain ⟨j, c', hj, hc, hv, hl⟩ := e4.get g.keys hk
  refine fld_i e1 (v := .ref b) rfl ?_
  refine getK_i (.inl e4.d) (k := Sum.inr k) rfl hv ?_
  exact listL_i hl (new_i λ p G n s t => q p G s n t)
end
section
variable {K : PySem.W.Frag}
noncomputable def sp_law_names : Sp := λ vs H Q _ => ∃ c m : Int, vs = [.int c, .int m] /\ 0 <= m /\ m <= 24 /\ ∀ p (zs : List Str) H', Same H H' -> H p = none -> H' p = some (.lst (sts zs)) -> (zs.length : Int) = m -> Nms zs -> Q (.ref p) H'
theorem list_len (y : Str) : y.cps.toList.length = y.length := by rw [Array.length_toList]; rfl
noncomputable def sp_law_columns (K : PySem.W.Frag) : Sp := λ vs H Q _ => ∃ (a : Addr) (ns : List Int), vs = [.ref a] /\ SqL K H a (ns.map V.int) /\ ∀ p (cs : List Str) H', Same H H' -> H p = none -> H' p = some (.lst (sts cs)) -> 1 <= cs.length -> cs.length <= 8 -> Nms cs -> Q (.ref p) H'
noncomputable def sp_law_parts (K : PySem.W.Frag) : Sp := λ vs H Q _ => ∃ (a : Addr) (ns : List Int), vs = [.ref a] /\ SqL K H a (ns.map V.int) /\ ∀ l (xs : List V) (ps : List (Str × Str)) H', Same H H' -> H l = none -> H' l = some (.lst xs) -> PairsAt H' xs ps -> Good ps -> Q (.ref l) H'
theorem mapM_at {α β : Type} {f : α -> Option β} : ∀ {xs : List α} {ys : List β}, xs.length = ys.length -> (∀ (i : Nat) y, ys[i]? = some y -> ∃ x, xs[i]? = some x /\ f x = some y) -> xs.mapM f = some ys
  | [], [], _, _ => by simp
  | [], _ :: _, h, _ => by simp at h
  | _ :: _, [], h, _ => by simp at h
  | x :: xs, y :: ys, h, k => by
    rw [mapM_cons]
    obtain ⟨x', e1, e2⟩ := k 0 y rfl
    simp at e1
    subst e1
    rw [e2, Option.bind_some, mapM_at (xs := xs) (ys := ys) (by simpa using h) λ i z hz => by
      obtain ⟨w, w1, w2⟩ := k (i + 1) z (by simpa using hz)
      exact ⟨w, by simpa using w1, w2⟩]
    rfl
end
theorem fm_at {α β : Type} {f : α -> Option β} : ∀ {xs : List α} {ys : List β}, xs.length = ys.length -> (∀ (i : Nat) y, ys[i]? = some y -> ∃ x, xs[i]? = some x /\ f x = some y) -> xs.filterMap f = ys
  | [], [], _, _ => by simp
  | [], _ :: _, h, _ => by simp at h
  | _ :: _, [], h, _ => by simp at h
  | x :: xs, y :: ys, h, k => by
    obtain ⟨x', e1, e2⟩ := k 0 y rfl
    simp at e1
    subst e1
    rw [List.filterMap_cons, e2]
    simp only
    rw [fm_at (xs := xs) (ys := ys) (by simpa using h) λ i z hz => by
      obtain ⟨w, w1, w2⟩ := k (i + 1) z (by simpa using hz)
      exact ⟨w, by simpa using w1, w2⟩]
noncomputable def fstOf (H : Hp) : V -> Option V
  | .ref t => match H t with
    | some (.tup [x, _]) => some x
    | _ => none
  | _ => none
noncomputable def sndOf (H : Hp) : V -> Option V
  | .ref t => match H t with
    | some (.tup [_, y]) => some y
    | _ => none
  | _ => none
theorem fst_at {H : Hp} {t : Addr} {x y : V} (h : H t = some (.tup [x, y])) : fstOf H (.ref t) = some x := by
  unfold fstOf
  simp only [h]
theorem snd_at {H : Hp} {t : Addr} {x y : V} (h : H t = some (.tup [x, y])) : sndOf H (.ref t) = some y := by
  unfold sndOf
  simp only [h]
theorem PairsAt.fsts {H : Hp} {xs : List V} {ps : List (Str × Str)} (h : PairsAt H xs ps) : xs.filterMap (fstOf H) = sts (ps.map (·.1)) := by
  refine fm_at (by rw [sts, List.length_map, List.length_map]; exact h.1) λ i y hy => ?_
  obtain ⟨z, hz, rfl⟩ := sts_at hy
  rw [List.getElem?_map] at hz
  cases e : ps[i]? with
  | none => rw [e] at hz; cases hz
  | some q =>
    rw [e] at hz
    cases hz
    obtain ⟨t, e1, e2⟩ := h.2 i q e
    exact ⟨_, e1, fst_at e2⟩
theorem PairsAt.snds {H : Hp} {xs : List V} {ps : List (Str × Str)} (h : PairsAt H xs ps) : xs.filterMap (sndOf H) = sts (ps.map (·.2)) := by
  refine fm_at (by rw [sts, List.length_map, List.length_map]; exact h.1) λ i y hy => ?_
  obtain ⟨z, hz, rfl⟩ := sts_at hy
  rw [List.getElem?_map] at hz
  cases e : ps[i]? with
  | none => rw [e] at hz; cases hz
  | some q =>
    rw [e] at hz
    cases hz
    obtain ⟨t, e1, e2⟩ := h.2 i q e
    exact ⟨_, e1, snd_at e2⟩
theorem same_make {H G : Hp} {x dx cl : Addr} (hx : H x = none) (hdx : H dx = none) (s : SameX x (upd (upd H dx (.own x)) x (.ins cl dx [])) G) : Same H G := λ b o e => by
  have n1 := ne_of_none e hx
  have n2 := ne_of_none e hdx
  exact s b o n1 (by rw [upd_ne n1, upd_ne n2]; exact e)
end Tv
namespace Tv
open PySem PySem.Spec PyProof.Rows L2
section
variable {cl : Addr}
theorem make_i {pl pc x dx : Addr} {xs : List V} {ps : List (Str × Str)} {cs : List Str} {H : Hp} {Q : VK} {E : XK} (g : Good ps) (hn : Nms cs) (h1 : 1 <= cs.length) (h8 : cs.length <= 8) (hl : H pl = some (.lst xs)) (pa : PairsAt H xs ps) (hc : H pc = some (.lst (sts cs))) (nx : H x = none) (ndx : H dx = none)
    (q : ∀ G, Same H G -> (∀ J : Hp, (∀ b o, H b = none -> G b = some o -> J b = some o) -> HouseAt cl J x ps cs) -> Q .non G) : sp_House_init cl [.ref x, .ref pl, .ref pc] (upd (upd H dx (.own x)) x (.ins cl dx [])) Q E := by
  have ne : ∀ b o, H b = some o -> upd (upd H dx (.own x)) x (.ins cl dx []) b = some o := λ b o e => by rw [upd_ne (ne_of_none e nx), upd_ne (ne_of_none e ndx)]; exact e
  refine ⟨x, dx, pl, pc, xs, ps, cs, rfl, upd_same, ne _ _ hl, ⟨pa.1, λ i r hr => ?_⟩, g, ne _ _ hc, hn, h1, h8, λ G sx hf => q G (same_make nx ndx sx) λ J hJ => hf J λ b o hb e => hJ b o ?_ e⟩
  . obtain ⟨t, e1, e2⟩ := pa.2 i r hr
    exact ⟨t, e1, ne _ _ e2⟩
  . rcases hb with hb | rfl
    . by_cases z1 : b = x
      . rw [z1]
        exact nx
      . rw [upd_ne z1] at hb
        by_cases z2 : b = dx
        . rw [z2]
          exact ndx
        . rw [upd_ne z2] at hb
          exact hb
    . exact nx
end
noncomputable def TupsAt (H : Hp) (xs : List V) (ls : List (List Str)) : Prop := xs.length = ls.length /\ ∀ (i : Nat) l, ls[i]? = some l -> ∃ t, xs[i]? = some (.ref t) /\ H t = some (.tup (sts l))
theorem TupsAt.same {H G : Hp} {xs : List V} {ls : List (List Str)} (h : TupsAt H xs ls) (s : Same H G) : TupsAt G xs ls := ⟨h.1, λ i q e => by
  obtain ⟨t, e1, e2⟩ := h.2 i q e
  exact ⟨t, e1, s _ _ e2⟩⟩
theorem TupsAt.put {H : Hp} {xs ys : List V} {ls : List (List Str)} {l : Addr} {o : HO} (h : TupsAt H xs ls) (hl : H l = some (.lst ys)) : TupsAt (upd H l o) xs ls := ⟨h.1, λ i q e => by
  obtain ⟨t, e1, e2⟩ := h.2 i q e
  refine ⟨t, e1, ?_⟩
  rw [upd_ne λ z => by rw [z, hl] at e2; cases e2]
  exact e2⟩
theorem TupsAt.nil {H : Hp} : TupsAt H [] [] := ⟨rfl, λ i q e => by simp at e⟩
theorem TupsAt.append {H : Hp} {xs ys : List V} {ls ms : List (List Str)} (h : TupsAt H xs ls) (k : TupsAt H ys ms) : TupsAt H (xs ++ ys) (ls ++ ms) := by
  refine ⟨by simp [h.1, k.1], λ i r e => ?_⟩
  by_cases hi : i < ls.length
  . rw [List.getElem?_append_left hi] at e
    rw [List.getElem?_append_left (by rw [h.1]; exact hi)]
    exact h.2 i r e
  . rw [List.getElem?_append_right (by omega)] at e
    rw [List.getElem?_append_right (by rw [h.1]; omega), h.1]
    exact k.2 _ r e
theorem TupsAt.one {H : Hp} {t : Addr} {l : List Str} (ht : H t = some (.tup (sts l))) : TupsAt H [.ref t] [l] := ⟨rfl, λ i r e => by
  cases i with
  | zero => simp at e; subst e; exact ⟨t, rfl, ht⟩
  | succ i => simp at e⟩
theorem TupsAt.snoc {H : Hp} {xs : List V} {ls : List (List Str)} {t : Addr} {l : List Str} (h : TupsAt H xs ls) (ht : H t = some (.tup (sts l))) : TupsAt H (xs ++ [.ref t]) (ls ++ [l]) := h.append (.one ht)
theorem TupsAt.at {H : Hp} {xs : List V} {ls : List (List Str)} (h : TupsAt H xs ls) {i : Nat} {x : V} (hx : xs[i]? = some x) : ∃ l t, ls[i]? = some l /\ x = .ref t /\ H t = some (.tup (sts l)) := by
  have hi := (List.getElem?_eq_some_iff.mp hx).1
  rw [h.1] at hi
  obtain ⟨t, e1, e2⟩ := h.2 i ls[i] (by simp [hi])
  rw [hx] at e1
  cases e1
  exact ⟨ls[i], t, by simp [hi], rfl, e2⟩
noncomputable def tupD (l : List Str) : PyData := .tuple (l.map PyData.str)
theorem rd_tup {H : Hp} {t : Addr} {l : List Str} (n : Nat) (h : H t = some (.tup (sts l))) : rdD (n + 1) H (.ref t) = some (tupD l) := by
  show (match H t with
    | some (.lst xs) => (xs.mapM (rdD n H)).map PyData.list
    | some (.tup xs) => (xs.mapM (rdD n H)).map PyData.tuple
    | _ => none) = _
  simp only [h, rd_strs n H l]
  rfl
theorem TupsAt.rd {H : Hp} {xs : List V} {ls : List (List Str)} (h : TupsAt H xs ls) (n : Nat) : xs.mapM (rdD (n + 1) H) = some (ls.map tupD) := by
  refine mapM_at (by rw [List.length_map]; exact h.1) λ i y hy => ?_
  rw [List.getElem?_map] at hy
  cases e : ls[i]? with
  | none => rw [e] at hy; cases hy
  | some q =>
    rw [e] at hy
    cases hy
    obtain ⟨t, e1, e2⟩ := h.2 i q e
    exact ⟨_, e1, rd_tup n e2⟩
theorem rd_lstT {H : Hp} {p : Addr} {xs : List V} {ls : List (List Str)} (n : Nat) (h : H p = some (.lst xs)) (pa : TupsAt H xs ls) : rdD (n + 2) H (.ref p) = some (.list (ls.map tupD)) := by
  show (match H p with
    | some (.lst xs) => (xs.mapM (rdD (n + 1) H)).map PyData.list
    | some (.tup xs) => (xs.mapM (rdD (n + 1) H)).map PyData.tuple
    | _ => none) = _
  simp only [h, pa.rd n]
  rfl
theorem strs_refl : ∀ l : List Str, PyData.eqvAll (l.map PyData.str) (l.map PyData.str) = true
  | [] => rfl
  | a :: r => by
    rw [List.map_cons, PyData.eqvAll, strs_refl r]
    show ((a == a) && true) = true
    simp
theorem tupD_refl (l : List Str) : PyData.eqv (tupD l) (tupD l) = true := by
  unfold tupD
  rw [PyData.eqv]
  exact strs_refl l
theorem tups_refl : ∀ ls : List (List Str), PyData.eqvAll (ls.map tupD) (ls.map tupD) = true
  | [] => rfl
  | a :: r => by rw [List.map_cons, PyData.eqvAll, tups_refl r, tupD_refl]; rfl
theorem ltups_refl (ls : List (List Str)) : PyData.eqv (.list (ls.map tupD)) (.list (ls.map tupD)) = true := by
  rw [PyData.eqv]
  exact tups_refl ls
theorem comp_tups {J : It} {ys : List V} (f : V -> Option (List Str)) {tn : List Str} {fr : List (Str × Nat)} {g : TG} {tt : TT} {te : TE} {σ : St} {H : Hp} {Q : VK} (hz : ys.length < sizeLine)
    (hJ : ∀ G, Same H G -> (∀ i, i < ys.length -> J.go i G) /\ J.stop ys.length G /\ ∀ i x G', i < ys.length -> J.yld i G x G' -> G' = G /\ ys[i]? = some x)
    (turn : ∀ (i : Nat) (x : V), ys[i]? = some x -> ∀ (G : Hp) (k : VK) (B : Hp -> Prop), Same H G -> (∀ l, f x = some l -> ∀ t G', Same G G' -> G' t = some (.tup (sts l)) -> k (.ref t) G') -> (f x = none -> B G) -> g x (inn tn fr σ) G λ σ2 G2 => tt σ2 G2 λ b G3 => br b (te σ2 G3 k) (B G3))
    (fin : ∀ p zs G, H p = none -> Same H G -> G p = some (.lst zs) -> TupsAt G zs (ys.filterMap f) -> Q (.ref p) G) : compJ J tn fr g tt te σ H Q := by
  unfold compJ
  intro p hp
  refine ⟨λ i m G => m = ys.length - i /\ i <= ys.length /\ Same H G /\ ∃ zs, G p = some (.lst zs) /\ TupsAt G zs ((ys.take i).filterMap f), ⟨_, rfl, Nat.zero_le _, same_upd hp, [], upd_same, .nil⟩, ?_⟩
  rintro i m G ⟨rfl, hi, sm, zs, hg, pz⟩
  obtain ⟨j1, j2, j3⟩ := hJ G sm
  by_cases hlt : i < ys.length
  . refine .inr ⟨j1 i hlt, λ G' => Same H G' /\ ∃ zs, G' p = some (.lst zs) /\ TupsAt G' zs ((ys.take (i + 1)).filterMap f), λ G' h => ⟨_, by omega, rfl, hlt, h⟩, λ x G' y => ?_⟩
    obtain ⟨rfl, hx⟩ := j3 i x G' hlt y
    refine turn i x hx _ _ _ sm (λ l hl t G2 s2 t2 => ⟨zs, s2 _ _ hg, ?_, (sm.trans s2).put hp, _, upd_same, ?_⟩) (λ hn => ⟨sm, zs, hg, ?_⟩)
    . rw [pz.1]
      have := List.length_filterMap_le f (ys.take i)
      have h2 := List.length_take_le i ys
      omega
    . rw [take_snoc hx, List.filterMap_append, List.filterMap_cons, hl]
      exact ((pz.same s2).snoc t2).put (s2 _ _ hg)
    . rw [take_snoc hx, List.filterMap_append, List.filterMap_cons, hn]
      simpa using pz
  . have e : i = ys.length := by omega
    subst e
    rw [List.take_length] at pz
    exact .inl ⟨j2, fin p zs G hp sm hg pz⟩
theorem comp_lt {a : Addr} {ys : List V} (f : V -> Option (List Str)) {tn : List Str} {fr : List (Str × Nat)} {g : TG} {tt : TT} {te : TE} {σ : St} {H : Hp} {Q : VK} (ha : H a = some (.lst ys)) (hz : ys.length < sizeLine)
    (turn : ∀ (i : Nat) (x : V), ys[i]? = some x -> ∀ (G : Hp) (k : VK) (B : Hp -> Prop), Same H G -> (∀ l, f x = some l -> ∀ t G', Same G G' -> G' t = some (.tup (sts l)) -> k (.ref t) G') -> (f x = none -> B G) -> g x (inn tn fr σ) G λ σ2 G2 => tt σ2 G2 λ b G3 => br b (te σ2 G3 k) (B G3))
    (fin : ∀ p zs G, H p = none -> Same H G -> G p = some (.lst zs) -> TupsAt G zs (ys.filterMap f) -> Q (.ref p) G) : compJ (Itl0 a) tn fr g tt te σ H Q := by
  refine comp_tups f hz (λ G sm => ?_) turn fin
  refine ⟨λ i hi => ⟨ys, ys[i], .inl (sm _ _ ha), by simp [hi]⟩, ⟨ys, .inl (sm _ _ ha), Nat.le_refl _⟩, ?_⟩
  rintro i x G' hi ⟨rfl, h⟩
  exact ⟨rfl, h ys (.inl (sm _ _ ha))⟩
noncomputable def tupF (f : Str -> List Str) : V -> Option (List Str)
  | .str z => some (f z)
  | _ => none
theorem fm_tup (f : Str -> List Str) : ∀ l : List Str, (sts l).filterMap (tupF f) = l.map f
  | [] => rfl
  | a :: r => by
    rw [sts, List.map_cons, List.filterMap_cons]
    show f a :: (sts r).filterMap (tupF f) = _
    rw [fm_tup f r]
    rfl
theorem below_nil {ps : List (Str × Str)} {n : Str} : (below ps n).isEmpty = !decide (n ∈ ps.map (·.2)) := by
  induction ps with
  | nil => rfl
  | cons a r ih =>
    unfold below at ih ⊢
    rw [List.filter_cons, List.map_cons]
    by_cases h : a.2 = n
    . simp [h]
    . have h' : ¬ n = a.2 := λ e => h e.symm
      simp only [beq_iff_eq, h, if_false, List.mem_cons, h', false_or]
      exact ih
theorem rows_len {ps : List (Str × Str)} : (rowsOf ps).length <= ps.length := by
  unfold rowsOf namesOf
  refine Nat.le_trans (List.length_filter_le ..) ?_
  rw [List.length_map]
  exact Nat.le_refl _
noncomputable def lrowF (H : Hp) (us : List Str) : V -> Option V
  | .ref t => match H t with
    | some (.tup [.str a, .str b]) => if a ∈ us then none else some (.str a)
    | _ => none
  | _ => none
theorem lrowF_at {H : Hp} {us : List Str} {t : Addr} {q : Str × Str} (h : H t = some (.tup [.str q.1, .str q.2])) : lrowF H us (.ref t) = if q.1 ∈ us then none else some (.str q.1) := by
  unfold lrowF
  simp only [h]
theorem lrows {H : Hp} {us : List Str} : ∀ {xs : List V} {ps : List (Str × Str)}, PairsAt H xs ps -> xs.filterMap (lrowF H us) = sts ((ps.map (·.1)).filter λ n => !decide (n ∈ us))
  | [], [], _ => rfl
  | [], _ :: _, h => by have := h.1; simp at this
  | _ :: _, [], h => by have := h.1; simp at this
  | x :: xs, q :: ps, h => by
    obtain ⟨t, e1, e2⟩ := h.2 0 q rfl
    simp at e1
    subst e1
    have ih := lrows (us := us) (xs := xs) (ps := ps) ⟨by have := h.1; simpa using this, λ i r hr => by
      obtain ⟨u, u1, u2⟩ := h.2 (i + 1) r (by simpa using hr)
      exact ⟨u, by simpa using u1, u2⟩⟩
    rw [List.filterMap_cons, lrowF_at e2, List.map_cons, List.filter_cons]
    by_cases hn : q.1 ∈ us
    . simp only [hn, if_true, decide_true, Bool.not_true]
      exact ih
    . simp only [hn, if_false, decide_false, Bool.not_false, if_true]
      rw [ih]
      rfl
theorem rows_eq {ps : List (Str × Str)} : ((ps.map (·.1)).filter λ n => !decide (n ∈ ps.map (·.2))) = rowsOf ps := by
  unfold rowsOf namesOf
  congr 1
  funext n
  exact below_nil.symm
theorem putK_len {κ : Type} [DecidableEq κ] (kvs : List (κ × V)) (k : κ) (v : V) : (putK kvs k v).length <= kvs.length + 1 := by
  unfold putK
  split
  . rw [List.length_map]
    omega
  . simp
end Tv
namespace Tv
open PySem PySem.Spec PyProof.Rows L2
namespace Nu
theorem same_none {H G : Hp} {p : Addr} (s : Same H G) (n : G p = none) : H p = none := by
  cases e : H p with
  | none => rfl
  | some o => rw [s _ _ e] at n; cases n
theorem iterV_i {a : Addr} {xs : List V} {H : Hp} {R : It -> Hp -> Th -> Prop} (h : H a = some (.lst xs)) (q : R (Itv a xs) H none) : revG [.ref a] H R := by
  unfold revG
  simp only [h]
  exact q
noncomputable def plK (a b : Str) : List Key := [Sum.inr a, Sum.inr b]
theorem keys_pl (a b : Str) : keysOf [.str a, .str b] = some (plK a b) := rfl
theorem look_dT {d p : Addr} {a b : Str} {kvs : List (List Key × V)} {H : Hp} (h : H d = some (.dT kvs)) (hp : H p = some (.tup [.str a, .str b])) : dLook H d (.ref p) = some (valV kvs (plK a b)) := by
  unfold dLook
  simp only [h, hp, keys_pl, Option.map_some]
theorem look_frz {d p : Addr} {a b : Str} {o : Obj} {kvs : List (List Key × V)} {H : Hp} (h : H d = some (.frz o (.dT kvs))) (hp : H p = some (.tup [.str a, .str b])) : dLook H d (.ref p) = some (valV kvs (plK a b)) := by
  unfold dLook
  simp only [h, hp, keys_pl, Option.map_some]
theorem dget_i {d : Addr} {kvs : List (List Key × V)} {t : TA} {σ : St} {Q : VK} {H : Hp} (h : H d = some (.dT kvs)) (q : t σ H λ vs H2 => dgetG (.ref d) vs H2 Q) : bmK "get" t σ Q (.ref d) H := by
  unfold bmK
  have : tyB H (.ref d) = some "dict" := by unfold tyB; simp only [h]
  rw [this]
  exact q
theorem getT_pl {d p : Addr} {a b : Str} {v : V} {kvs : List (List Key × V)} {Q : VK} {H : Hp} (h : Rd H d (.dT kvs)) (hp : H p = some (.tup [.str a, .str b])) (hv : valV kvs (plK a b) = some v) (q : Q v H) : getG (.ref d) (.ref p) H Q := by
  unfold getG
  rcases h with h | ⟨o, h⟩
  . simp only [h, look_dT h hp, hv]
    exact q
  . simp only [h, look_frz h hp, hv]
    exact q
theorem pl_inj {a b c d : Str} (h : plK a b = plK c d) : a = c /\ b = d := by
  unfold plK at h
  simp only [List.cons.injEq, Sum.inr.injEq, and_true] at h
  exact h
theorem setT_i {p b : Addr} {x y : Str} {v : V} {kvs : List (List Key × V)} {H : Hp} {Q : Hp -> Prop} (h : H p = some (.dT kvs)) (hb : H b = some (.tup [.str x, .str y])) (hz : kvs.length < sizeLine) (q : Q (upd H p (.dT (putK kvs (plK x y) v)))) : setG (.ref p) (.ref b) v H Q := by
  unfold setG
  simp only [h, hb, keys_pl]
  exact ⟨hz, q⟩
theorem iterT_i {a : Addr} {kvs : List (List Key × V)} {H : Hp} {R : It -> Hp -> Th -> Prop} (h : H a = some (.dT kvs)) (q : ∀ o, R (Itdt a o kvs) (upd H a (.frz o (.dT kvs))) (some (a, .dT kvs))) : iterG (.ref a) H R := by
  unfold iterG
  simp only [h]
  exact q
theorem loop_dT {a : Addr} {o : Obj} {kvs : List (List Key × V)} {g : TG} {tb : TS} {D : Ends} {σ : St} {H : Hp} (Pv : Nat -> St -> Hp -> Prop) (h0 : Pv 0 σ H) (hl : ∀ i σ H, i <= kvs.length -> Pv i σ H -> H a = some (.frz o (.dT kvs)))
    (hs : ∀ i k v t σ H, kvs[i]? = some (k, v) -> Pv i σ H -> H t = some (.tup (k.map kV)) -> g (.ref t) σ H λ σ2 H2 => tb { D with nx := Pv (i + 1), ct := Pv (i + 1), bk := D.nx } σ2 H2) (hd : ∀ σ H, Pv kvs.length σ H -> D.nx σ H) : loopJ (Itdt a o kvs) g tb D σ H := by
  unfold loopJ
  refine ⟨λ i m σ H => m = kvs.length - i /\ i <= kvs.length /\ Pv i σ H, ⟨_, rfl, Nat.zero_le _, h0⟩, ?_⟩
  rintro i m σ H ⟨rfl, hi, p⟩
  have q := hl i σ H hi p
  by_cases hlt : i < kvs.length
  . refine .inr ⟨⟨q, hlt⟩, Pv (i + 1), λ σ' H' h => ⟨_, by omega, rfl, hlt, h⟩, ?_⟩
    rintro x H' ⟨rfl, k, v, t, hx, rfl, ht⟩
    exact hs i k v t σ _ hx p ht
  . have e : i = kvs.length := by omega
    subst e
    exact .inl ⟨⟨q, Nat.le_refl _⟩, hd σ H p⟩
theorem clearT_i {d : Addr} {kvs : List (List Key × V)} {σ : St} {Q : VK} {H : Hp} (h : H d = some (.dT kvs)) (q : Q .non (upd H d (.dT []))) : bmK "clear" tNil σ Q (.ref d) H := by
  unfold bmK
  have : tyB H (.ref d) = some "dict" := by unfold tyB; simp only [h]
  rw [this]
  show dclrG (.ref d) [] H Q
  unfold dclrG
  simp only [h]
  exact q
noncomputable def PrAt (H : Hp) (kv : List Key × V) (x : V) : Prop := ∃ p t, x = .ref p /\ H p = some (.tup [.ref t, kv.2]) /\ H t = some (.tup (kv.1.map kV))
noncomputable abbrev PrsL (H : Hp) : List (List Key × V) -> List V -> Prop := Paired (PrAt H)
theorem PrsL.same {H G : Hp} {kvs : List (List Key × V)} {xs : List V} (h : PrsL H kvs xs) (s : Same H G) : PrsL G kvs xs := by
  induction h with
  | nil => exact .nil
  | cons h t ih =>
    obtain ⟨p, t, rfl, h1, h2⟩ := h
    exact .cons ⟨p, t, rfl, s _ _ h1, s _ _ h2⟩ ih
theorem newPairs_i : ∀ {kvs : List (List Key × V)} {H : Hp} {R : List V -> Hp -> Prop}, (∀ xs G, Same H G -> PrsL G kvs xs -> R xs G) -> newPairs kvs H R
  | [], H, R, q => by
    rw [newPairs_nil]
    exact q [] H (Same.refl H) .nil
  | kv :: r, H, R, q => by
    rw [newPairs_cons]
    intro t p ht hp
    refine newPairs_i λ xs G s h => q _ G ((same_upd hp).trans s) (.cons ⟨p, t, rfl, s _ _ upd_same, ?_⟩ h)
    exact s _ _ (same_upd hp _ _ ht)
theorem lstItems_i {a : Addr} {kvs : List (List Key × V)} {H : Hp} {Q : VK} (h : H a = some (.dT kvs)) (q : ∀ p xs G, Same H G -> H p = none -> G p = some (.lst xs) -> PrsL G kvs xs -> Q (.ref p) G) : lstItems (.ref a) H Q := by
  unfold lstItems
  simp only [h]
  refine newPairs_i λ xs G s hx => new_i λ p G2 n2 s2 t2 => q p xs G2 (s.trans s2) (same_none s n2) t2 (hx.same s2)
noncomputable def keyD : Key -> PyData
  | .inl i => .int i
  | .inr z => .str z
noncomputable def pairV (kv : List Key × V) (d : PyData) : PyData := .tuple [.tuple (kv.1.map keyD), d]
theorem rd_key (n : Nat) (H : Hp) : ∀ k : Key, rdD n H (kV k) = some (keyD k)
  | .inl i => by cases n <;> rfl
  | .inr z => by cases n <;> rfl
theorem rd_keys (n : Nat) (H : Hp) : ∀ ks : List Key, (ks.map kV).mapM (rdD n H) = some (ks.map keyD)
  | [] => rfl
  | k :: ks => by
    rw [List.map_cons, mapM_cons, rd_key, rd_keys n H ks]
    rfl
theorem rd_pr {n : Nat} {H : Hp} {kv : List Key × V} {x : V} {d : PyData} (h : PrAt H kv x) (hd : rdD (n + 1) H kv.2 = some d) : rdD (n + 2) H x = some (pairV kv d) := by
  obtain ⟨p, t, rfl, h1, h2⟩ := h
  show (match H p with
    | some (.lst xs) => (xs.mapM (rdD (n + 1) H)).map PyData.list
    | some (.tup xs) => (xs.mapM (rdD (n + 1) H)).map PyData.tuple
    | _ => none) = _
  simp only [h1]
  have e : rdD (n + 1) H (.ref t) = some (.tuple (kv.1.map keyD)) := by
    show (match H t with
      | some (.lst xs) => (xs.mapM (rdD n H)).map PyData.list
      | some (.tup xs) => (xs.mapM (rdD n H)).map PyData.tuple
      | _ => none) = _
    simp only [h2, rd_keys]
    rfl
  rw [mapM_cons, e, mapM_cons, hd]
  rfl
theorem loop_rev {a : Addr} {xs : List V} {g : TG} {tb : TS} {D : Ends} {σ : St} {H : Hp} (Pv : Nat -> St -> Hp -> Prop) (h0 : Pv 0 σ H) (hl : ∀ i σ H, i <= xs.length -> Pv i σ H -> H a = some (.lst xs))
    (hs : ∀ i x σ H, xs.reverse[i]? = some x -> Pv i σ H -> g x σ H λ σ2 H2 => tb { D with nx := Pv (i + 1), ct := Pv (i + 1), bk := D.nx } σ2 H2) (hd : ∀ σ H, Pv xs.length σ H -> D.nx σ H) : loopJ (Itv a xs) g tb D σ H := by
  unfold loopJ
  refine ⟨λ i m σ H => m = xs.length - i /\ i <= xs.length /\ Pv i σ H, ⟨_, rfl, Nat.zero_le _, h0⟩, ?_⟩
  rintro i m σ H ⟨rfl, hi, p⟩
  have q := hl i σ H hi p
  by_cases hlt : i < xs.length
  . refine .inr ⟨⟨q, hlt⟩, Pv (i + 1), λ σ' H' h => ⟨_, by omega, rfl, hlt, h⟩, ?_⟩
    rintro x H' ⟨rfl, hx⟩
    exact hs i x σ _ hx p
  . have e : i = xs.length := by omega
    subst e
    exact .inl ⟨Nat.le_refl _, hd σ H p⟩
noncomputable def dv : V -> PyData
  | .int i => .int i
  | _ => .none
noncomputable def IntsK (kvs : List (List Key × V)) : Prop := ∀ kv ∈ kvs, ∃ i, kv.2 = .int i
theorem prs_rd {H : Hp} {kvs : List (List Key × V)} {xs : List V} (h : PrsL H kvs xs) (hi : IntsK kvs) : xs.mapM (rdD 7 H) = some (kvs.map λ kv => pairV kv (dv kv.2)) := by
  induction h with
  | nil => rfl
  | cons h t ih =>
    rename_i kv x r ys
    obtain ⟨i, ei⟩ := hi kv (by simp)
    rw [mapM_cons, rd_pr (n := 5) h (d := dv kv.2) (by rw [ei]; rfl), ih λ kv' hk => hi kv' (by simp [hk])]
    rfl
theorem prs_eq {p q : Addr} {xs ys : List V} {kvs : List (List Key × V)} {H : Hp} {Q : VK} (hp : H p = some (.lst xs)) (hq : H q = some (.lst ys)) (px : PrsL H kvs xs) (py : PrsL H kvs ys) (hi : IntsK kvs) (h : Q (.bl true) H) : eqH (.ref p) (.ref q) H Q := by
  have e1 : rdD 8 H (.ref p) = some (.list (kvs.map λ kv => pairV kv (dv kv.2))) := by
    show (match H p with
      | some (.lst xs) => (xs.mapM (rdD 7 H)).map PyData.list
      | some (.tup xs) => (xs.mapM (rdD 7 H)).map PyData.tuple
      | _ => none) = _
    simp only [hp, prs_rd px hi]
    rfl
  have e2 : rdD 8 H (.ref q) = some (.list (kvs.map λ kv => pairV kv (dv kv.2))) := by
    show (match H q with
      | some (.lst xs) => (xs.mapM (rdD 7 H)).map PyData.list
      | some (.tup xs) => (xs.mapM (rdD 7 H)).map PyData.tuple
      | _ => none) = _
    simp only [hq, prs_rd py hi]
    rfl
  exact eq_i e1 e2 (by rw [eqv_self 8 _ _ e1]; exact h)
end Nu
end Tv
namespace Tv
open PySem PySem.Spec PyProof.Rows L2
noncomputable def downs (ps : List (Str × Str)) (cs ns : List Str) : List (List Str) := (ns.filter λ n => !(below ps n).isEmpty).flatMap λ n => (cs ++ [("all" : Str)]).map λ c => (["down", n, c] : List Str)
theorem downs_snoc (ps : List (Str × Str)) (cs ns : List Str) (n : Str) : downs ps cs (ns ++ [n]) = downs ps cs ns ++ if (below ps n).isEmpty = true then [] else (cs ++ [("all" : Str)]).map λ c => (["down", n, c] : List Str) := by
  unfold downs
  rw [List.filter_append, List.flatMap_append]
  congr 1
  by_cases h : (below ps n).isEmpty = true <;> simp [h]
theorem downs_len (ps : List (Str × Str)) (cs : List Str) : ∀ ns, (downs ps cs ns).length <= ns.length * (cs.length + 1)
  | [] => by simp [downs]
  | n :: r => by
    have ih := downs_len ps cs r
    unfold downs at ih ⊢
    rw [List.filter_cons]
    by_cases h : (!(below ps n).isEmpty) = true
    . rw [if_pos h, List.flatMap_cons, List.length_append, List.length_map, List.length_append]
      simp only [List.length_cons, List.length_nil, Nat.succ_mul] at ih ⊢
      omega
    . rw [if_neg h]
      simp only [List.length_cons, Nat.succ_mul] at ih ⊢
      omega
noncomputable def acrs (ns : List Str) : List (List Str) := ns.map λ n => (["across", n] : List Str)
noncomputable def sumsL (ps : List (Str × Str)) (cs : List Str) : List (List Str) := downs ps cs ("all" :: namesOf ps) ++ acrs ("all" :: rowsOf ps)
inductive SumIs (ps : List (Str × Str)) : List Str -> Prop where
  | down (n c : Str) (h : n ∈ keysB ps) : SumIs ps ["down", n, c]
  | across (n : Str) : SumIs ps ["across", n]
noncomputable def wholeL : List Str -> List Str
  | [_, n, c] => [n, c]
  | [_, n] => [n, "all"]
  | _ => []
noncomputable def othersL (ps : List (Str × Str)) (cs : List Str) : List Str -> List (List Str)
  | [_, n, c] => (below ps n).map λ m => [m, c]
  | [_, n] => cs.map λ c => [n, c]
  | _ => []
section
variable {cl : Addr}
noncomputable def sp_whole_of : Sp := λ vs H Q _ => ∃ (x : V) (t : Addr) (ps : List (Str × Str)) (l : List Str), vs = [x, .ref t] /\ H t = some (.tup (sts l)) /\ SumIs ps l /\ ∀ p H', Same H H' -> H p = none -> H' p = some (.tup (sts (wholeL l))) -> Q (.ref p) H'
noncomputable def t_whole_of : TS :=
  (tRet (tIfG (bT (tOp eqG (tOp getG (gv 1) (tC (.int 0))) (tC (.str "down")))) (tTupG (tCons (tOp getG (gv 1) (tC (.int 1))) (tCons (tOp getG (gv 1) (tC (.int 2))) tNil))) (tTupG (tCons (tOp getG (gv 1) (tC (.int 1))) (tCons (tC (.str "all")) tNil)))))
theorem r_whole_of {x : V} {t : Addr} {ps : List (Str × Str)} {l : List Str} {H : Hp} {D : Ends} (ht : H t = some (.tup (sts l))) (hl : SumIs ps l) (q : ∀ p H', Same H H' -> H p = none -> H' p = some (.tup (sts (wholeL l))) -> D.rt (.ref p) H') : t_whole_of D [some x, some (.ref t)] H := by
  cases hl with
  | down n c h =>
    refine getT_i ht (v := .str "down") rfl (br_t rfl ?_)
    exact getT_i ht (v := .str n) rfl (getT_i ht (v := .str c) rfl ⟨few rfl, new_i λ p G n1 s1 t1 => q p G s1 n1 t1⟩)
  | across n =>
    refine getT_i ht (v := .str "across") rfl (br_f (by decide +kernel) ?_)
    exact getT_i ht (v := .str n) rfl ⟨few rfl, new_i λ p G n1 s1 t1 => q p G s1 n1 t1⟩
noncomputable def sp_others_of (cl : Addr) : Sp := λ vs H Q _ => ∃ (x t : Addr) (ps : List (Str × Str)) (cs l : List Str), vs = [.ref x, .ref t] /\ HouseAt cl H x ps cs /\ H t = some (.tup (sts l)) /\ SumIs ps l /\ ∀ p zs H', Same H H' -> H p = none -> H' p = some (.lst zs) -> TupsAt H' zs (othersL ps cs l) -> Q (.ref p) H'
noncomputable def t_others_of (cl : Addr) : TS :=
  (tSeq (sIf (bT (tOp eqG (tOp getG (gv 1) (tC (.int 0))) (tC (.str "down"))))
    (tRet (tCompI (iOf iterG (tMethG cl "beneath" (sp_beneath cl) E0 (gv 0) (tCons (tOp getG (gv 1) (tC (.int 1))) tNil))) ["part"] [("one", 1)] (gName 0) tYes (tTupG (tCons (gv 0) (tCons (tOp getG (gv 1) (tC (.int 2))) tNil)))))
    tNext)
  (tRet (tCompI (iOf iterG (tMethG cl "columns" (sp_columns cl) E0 (gv 0) tNil)) ["column"] [("one", 1)] (gName 0) tYes (tTupG (tCons (tOp getG (gv 1) (tC (.int 1))) (tCons (gv 0) tNil))))))
theorem r_others_of {x t : Addr} {ps : List (Str × Str)} {cs l : List Str} {H : Hp} {D : Ends} (h : HouseAt cl H x ps cs) (ht : H t = some (.tup (sts l))) (hl : SumIs ps l) (q : ∀ p zs H', Same H H' -> H p = none -> H' p = some (.lst zs) -> TupsAt H' zs (othersL ps cs l) -> D.rt (.ref p) H') : t_others_of cl D [some (.ref x), some (.ref t)] H := by
  have hs := sz
  have g2 := h.good.many
  have h8 := h.many
  obtain ⟨_, _, _, _, dx, _, _, _, _, e1, _⟩ := id h
  cases hl with
  | down n c hn =>
    refine getT_i ht (v := .str "down") rfl (br_t rfl ?_)
    refine comp_i (meth_i e1 rfl (getT_i ht (v := .str n) rfl ⟨x, ps, cs, n, rfl, h, hn, λ b G1 s1 n1 t1 => ?_⟩))
    have lb := below_len ps n
    refine iterL_i t1 (comp_lt (tupF λ m => [m, c]) t1 (by simp; omega) ?_ ?_)
    . intro j w hw G9 k B s9 hk9 _
      obtain ⟨m, hm, rfl⟩ := sts_at hw
      exact br_t rfl (getT_i ((s1.trans s9) _ _ ht) (v := .str c) rfl ⟨few rfl, new_i λ t G10 n10 s10 t10 => hk9 _ rfl t G10 s10 t10⟩)
    intro pe ws G9 n9 s9 t9 pw
    rw [fm_tup] at pw
    exact q pe ws G9 (s1.trans s9) (s1.free n9) t9 pw
  | across n =>
    refine getT_i ht (v := .str "across") rfl (br_f (by decide +kernel) ?_)
    refine comp_i (meth_i e1 rfl ⟨x, ps, cs, rfl, h, λ b G1 s1 n1 t1 => ?_⟩)
    refine iterL_i t1 (comp_lt (tupF λ c => [n, c]) t1 (by simp; omega) ?_ ?_)
    . intro j w hw G9 k B s9 hk9 _
      obtain ⟨m, hm, rfl⟩ := sts_at hw
      exact br_t rfl (getT_i ((s1.trans s9) _ _ ht) (v := .str n) rfl ⟨few rfl, new_i λ t G10 n10 s10 t10 => hk9 _ rfl t G10 s10 t10⟩)
    intro pe ws G9 n9 s9 t9 pw
    rw [fm_tup] at pw
    exact q pe ws G9 (s1.trans s9) (s1.free n9) t9 pw
end
namespace S
section
variable {K : PySem.W.Frag}
noncomputable def t_law_names : TS :=
  (tSeq (tAsg (tC (.str "abcdefghijklmnopqrstuvwxyz")) (gName 2))
  (tSeq (tAsg (tOp addG (tC (.int 1)) (tOp modG (gv 0) (tC (.int 8)))) (gName 3))
  (tSeq (tAsg (tOp modG (tOp fdivG (gv 0) (tC (.int 8))) (gv 3)) (gName 4))
  (tSeq (tAsg (tLstG tNil) (gName 5))
  (tSeq (sFor (iRngG (tCons (gv 1) tNil)) (gName 6)
    (tSeq (tAsg (tC (.str "")) (gName 7))
    (tSeq (sFor (iRngG (tCons (gv 3) tNil)) (gName 8)
      (tSeq (tAsg (tOp mulG (tOp mulG (tC (.int 5)) (gv 6)) (tCB intG (tCons (tOp eqG (gv 8) (gv 4)) tNil))) (gName 9))
      (tAsg (tOp addG (gv 7) (tOp getG (gv 2) (tOp modG (tOp addG (tOp addG (tOp fdivG (gv 0) (tC (.int 64))) (tOp mulG (tOp mulG (tC (.int 7)) (gv 8)) (gv 8))) (gv 9)) (tC (.int 26))))) (gName 7))))
    (tDrop (tBmG "append" (gv 5) (tCons (gv 7) tNil))))))
  (tRet (gv 5)))))))
theorem abc_tab : ∀ j : Fin 26, ("abcdefghijklmnopqrstuvwxyz" : Str).cps.toList[j.val]? = some (97 + j.val) := by decide +kernel
theorem abc_at {i : Int} (h0 : 0 <= i) (h1 : i < 26) : atI ("abcdefghijklmnopqrstuvwxyz" : Str).cps.toList i = some (97 + i.toNat) := by
  obtain ⟨j, rfl⟩ : ∃ j : Nat, i = j := ⟨i.toNat, by omega⟩
  exact atI_nat (abc_tab ⟨j, by omega⟩)
noncomputable def sgn (c A : Int) (k j : Nat) : Nat := 97 + ((c / 64 + 7 * (0 + (j : Int)) * (0 + (j : Int)) + 5 * (0 + (k : Int)) * (if ((0 + (j : Int)) == A) = true then 1 else 0)) % 26).toNat
noncomputable def NameOf (c A : Int) (k n : Nat) (y : Str) : Prop := y.length = n /\ ∀ j : Nat, j < n -> y.cps.toList[j]? = some (sgn c A k j)
theorem sgn_low (c A : Int) (k j : Nat) : 97 <= sgn c A k j /\ sgn c A k j <= 122 := by
  unfold sgn
  generalize (c / 64 + 7 * (0 + (j : Int)) * (0 + (j : Int)) + 5 * (0 + (k : Int)) * (if ((0 + (j : Int)) == A) = true then 1 else 0)) = e
  omega
theorem all_cps : ("all" : Str).cps.toList = [97, 108, 108] := by decide +kernel
theorem NameOf.name {c A : Int} {k n : Nat} {y : Str} (h : NameOf c A k n y) (h0 : 0 <= A) (hA : A < n) (h8 : n <= 8) : nameB y = true := by
  have ha : y.cps.toList.all lowB = true := List.all_eq_true.mpr λ d hd => by
    obtain ⟨j, hj⟩ := List.mem_iff_getElem?.mp hd
    have hl := (List.getElem?_eq_some_iff.mp hj).1
    rw [list_len, h.1] at hl
    rw [h.2 j hl] at hj
    cases hj
    obtain ⟨h1, h2⟩ := sgn_low c A k j
    unfold lowB
    rw [decide_eq_true h1, decide_eq_true h2]
    rfl
  have hn : (y == ("all" : Str)) = false := beq_eq_false_iff_ne.mpr λ e => by
    have h3 : n = 3 := by
      rw [<- h.1, e]
      decide +kernel
    subst h3
    have e0 := h.2 0 (by omega)
    have e1 := h.2 1 (by omega)
    have e2 := h.2 2 (by omega)
    rw [e, all_cps] at e0 e1 e2
    simp only [List.getElem?_cons_zero, List.getElem?_cons_succ, Option.some.injEq, sgn] at e0 e1 e2
    have hc : A = 0 \/ A = 1 \/ A = 2 := by omega
    rcases hc with rfl | rfl | rfl
    . simp at e0 e1 e2
      omega
    . simp at e0 e1 e2
      omega
    . simp at e0 e1 e2
      omega
  unfold nameB
  rw [h.1, decide_eq_true (show 1 <= n by omega), decide_eq_true h8, ha, hn]
  rfl
theorem sgn_inj {c A : Int} {k k' : Nat} (h0 : 0 <= A) (hk : k < 24) (hk' : k' < 24) (e : sgn c A k A.toNat = sgn c A k' A.toNat) : k = k' := by
  unfold sgn at e
  have : (0 + ((A.toNat : Nat) : Int)) = A := by omega
  rw [this, beq_self_eq_true, if_pos rfl] at e
  generalize c / 64 + 7 * A * A = m at e
  omega
theorem r_law_names {c m : Int} {H : Hp} {D : Ends} (h0 : 0 <= m) (h24 : m <= 24) (q : ∀ p (zs : List Str) H', Same H H' -> H p = none -> H' p = some (.lst (sts zs)) -> (zs.length : Int) = m -> Nms zs -> D.rt (.ref p) H') :
    t_law_names D [some (.int c), some (.int m), none, none, none, none, none, none, none, none] H := by
  have hs := sz
  have hS : 1 <= 1 + c % 8 /\ 1 + c % 8 <= 8 := by omega
  refine ⟨by decide, ⟨by decide, by decide⟩, by omega, few rfl, new_i λ p G1 n1 s1 t1 => ?_⟩
  have a1 := Int.emod_nonneg (c / 8) (show 1 + c % 8 ≠ 0 by omega)
  have a2 := Int.emod_lt_of_pos (c / 8) (show 0 < 1 + c % 8 by omega)
  generalize e1 : c / 8 % (1 + c % 8) = A at *
  generalize e0 : 1 + c % 8 = S at *
  refine sFor_i ⟨⟨by omega, by omega⟩, ?_⟩
  refine loop_rng (λ i σ G => Same H G /\ (∃ zs : List Str, G p = some (.lst (sts zs)) /\ zs.length = i /\ ∀ (j : Nat) z, zs[j]? = some z -> NameOf c A j S.toNat z) /\ ∃ u v w x, σ = [some (.int c), some (.int m), some (.str "abcdefghijklmnopqrstuvwxyz"), some (.int S), some (.int A), some (.ref p), u, v, w, x]) ⟨s1, ⟨[], t1, rfl, λ j z e => by simp at e⟩, _, _, _, _, rfl⟩ ?_ ?_
  . rintro i σ G hi ⟨sm, ⟨zs, hg, hl, hz⟩, u, v, w, x, rfl⟩
    refine sFor_i ⟨⟨by omega, by omega⟩, ?_⟩
    refine loop_rng (λ j σ G' => G' = G /\ (∃ y : Str, NameOf c A i j y /\ ∃ w x, σ = [some (.int c), some (.int m), some (.str "abcdefghijklmnopqrstuvwxyz"), some (.int S), some (.int A), some (.ref p), some (.int (0 + i)), some (.str y), w, x])) ⟨rfl, "", ⟨rfl, λ j hj => by omega⟩, _, _, rfl⟩ ?_ ?_
    . rintro j σ G' hj ⟨rfl, y, hy, w, x, rfl⟩
      refine ⟨mul_small (by omega) (by omega), mul_small (by split <;> decide) (by split <;> decide), ⟨by decide, by decide⟩, mul_small (by omega) (by omega), mul_small (by omega) (by omega), by decide, ?_⟩
      have m1 := Int.emod_nonneg (c / 64 + 7 * (0 + (j : Int)) * (0 + (j : Int)) + 5 * (0 + (i : Int)) * (if ((0 + (j : Int)) == A) = true then 1 else 0)) (show (26 : Int) ≠ 0 by decide)
      have m2 := Int.emod_lt_of_pos (c / 64 + 7 * (0 + (j : Int)) * (0 + (j : Int)) + 5 * (0 + (i : Int)) * (if ((0 + (j : Int)) == A) = true then 1 else 0)) (show (0 : Int) < 26 by decide)
      refine getS_i (abc_at m1 m2) (by decide) ⟨?_, ?_⟩
      . show y.length + 1 <= sizeLine
        rw [hy.1]
        omega
      . refine ⟨rfl, _, ⟨?_, λ l hlt => ?_⟩, _, _, rfl⟩
        . rw [app_len, hy.1]
          rfl
        . rw [app_list]
          by_cases hlj : l < j
          . rw [List.getElem?_append_left (by rw [list_len, hy.1]; exact hlj)]
            exact hy.2 l hlj
          . have e : l = y.cps.toList.length := by rw [list_len, hy.1]; omega
            have e' : l = j := by rw [e, list_len, hy.1]
            rw [List.getElem?_append_right (by rw [<- e]; exact Nat.le_refl _), <- e, Nat.sub_self, e']
            rfl
    . rintro σ G' ⟨rfl, y, hy, w, x, rfl⟩
      refine app_i hg (app_at hg (by simp; omega) ⟨sm.put n1, ⟨zs ++ [y], by rw [upd_same, sts_snoc], by simp [hl], λ j z e => ?_⟩, _, _, _, _, rfl⟩)
      by_cases hj : j < zs.length
      . rw [List.getElem?_append_left hj] at e
        exact hz j z e
      . have hlt := (List.getElem?_eq_some_iff.mp e).1
        rw [List.length_append] at hlt
        have : j = zs.length := by simp at hlt; omega
        subst this
        simp at e
        subst e
        rw [hl]
        exact hy
  . rintro σ G ⟨sm, ⟨zs, hg, hl, hz⟩, u, v, w, x, rfl⟩
    refine q p zs G sm n1 hg (by omega) ⟨λ z hm => ?_, ?_⟩
    . obtain ⟨j, hj⟩ := List.mem_iff_getElem?.mp hm
      exact (hz j z hj).name a1 (by omega) (by omega)
    . refine List.pairwise_iff_getElem.mpr λ i j hi hj hlt e => ?_
      have z1 := (hz i zs[i] (by simp [hi])).2 A.toNat (by omega)
      have z2 := (hz j zs[j] (by simp [hj])).2 A.toNat (by omega)
      rw [e, z2] at z1
      injection z1 with z1
      have := sgn_inj a1 (by omega) (by omega) z1
      omega
noncomputable def tc_tail : TS := (tRet (tCall sp_law_names [] E0 (tCons (tOp fdivG (gv 1) (tC (.int 3))) (tCons (gv 2) tNil))))
noncomputable def t_law_columns (K : PySem.W.Frag) : TS :=
  (tSeq (tAsg (tCall (sp_law_cell_at K) [] E0 (tCons (gv 0) (tCons (tC (.int 2)) tNil))) (gName 1))
  (tSeq (tAsg (tOp addG (tC (.int 1)) (tOp modG (gv 1) (tC (.int 3)))) (gName 2))
  (tSeq (sIf (bT (tOp eqG (tOp modG (tOp fdivG (gv 1) (tC (.int 3))) (tC (.int 8))) (tC (.int 5))))
    (tAsg (tOp addG (tC (.int 1)) (tOp modG (tOp fdivG (gv 1) (tC (.int 24))) (tC (.int 8)))) (gName 2))
    tNext)
  tc_tail)))
theorem r_law_columns {a : Addr} {ns : List Int} {H : Hp} {D : Ends} (hS : SqL K H a (ns.map V.int)) (q : ∀ p (cs : List Str) H', Same H H' -> H p = none -> H' p = some (.lst (sts cs)) -> 1 <= cs.length -> cs.length <= 8 -> Nms cs -> D.rt (.ref p) H') : t_law_columns K D [some (.ref a), none, none] H := by
  refine ⟨a, ns, 2, rfl, hS, by decide, by decide, ⟨by decide, by decide⟩, by decide, ?_⟩
  generalize cellAt ns 2 = c
  have fin : ∀ m : Int, 1 <= m -> m <= 8 -> tc_tail D [some (.ref a), some (.int c), some (.int m)] H := λ m h1 h8 =>
    ⟨⟨by decide, by decide⟩, _, _, rfl, by omega, by omega, λ p zs G s n t hl hn => q p zs G s n t (by omega) (by omega) hn⟩
  refine br_of (λ h => ?_) (λ h => fin _ (by omega) (by omega))
  exact ⟨⟨by decide, by decide⟩, by decide, fin _ (by omega) (by omega)⟩
noncomputable def tp_fin : TS := (tDrop (tBmG "append" (gv 4) (tCons (tTupG (tCons (tOp getG (gv 3) (gv 5)) (tCons (gv 7) tNil))) tNil)))
noncomputable def tp_tail (K : PySem.W.Frag) : TS :=
  (tSeq (tAsg (tCall sp_law_names [] E0 (tCons (tCall (sp_law_cell_at K) [] E0 (tCons (gv 0) (tCons (tC (.int 1)) tNil))) (tCons (gv 2) tNil))) (gName 3))
  (tSeq (tAsg (tLstG tNil) (gName 4))
  (tSeq (sFor (iRngG (tCons (gv 2) tNil)) (gName 5)
    (tSeq (tAsg (tCall (sp_law_cell_at K) [] E0 (tCons (gv 0) (tCons (tOp addG (tC (.int 3)) (gv 5)) tNil))) (gName 6))
    (tSeq (tAsg (tC (.str "all")) (gName 7))
    (tSeq (sIf (tAndB (bT (tOp gtG (gv 5) (tC (.int 0)))) (bT (tOp gtG (tOp modG (gv 6) (tC (.int 3))) (tC (.int 0)))))
      (tAsg (tOp getG (gv 3) (tOp modG (tOp fdivG (gv 6) (tC (.int 3))) (gv 5))) (gName 7))
      tNext)
    tp_fin))))
  (tRet (gv 4)))))
noncomputable def t_law_parts (K : PySem.W.Frag) : TS :=
  (tSeq (tAsg (tCall (sp_law_cell_at K) [] E0 (tCons (gv 0) (tCons (tC (.int 0)) tNil))) (gName 1))
  (tSeq (tAsg (tOp addG (tC (.int 1)) (tOp modG (gv 1) (tC (.int 6)))) (gName 2))
  (tSeq (sIf (bT (tOp eqG (tOp modG (tOp fdivG (gv 1) (tC (.int 6))) (tC (.int 8))) (tC (.int 5))))
    (tAsg (tOp addG (tC (.int 1)) (tOp modG (tOp fdivG (gv 1) (tC (.int 48))) (tC (.int 24)))) (gName 2))
    tNext)
  (tp_tail K))))
theorem r_parts_tail {a : Addr} {ns : List Int} {c m : Int} {H : Hp} {D : Ends} (h1 : 1 <= m) (h24 : m <= 24) (hS : SqL K H a (ns.map V.int)) (q : ∀ l (xs : List V) (ps : List (Str × Str)) H', Same H H' -> H l = none -> H' l = some (.lst xs) -> PairsAt H' xs ps -> Good ps -> D.rt (.ref l) H') :
    tp_tail K D [some (.ref a), some (.int c), some (.int m), none, none, none, none, none] H := by
  have hs := sz
  refine ⟨a, ns, 1, rfl, hS, by decide, _, _, rfl, by omega, by omega, λ p zs G1 s1 n1 t1 zl hn => ⟨few rfl, new_i λ l G2 n2 s2 t2 => ?_⟩⟩
  have nl : H l = none := s1.free n2
  have npl : p ≠ l := λ z => by rw [z, n2] at t1; cases t1
  refine sFor_i ⟨⟨by omega, by omega⟩, ?_⟩
  refine loop_rng (λ i σ G => (Same H G /\ G p = some (.lst (sts zs))) /\ (∃ xs qs, G l = some (.lst xs) /\ PairsAt G xs qs /\ qs.length = i /\ qs.map (·.1) = zs.take i /\ ∀ (j : Nat) r, qs[j]? = some r -> r.2 = "all" \/ r.2 ∈ zs.take j) /\ ∃ u v w, σ = [some (.ref a), some (.int c), some (.int m), some (.ref p), some (.ref l), u, v, w])
    ⟨⟨s1.trans s2, s2 _ _ t1⟩, ⟨[], [], t2, .nil, rfl, by simp, λ j r e => by simp at e⟩, _, _, _, rfl⟩ ?_ ?_
  . rintro i σ G hi ⟨⟨sm, hp⟩, ⟨xs, qs, hg, pa, ql, qn, qa⟩, u, v, w, rfl⟩
    have hi2 : i < zs.length := by omega
    have hzi : zs[i]? = some zs[i] := by simp [hi2]
    refine ⟨a, ns, 3 + (0 + i), rfl, sm.seq hS, by omega, ?_⟩
    generalize cellAt ns (3 + (0 + ↑i)) = d
    have fin : ∀ (b : Str) (D' : Ends), (b = "all" \/ b ∈ zs.take i) -> (D'.nx = λ σ G => (Same H G /\ G p = some (.lst (sts zs))) /\ (∃ xs qs, G l = some (.lst xs) /\ PairsAt G xs qs /\ qs.length = i + 1 /\ qs.map (·.1) = zs.take (i + 1) /\ ∀ (j : Nat) r, qs[j]? = some r -> r.2 = "all" \/ r.2 ∈ zs.take j) /\ ∃ u v w, σ = [some (.ref a), some (.int c), some (.int m), some (.ref p), some (.ref l), u, v, w]) →
        tp_fin D' [some (.ref a), some (.int c), some (.int m), some (.ref p), some (.ref l), some (.int (0 + i)), some (.int d), some (.str b)] G := by
      intro b D' hb hD
      refine app_i hg (getL_i hp (by rw [Int.zero_add]; exact atS hzi) ⟨few rfl, new_i λ t G6 n6 s6 t6 => app_at (s6 _ _ hg) ?_ ?_⟩)
      . rw [pa.1, ql]
        omega
      . rw [hD]
        refine ⟨⟨(sm.trans s6).put nl, by rw [upd_ne npl]; exact s6 _ _ hp⟩, ⟨_, qs ++ [(zs[i], b)], upd_same, ((pa.same s6).snoc t6).put (s6 _ _ hg), by simp [ql], by rw [List.map_append, qn, take_snoc hzi]; rfl, λ j r e => ?_⟩, _, _, _, rfl⟩
        by_cases hj : j < qs.length
        . rw [List.getElem?_append_left hj] at e
          exact qa j r e
        . have hlt := (List.getElem?_eq_some_iff.mp e).1
          rw [List.length_append] at hlt
          have : j = qs.length := by simp at hlt; omega
          subst this
          simp at e
          subst e
          rw [ql]
          exact hb
    refine br_dec (λ hk => ⟨by decide, ?_⟩) (λ hk => br_f rfl (fin "all" _ (.inl rfl) rfl))
    refine br_dec (λ hd => ?_) (λ hd => fin "all" _ (.inl rfl) rfl)
    have w1 := Int.emod_nonneg (d / 3) (show (0 + (i : Int)) ≠ 0 by omega)
    have w2 := Int.emod_lt_of_pos (d / 3) (show 0 < (0 + (i : Int)) by omega)
    refine ⟨⟨by decide, by decide⟩, by omega, ?_⟩
    obtain ⟨j, hj⟩ : ∃ j : Nat, d / 3 % (0 + (i : Int)) = j := ⟨(d / 3 % (0 + (i : Int))).toNat, by omega⟩
    rw [hj] at w1 w2 ⊢
    have hjl : j < zs.length := by omega
    refine getL_i hp (atS (z := zs[j]) (by simp [hjl])) (fin zs[j] _ (.inr ?_) rfl)
    refine List.mem_iff_getElem?.mpr ⟨j, ?_⟩
    rw [List.getElem?_take_of_lt (by omega)]
    simp [hjl]
  . rintro σ G ⟨⟨sm, hp⟩, ⟨xs, qs, hg, pa, ql, qn, qa⟩, u, v, w, rfl⟩
    have hlz : zs.length = m.toNat := by omega
    have e0 : (m - 0).toNat = m.toNat := by simp
    first | rw [<- hlz, List.take_length] at qn | rw [e0, <- hlz, List.take_length] at qn
    refine q l xs qs G sm nl hg pa ⟨by omega, by omega, by rw [qn]; exact hn, λ i r e => ?_⟩
    rw [List.map_take, qn]
    exact qa i r e
theorem r_law_parts {a : Addr} {ns : List Int} {H : Hp} {D : Ends} (hS : SqL K H a (ns.map V.int)) (q : ∀ l (xs : List V) (ps : List (Str × Str)) H', Same H H' -> H l = none -> H' l = some (.lst xs) -> PairsAt H' xs ps -> Good ps -> D.rt (.ref l) H') :
    t_law_parts K D [some (.ref a), none, none, none, none, none, none, none] H := by
  refine ⟨a, ns, 0, rfl, hS, by decide, by decide, ⟨by decide, by decide⟩, by decide, ?_⟩
  refine br_of (λ h => ?_) (λ h => r_parts_tail (by omega) (by omega) hS q)
  exact ⟨⟨by decide, by decide⟩, by decide, r_parts_tail (by omega) (by omega) hS q⟩
noncomputable def sp_law_rows : Sp := λ vs H Q _ => ∃ (a : Addr) (xs : List V) (ps : List (Str × Str)), vs = [.ref a] /\ H a = some (.lst xs) /\ PairsAt H xs ps /\ ps.length <= 24 /\ ∀ p H', Same H H' -> H p = none -> H' p = some (.lst (sts (rowsOf ps))) -> Q (.ref p) H'
noncomputable def t_law_rows : TS :=
  (tSeq (tAsg (tCompI (iOf iterG (gv 0)) ["_law_name", "_law_above"] [] (gTup0 2 (gCons (gName 0) (gCons (gName 1) gNil))) tYes (gv 1)) (gName 1))
  (tRet (tCompI (iOf iterG (gv 0)) ["_law_name", "_law_above"] [("_law_tops", 1)] (gTup0 2 (gCons (gName 0) (gCons (gName 1) gNil))) (bT (tOp (inG true) (gv 0) (gv 2))) (gv 0))))
theorem r_law_rows {a : Addr} {xs : List V} {ps : List (Str × Str)} {H : Hp} {D : Ends} (ha : H a = some (.lst xs)) (pa : PairsAt H xs ps) (hl : ps.length <= 24) (q : ∀ p H', Same H H' -> H p = none -> H' p = some (.lst (sts (rowsOf ps))) -> D.rt (.ref p) H') : t_law_rows D [some (.ref a), none] H := by
  have hs := sz
  refine comp_i (iterL_i ha (comp_l (sndOf H) ha (by rw [pa.1]; omega) ?_ ?_))
  . intro i z hz G k sm hk
    obtain ⟨r, t, hr, rfl, ht⟩ := pa.at hz
    rw [snd_at ht] at hk
    exact ⟨t, _, rfl, .inl (sm _ _ ht), rfl, _, _, rfl, _, _, rfl, rfl, br_t rfl hk⟩
  intro po G1 n1 s1 t1
  rw [pa.snds] at t1
  refine comp_i (iterL_i (s1 _ _ ha) (comp_l (lrowF H (ps.map (·.2))) (s1 _ _ ha) (by rw [pa.1]; omega) ?_ ?_))
  . intro i z hz G k sm hk
    obtain ⟨r, t, hr, rfl, ht⟩ := pa.at hz
    rw [lrowF_at ht] at hk
    refine ⟨t, _, rfl, .inl (sm _ _ (s1 _ _ ht)), rfl, _, _, rfl, _, _, rfl, rfl, inS_i (sm _ _ t1) ?_⟩
    refine br_of (λ b => ?_) (λ b => ?_)
    . have b : (!decide (r.1 ∈ ps.map (·.2))) = true := by rw [<- b, Bool.true_xor]
      have b : r.1 ∉ ps.map (·.2) := by simpa using b
      rw [if_neg b] at hk
      exact hk
    . have b : (!decide (r.1 ∈ ps.map (·.2))) = false := by rw [<- b, Bool.true_xor]
      have b : r.1 ∈ ps.map (·.2) := by simpa using b
      rw [if_pos b] at hk
      exact hk
  intro pr G2 n2 s2 t2
  rw [lrows pa] at t2
  rw [rows_eq] at t2
  exact q pr G2 (s1.trans s2) (s1.free n2) t2
noncomputable def sp_law_sums : Sp := λ vs H Q _ => ∃ (a c : Addr) (xs : List V) (ps : List (Str × Str)) (cs : List Str), vs = [.ref a, .ref c] /\ H a = some (.lst xs) /\ PairsAt H xs ps /\ Good ps /\ H c = some (.lst (sts cs)) /\ cs.length <= 8 /\ ∀ p zs H', Same H H' -> H p = none -> H' p = some (.lst zs) -> TupsAt H' zs (sumsL ps cs) -> Q (.ref p) H'
noncomputable def t_law_sums : TS :=
  (tSeq (tAsg (tCall sp_law_rows [] E0 (tCons (gv 0) tNil)) (gName 2))
  (tSeq (tAsg (tLstG tNil) (gName 3))
  (tSeq (sFor (iOf iterG (tOp addG (tLstG (tCons (tC (.str "all")) tNil)) (tCompI (iOf iterG (gv 0)) ["_law_name", "_law_above"] [] (gTup0 2 (gCons (gName 0) (gCons (gName 1) gNil))) tYes (gv 0)))) (gName 4)
    (sIf (bT (tOp (inG true) (gv 4) (gv 2)))
      (sFor (iOf iterG (tOp addG (gv 1) (tLstG (tCons (tC (.str "all")) tNil)))) (gName 5)
        (tDrop (tBmG "append" (gv 3) (tCons (tTupG (tCons (tC (.str "down")) (tCons (gv 4) (tCons (gv 5) tNil)))) tNil))))
      tNext))
  (tSeq (sFor (iOf iterG (tOp addG (tLstG (tCons (tC (.str "all")) tNil)) (gv 2))) (gName 4)
    (tDrop (tBmG "append" (gv 3) (tCons (tTupG (tCons (tC (.str "across")) (tCons (gv 4) tNil))) tNil))))
  (tRet (gv 3))))))
theorem not_row {ps : List (Str × Str)} (g : Good ps) {n : Str} (h : n ∈ keysB ps) : decide (n ∈ rowsOf ps) = (below ps n).isEmpty := by
  unfold keysB at h
  rcases List.mem_cons.mp h with rfl | h
  . have h1 : ("all" : Str) ∉ rowsOf ps := λ m => by
      have := (List.mem_filter.mp m).1
      exact (nameB_at (g.nms.1 _ this)).2.2 rfl
    rw [decide_eq_false h1, below_nil]
    have g1 := g.one
    have hq := g.abv 0 ps[0] (by simp)
    simp only [List.take_zero, List.map_nil, List.not_mem_nil, or_false] at hq
    have : ("all" : Str) ∈ ps.map (·.2) := List.mem_map.mpr ⟨ps[0], List.getElem_mem _, hq⟩
    rw [decide_eq_true this]
    rfl
  . unfold rowsOf namesOf
    by_cases hb : (below ps n).isEmpty = true
    . rw [hb, decide_eq_true (List.mem_filter.mpr ⟨h, hb⟩)]
    . have hb' : (below ps n).isEmpty = false := by simpa using hb
      rw [hb']
      exact decide_eq_false λ m => hb (by simpa using (List.mem_filter.mp m).2)
theorem r_law_sums {a c : Addr} {xs : List V} {ps : List (Str × Str)} {cs : List Str} {H : Hp} {D : Ends} (ha : H a = some (.lst xs)) (pa : PairsAt H xs ps) (g : Good ps) (hc : H c = some (.lst (sts cs))) (h8 : cs.length <= 8) (q : ∀ p zs H', Same H H' -> H p = none -> H' p = some (.lst zs) -> TupsAt H' zs (sumsL ps cs) -> D.rt (.ref p) H') :
    t_law_sums D [some (.ref a), some (.ref c), none, none, none, none] H := by
  have hs := sz
  have g2 := g.many
  have ln : (namesOf ps).length = ps.length := List.length_map ..
  have lr := rows_len (ps := ps)
  refine ⟨a, xs, ps, rfl, ha, pa, g2, λ pr G1 s1 n1 t1 => ⟨few rfl, new_i λ p G2 n2 s2 t2 => ?_⟩⟩
  have s12 := s1.trans s2
  have np : H p = none := s1.free n2
  refine sFor_i ⟨few rfl, new_i λ r1 G3 n3 s3 t3 => comp_i (iterL_i ((s12.trans s3) _ _ ha) (comp_l (fstOf H) ((s12.trans s3) _ _ ha) (by rw [pa.1]; omega) ?_ ?_))⟩
  . intro i z hz G k sm hk
    obtain ⟨r, t, hr, rfl, ht⟩ := pa.at hz
    rw [fst_at ht] at hk
    exact ⟨t, _, rfl, .inl (sm _ _ ((s12.trans s3) _ _ ht)), rfl, _, _, rfl, _, _, rfl, rfl, br_t rfl hk⟩
  intro r2 G4 n4 s4 t4
  rw [pa.fsts] at t4
  refine addL_i (s4 _ _ t3) t4 (by simp; omega) (new_i λ r3 G5 n5 s5 t5 => ?_)
  have e5 : ([V.str "all"] ++ sts (ps.map (·.1))) = sts ("all" :: namesOf ps) := rfl
  rw [e5] at t5
  have s25 := (s3.trans s4).trans s5
  have nr : r3 ≠ p := λ z => by rw [z, (s3.trans s4) _ _ t2] at n5; cases n5
  have nrp : pr ≠ p := λ z => by rw [z, n2] at t1; cases t1
  refine iterL_i t5 (loop_lst (xs := sts ("all" :: namesOf ps)) (λ i σ G => (Same H G /\ G r3 = some (.lst (sts ("all" :: namesOf ps))) /\ G pr = some (.lst (sts (rowsOf ps)))) /\ (∃ zs, G p = some (.lst zs) /\ TupsAt G zs (downs ps cs ((("all" : Str) :: namesOf ps).take i))) /\ ∃ u v, σ = [some (.ref a), some (.ref c), some (.ref pr), some (.ref p), u, v])
    ⟨⟨s12.trans s25, t5, (s2.trans s25) _ _ t1⟩, ⟨_, s25 _ _ t2, .nil⟩, _, _, rfl⟩ (λ i σ G _ h => h.1.2.1) ?_ ?_)
  . rintro i y σ G hy ⟨⟨sm, hr, hpr⟩, ⟨zs, hg, pz⟩, u, v, rfl⟩
    obtain ⟨z, hz, rfl⟩ := sts_at hy
    have hi := (List.getElem?_eq_some_iff.mp hz).1
    have hk : z ∈ keysB ps := List.mem_of_getElem? hz
    have lz : zs.length <= 25 * 9 := by
      rw [pz.1]
      refine Nat.le_trans (downs_len ..) (Nat.mul_le_mul ?_ (by omega))
      rw [List.length_take, List.length_cons]
      omega
    refine inS_i hpr ?_
    rw [not_row g hk, Bool.true_xor]
    refine br_of (λ hb => ?_) (λ hb => ?_)
    . have hb : (below ps z).isEmpty = false := by simpa using hb
      refine sFor_i ⟨few rfl, new_i λ c1 G6 n6 s6 t6 => addL_i ((sm.trans s6) _ _ hc) t6 (by simp; omega) (new_i λ c2 G7 n7 s7 t7 => ?_)⟩
      rw [sts_snoc] at t7
      have s67 := s6.trans s7
      have nc2 : c2 ≠ p := λ z => by rw [z, s6 _ _ hg] at n7; cases n7
      refine iterL_i t7 (loop_lst (xs := sts (cs ++ [("all" : Str)])) (λ j σ G => (Same H G /\ G r3 = some (.lst (sts ("all" :: namesOf ps))) /\ G pr = some (.lst (sts (rowsOf ps))) /\ G c2 = some (.lst (sts (cs ++ [("all" : Str)])))) /\ (∃ zs, G p = some (.lst zs) /\ TupsAt G zs (downs ps cs ((("all" : Str) :: namesOf ps).take i) ++ ((cs ++ [("all" : Str)]).take j).map λ c => (["down", z, c] : List Str))) /\ ∃ v, σ = [some (.ref a), some (.ref c), some (.ref pr), some (.ref p), some (.str z), v])
        ⟨⟨sm.trans s67, s67 _ _ hr, s67 _ _ hpr, t7⟩, ⟨zs, s67 _ _ hg, by simpa using pz.same s67⟩, _, rfl⟩ (λ i σ G _ h => h.1.2.2.2) ?_ ?_)
      . rintro j y0 σ G hy0 ⟨⟨sm, hr, hpr, hc2⟩, ⟨zs, hg, pz⟩, v, rfl⟩
        obtain ⟨y, hy, rfl⟩ := sts_at hy0
        refine app_i hg ⟨few rfl, new_i λ t G9 n9 s9 t9 => ?_⟩
        have lz : zs.length <= 25 * 9 + 9 := by
          rw [pz.1, List.length_append, List.length_map, List.length_take]
          have := downs_len ps cs ((("all" : Str) :: namesOf ps).take i)
          have h2 : ((("all" : Str) :: namesOf ps).take i).length * (cs.length + 1) <= 25 * 9 := Nat.mul_le_mul (by rw [List.length_take, List.length_cons]; omega) (by omega)
          have h3 : (cs ++ [("all" : Str)]).length <= 9 := by simp; omega
          omega
        refine app_at (s9 _ _ hg) (by omega) ⟨⟨(sm.trans s9).put np, by rw [upd_ne nr]; exact s9 _ _ hr, by rw [upd_ne nrp]; exact s9 _ _ hpr, by rw [upd_ne nc2]; exact s9 _ _ hc2⟩, ⟨_, upd_same, ?_⟩, _, rfl⟩
        rw [take_snoc hy, List.map_append, <- List.append_assoc]
        exact ((pz.same s9).snoc (l := ["down", z, y]) t9).put (s9 _ _ hg)
      . rintro σ G ⟨⟨sm, hr, hpr, hc2⟩, ⟨zs, hg, pz⟩, v, rfl⟩
        rw [show (sts (cs ++ [("all" : Str)])).length = (cs ++ [("all" : Str)]).length from List.length_map .., List.take_length] at pz
        refine ⟨⟨sm, hr, hpr⟩, ⟨zs, hg, ?_⟩, _, _, rfl⟩
        rw [take_snoc hz, downs_snoc, hb]
        exact pz
    . have hb : (below ps z).isEmpty = true := by simpa using hb
      refine ⟨⟨sm, hr, hpr⟩, ⟨zs, hg, ?_⟩, _, _, rfl⟩
      rw [take_snoc hz, downs_snoc, hb]
      simpa using pz
  . rintro σ G ⟨⟨sm, hr, hpr⟩, ⟨zs, hg, pz⟩, u, v, rfl⟩
    rw [show (sts ("all" :: namesOf ps)).length = (("all" : Str) :: namesOf ps).length from List.length_map .., List.take_length] at pz
    refine sFor_i ⟨few rfl, new_i λ c1 G6 n6 s6 t6 => addL_i t6 (s6 _ _ hpr) (by simp; omega) (new_i λ c2 G7 n7 s7 t7 => ?_)⟩
    have e7 : ([V.str "all"] ++ sts (rowsOf ps)) = sts ("all" :: rowsOf ps) := rfl
    rw [e7] at t7
    have s67 := s6.trans s7
    have nc2 : c2 ≠ p := λ z => by rw [z, s6 _ _ hg] at n7; cases n7
    refine iterL_i t7 (loop_lst (xs := sts ("all" :: rowsOf ps)) (λ j σ G => (Same H G /\ G c2 = some (.lst (sts ("all" :: rowsOf ps)))) /\ (∃ zs, G p = some (.lst zs) /\ TupsAt G zs (downs ps cs ("all" :: namesOf ps) ++ acrs ((("all" : Str) :: rowsOf ps).take j))) /\ ∃ u v, σ = [some (.ref a), some (.ref c), some (.ref pr), some (.ref p), u, v])
      ⟨⟨sm.trans s67, t7⟩, ⟨zs, s67 _ _ hg, by simpa [acrs] using pz.same s67⟩, _, _, rfl⟩ (λ i σ G _ h => h.1.2) ?_ ?_)
    . rintro j y0 σ G hy0 ⟨⟨sm, hc2⟩, ⟨zs, hg, pz⟩, u, v, rfl⟩
      obtain ⟨y, hy, rfl⟩ := sts_at hy0
      refine app_i hg ⟨few rfl, new_i λ t G9 n9 s9 t9 => ?_⟩
      have lz : zs.length <= 25 * 9 + 25 := by
        rw [pz.1, List.length_append, acrs, List.length_map, List.length_take]
        have := downs_len ps cs ("all" :: namesOf ps)
        have h2 : (("all" : Str) :: namesOf ps).length * (cs.length + 1) <= 25 * 9 := Nat.mul_le_mul (by rw [List.length_cons]; omega) (by omega)
        have h3 : (("all" : Str) :: rowsOf ps).length <= 25 := by simp; omega
        omega
      refine app_at (s9 _ _ hg) (by omega) ⟨⟨(sm.trans s9).put np, by rw [upd_ne nc2]; exact s9 _ _ hc2⟩, ⟨_, upd_same, ?_⟩, _, _, rfl⟩
      rw [take_snoc hy, acrs, List.map_append, <- List.append_assoc]
      exact ((pz.same s9).snoc (l := ["across", y]) t9).put (s9 _ _ hg)
    . rintro σ G ⟨⟨sm, hc2⟩, ⟨zs, hg, pz⟩, u, v, rfl⟩
      rw [show (sts ("all" :: rowsOf ps)).length = (("all" : Str) :: rowsOf ps).length from List.length_map .., List.take_length] at pz
      exact q p zs G sm np hg pz
end
end S
end Tv
namespace Tv
namespace A
noncomputable def sg {α : Type} : List α -> (α -> Int) -> Int
  | [], _ => 0
  | x :: r, f => f x + sg r f
section
variable {α β : Type}
theorem sg_append (l m : List α) (f : α -> Int) : sg (l ++ m) f = sg l f + sg m f := by
  induction l with
  | nil => simp [sg]
  | cons x r ih => simp only [List.cons_append, sg, ih]; omega
theorem sg_congr {l : List α} {f g : α -> Int} (h : ∀ x ∈ l, f x = g x) : sg l f = sg l g := by
  induction l with
  | nil => rfl
  | cons x r ih => simp only [sg]; rw [h x (by simp), ih λ y hy => h y (by simp [hy])]
theorem sg_map (l : List β) (k : β -> α) (f : α -> Int) : sg (l.map k) f = sg l λ x => f (k x) := by
  induction l with
  | nil => rfl
  | cons x r ih => simp only [List.map_cons, sg, ih]
theorem sg_zero (l : List α) : sg l (λ _ => 0) = 0 := by
  induction l with
  | nil => rfl
  | cons x r ih => simp only [sg, ih]; omega
theorem sg_zero' {l : List α} {f : α -> Int} (h : ∀ x ∈ l, f x = 0) : sg l f = 0 := by rw [sg_congr h, sg_zero]
theorem sg_add (l : List α) (f g : α -> Int) : sg l (λ x => f x + g x) = sg l f + sg l g := by
  induction l with
  | nil => rfl
  | cons x r ih => simp only [sg, ih]; omega
theorem sg_mul (l : List α) (k : Int) (f : α -> Int) : sg l (λ x => k * f x) = k * sg l f := by
  induction l with
  | nil => simp [sg]
  | cons x r ih => simp only [sg, ih, Int.mul_add]
theorem sg_swap (l : List α) (m : List β) (f : α -> β -> Int) : sg l (λ x => sg m λ y => f x y) = sg m λ y => sg l λ x => f x y := by
  induction l with
  | nil => simp only [sg]; rw [sg_zero]
  | cons x r ih => simp only [sg]; rw [ih, sg_add]
theorem sg_one [DecidableEq α] {l : List α} (hd : l.Nodup) {a : α} (ha : a ∈ l) (k : Int) : sg l (λ x => if x = a then k else 0) = k := by
  induction l with
  | nil => cases ha
  | cons x r ih =>
    rw [List.nodup_cons] at hd
    simp only [sg]
    rcases List.mem_cons.mp ha with rfl | h
    . rw [if_pos rfl, sg_zero' λ y hy => if_neg λ (e : y = a) => hd.1 (e ▸ hy)]; omega
    . rw [if_neg λ (e : x = a) => hd.1 (e ▸ h), ih hd.2 h]; omega
theorem sg_none [DecidableEq α] {l : List α} {a : α} (ha : a ∉ l) (k : Int) : sg l (λ x => if x = a then k else 0) = 0 := sg_zero' λ x hx => if_neg λ (e : x = a) => ha (e ▸ hx)
theorem sg_filter (l : List α) (p : α -> Bool) (f : α -> Int) (h : ∀ x ∈ l, p x = false -> f x = 0) : sg (l.filter p) f = sg l f := by
  induction l with
  | nil => rfl
  | cons x r ih =>
    have ih := ih λ y hy => h y (by simp [hy])
    rw [List.filter_cons]
    by_cases e : p x = true
    . rw [if_pos e]; simp only [sg, ih]
    . rw [if_neg e]; simp only [sg, ih]
      rw [h x (by simp) (by simpa using e)]; omega
end
inductive Sm (S : Type) where
  | dn (n c : S)
  | ac (n : S)
deriving DecidableEq
section
variable {S : Type} [BEq S] [LawfulBEq S] [DecidableEq S]
noncomputable def bel (ps : List (S × S)) (k : S) : List S := (ps.filter λ q => q.2 == k).map (·.1)
theorem mem_bel {ps : List (S × S)} {k m : S} : m ∈ bel ps k ↔ (m, k) ∈ ps := by
  unfold bel
  rw [List.mem_map]
  constructor
  . rintro ⟨q, hq, rfl⟩
    obtain ⟨h1, h2⟩ := List.mem_filter.mp hq
    have := eq_of_beq h2
    subst this
    exact h1
  . intro h
    exact ⟨(m, k), List.mem_filter.mpr ⟨h, by simp⟩, rfl⟩
structure Gd (al : S) (ps : List (S × S)) : Prop where
  one : 1 <= ps.length
  nd : (al :: ps.map (·.1)).Nodup
  abv : ∀ (i : Nat) q, ps[i]? = some q -> q.2 = al \/ q.2 ∈ (ps.take i).map (·.1)
variable {al : S} {ps : List (S × S)} {cs : List S}
theorem Gd.uniq (g : Gd al ps) {m k k' : S} (h : (m, k) ∈ ps) (h' : (m, k') ∈ ps) : k = k' := by
  have nd := (List.nodup_cons.mp g.nd).2
  obtain ⟨i, hi⟩ := List.mem_iff_getElem?.mp h
  obtain ⟨j, hj⟩ := List.mem_iff_getElem?.mp h'
  have hi1 := (List.getElem?_eq_some_iff.mp hi).1
  have hj1 := (List.getElem?_eq_some_iff.mp hj).1
  have e : i = j := by
    refine (List.getElem?_inj (l := ps.map (·.1)) (by simpa using hi1) nd).mp ?_
    rw [List.getElem?_map, List.getElem?_map, hi, hj]; rfl
  subst e
  rw [hi] at hj
  cases hj; rfl
theorem Gd.above_in (g : Gd al ps) {m k : S} (h : (m, k) ∈ ps) : k = al \/ k ∈ ps.map (·.1) := by
  obtain ⟨i, hi⟩ := List.mem_iff_getElem?.mp h
  rcases g.abv i _ hi with e | e
  . exact .inl e
  . obtain ⟨q, hq, e⟩ := List.mem_map.mp e
    exact .inr (List.mem_map.mpr ⟨q, List.mem_of_mem_take hq, e⟩)
theorem Gd.not_self (g : Gd al ps) {m : S} (h : (m, m) ∈ ps) : False := by
  have nd := List.nodup_cons.mp g.nd
  obtain ⟨i, hi⟩ := List.mem_iff_getElem?.mp h
  rcases g.abv i _ hi with e | e
  . simp only at e
    exact nd.1 (List.mem_map.mpr ⟨_, h, e⟩)
  . obtain ⟨q, hq, e⟩ := List.mem_map.mp e
    obtain ⟨j, hj⟩ := List.mem_iff_getElem?.mp hq
    have hjl := (List.getElem?_eq_some_iff.mp hj).1
    rw [List.length_take] at hjl
    rw [List.getElem?_take_of_lt (by omega)] at hj
    have hi1 := (List.getElem?_eq_some_iff.mp hi).1
    have : j = i := (List.getElem?_inj (l := ps.map (·.1)) (by simp; omega) nd.2).mp (by rw [List.getElem?_map, List.getElem?_map, hi, hj]; simp [e])
    omega
theorem Gd.al_above (g : Gd al ps) : bel ps al ≠ [] := λ e => by
  have g1 := g.one
  have hq := g.abv 0 ps[0] (by simp)
  simp only [List.take_zero, List.map_nil, List.not_mem_nil, or_false] at hq
  have : ps[0].1 ∈ bel ps al := mem_bel.mpr (by
    have : (ps[0].1, al) = ps[0] := by rw [<- hq]
    rw [this]
    exact List.getElem_mem _)
  rw [e] at this
  cases this
theorem Gd.bel_nd (g : Gd al ps) (k : S) : (bel ps k).Nodup := by
  have nd := (List.nodup_cons.mp g.nd).2
  unfold bel
  exact nd.sublist (List.Sublist.map _ List.filter_sublist)
noncomputable def give (al : S) (ps : List (S × S)) (cs : List S) : Sm S -> List ((S × S) × Int)
  | .dn n c => ((n, c), if c = al then -1 else 1) :: (bel ps n).map λ m => ((m, c), -(if c = al then -1 else 1))
  | .ac n => ((n, al), if n = al then 1 else -1) :: cs.map λ c => ((n, c), -(if n = al then 1 else -1))
noncomputable def tot (l : List ((S × S) × Int)) (a b : S) : Int := sg l λ p => if p.1 = (a, b) then p.2 else 0
inductive IsSm (al : S) (ps : List (S × S)) (cs : List S) : Sm S -> Prop where
  | dn (n c : S) (hn : n = al \/ n ∈ ps.map (·.1)) (hb : bel ps n ≠ []) (hc : c = al \/ c ∈ cs) : IsSm al ps cs (.dn n c)
  | ac (n : S) (hn : n = al \/ (n ∈ ps.map (·.1) /\ bel ps n = [])) : IsSm al ps cs (.ac n)
theorem tot_dn (g : Gd al ps) (n c a b : S) : tot (give al ps cs (.dn n c)) a b = if b = c then (if a = n then (if c = al then -1 else 1) else if (a, n) ∈ ps then -(if c = al then -1 else 1) else 0) else 0 := by
  unfold tot give
  simp only [sg]
  rw [sg_map]
  generalize hs : (if c = al then (-1 : Int) else 1) = s
  by_cases hb : b = c
  . subst hb
    rw [if_pos rfl]
    by_cases ha : a = n
    . subst ha
      rw [if_pos rfl, if_pos rfl, sg_zero' λ m hm => ?_]
      . omega
      . simp only [Prod.mk.injEq, and_true]
        rw [if_neg]
        rintro rfl
        exact g.not_self (mem_bel.mp hm)
    . rw [if_neg ha, if_neg (show ¬ (n, b) = (a, b) by simp [Ne.symm ha])]
      have e : (λ m => if ((m, b), -s).1 = (a, b) then ((m, b), -s).2 else 0) = λ m : S => if m = a then -s else 0 := by
        funext m
        simp
      rw [e]
      by_cases hm : (a, n) ∈ ps
      . rw [if_pos hm, sg_one (g.bel_nd n) (mem_bel.mpr hm)]; omega
      . rw [if_neg hm, sg_none λ h => hm (mem_bel.mp h)]; omega
  . rw [if_neg hb, if_neg (by simp [Ne.symm hb]), sg_zero' λ m hm => if_neg (by simp [Ne.symm hb])]
    rfl
theorem tot_ac (hc : (cs ++ [al]).Nodup) (n a b : S) : tot (give al ps cs (.ac n)) a b = if a = n then (if b = al then (if n = al then 1 else -1) else if b ∈ cs then -(if n = al then 1 else -1) else 0) else 0 := by
  unfold tot give
  simp only [sg]
  rw [sg_map]
  generalize hs : (if n = al then (1 : Int) else -1) = s
  have hal : al ∉ cs := λ h => by
    rw [List.nodup_append] at hc
    exact hc.2.2 _ h _ (by simp) rfl
  have hnd : cs.Nodup := (List.nodup_append.mp hc).1
  by_cases ha : a = n
  . subst ha
    rw [if_pos rfl]
    have e : (λ m => if ((a, m), -s).1 = (a, b) then ((a, m), -s).2 else 0) = λ m : S => if m = b then -s else 0 := by
      funext m
      simp
    rw [e]
    by_cases hb : b = al
    . subst hb
      rw [if_pos rfl, if_pos rfl, sg_none hal]; omega
    . rw [if_neg hb, if_neg (show ¬ (a, al) = (a, b) by simp [Ne.symm hb])]
      by_cases hm : b ∈ cs
      . rw [if_pos hm, sg_one hnd hm]; omega
      . rw [if_neg hm, sg_none hm]; omega
  . rw [if_neg ha, if_neg (by simp [Ne.symm ha]), sg_zero' λ m hm => if_neg (by simp [Ne.symm ha])]
    rfl
noncomputable def upS (al : S) (ps : List (S × S)) (a b : S) : Sm S := match ps.find? (λ q => q.1 == a) with
  | some q => .dn q.2 b
  | none => .ac al
noncomputable def ownS (ps : List (S × S)) (a b : S) : Sm S := if bel ps a = [] then .ac a else .dn a b
theorem upS_in (g : Gd al ps) {a k b : S} (h : (a, k) ∈ ps) : upS al ps a b = .dn k b := by
  unfold upS
  cases e : ps.find? (λ q => q.1 == a) with
  | none =>
    have := List.find?_eq_none.mp e _ h
    simp at this
  | some q =>
    have h1 := List.find?_some e
    have h2 := List.mem_of_find?_eq_some e
    have h1 : q.1 = a := eq_of_beq h1
    have : q = (a, q.2) := by rw [<- h1]
    rw [this] at h2
    show Sm.dn q.2 b = _
    rw [g.uniq h2 h]
theorem upS_al (g : Gd al ps) {b : S} : upS al ps al b = .ac al := by
  unfold upS
  cases e : ps.find? (λ q => q.1 == al) with
  | none => rfl
  | some q =>
    have h1 := List.find?_some e
    have h2 := List.mem_of_find?_eq_some e
    exact ((List.nodup_cons.mp g.nd).1 (List.mem_map.mpr ⟨q, h2, eq_of_beq h1⟩)).elim
theorem part_of (g : Gd al ps) {a : S} (h : a = al \/ a ∈ ps.map (·.1)) : a = al \/ ∃ k, (a, k) ∈ ps := by
  rcases h with h | h
  . exact .inl h
  . obtain ⟨q, hq, rfl⟩ := List.mem_map.mp h
    exact .inr ⟨q.2, hq⟩
theorem tot_ends (g : Gd al ps) (hc : (cs ++ [al]).Nodup) {a b : S} (ha : a = al \/ a ∈ ps.map (·.1)) (hb : b = al \/ b ∈ cs) {one : Sm S} (h1 : IsSm al ps cs one) :
    tot (give al ps cs one) a b = (if b = al then -1 else 1) * ((if one = ownS ps a b then 1 else 0) - (if one = upS al ps a b then 1 else 0)) := by
  have hal : al ∉ cs := λ h => by
    rw [List.nodup_append] at hc
    exact hc.2.2 _ h _ (by simp) rfl
  cases h1 with
  | dn n c hn hbe hcc =>
    rw [tot_dn g]
    by_cases ebc : b = c
    . subst ebc
      rw [if_pos rfl]
      by_cases ean : a = n
      . subst ean
        rw [if_pos rfl]
        have e1 : ownS ps a b = .dn a b := by unfold ownS; rw [if_neg hbe]
        have e2 : upS al ps a b ≠ .dn a b := λ e => by
          rcases part_of g ha with rfl | ⟨k, hk⟩
          . rw [upS_al g] at e; cases e
          . rw [upS_in g hk] at e
            cases e
            exact g.not_self hk
        rw [e1, if_pos rfl, if_neg (Ne.symm e2)]; split <;> omega
      . rw [if_neg ean]
        have e1 : (Sm.dn n b : Sm S) ≠ ownS ps a b := λ e => by
          unfold ownS at e
          split at e
          . cases e
          . cases e; exact ean rfl
        rw [if_neg e1]
        by_cases hm : (a, n) ∈ ps
        . rw [if_pos hm, upS_in g hm, if_pos rfl]; split <;> omega
        . rw [if_neg hm]
          have e2 : (Sm.dn n b : Sm S) ≠ upS al ps a b := λ e => by
            rcases part_of g ha with rfl | ⟨k, hk⟩
            . rw [upS_al g] at e; cases e
            . rw [upS_in g hk] at e
              cases e
              exact hm hk
          rw [if_neg e2]; split <;> omega
    . rw [if_neg ebc]
      have e1 : (Sm.dn n c : Sm S) ≠ ownS ps a b := λ e => by
        unfold ownS at e
        split at e
        . cases e
        . cases e; exact ebc rfl
      have e2 : (Sm.dn n c : Sm S) ≠ upS al ps a b := λ e => by
        unfold upS at e
        split at e
        . cases e; exact ebc rfl
        . cases e
      rw [if_neg e1, if_neg e2]; split <;> omega
  | ac n hn =>
    rw [tot_ac hc]
    by_cases ean : a = n
    . subst ean
      rw [if_pos rfl]
      rcases hn with rfl | ⟨hn1, hn2⟩
      . have e1 : (Sm.ac a : Sm S) ≠ ownS ps a b := λ e => by
          unfold ownS at e
          rw [if_neg g.al_above] at e
          cases e
        rw [if_neg e1, upS_al g, if_pos rfl, if_pos rfl]
        rcases hb with rfl | hb
        . rw [if_pos rfl, if_pos rfl]; omega
        . have : b ≠ a := λ e => hal (e ▸ hb)
          rw [if_neg this, if_neg this, if_pos hb]; omega
      . have e1 : ownS ps a b = .ac a := by unfold ownS; rw [if_pos hn2]
        have nal : a ≠ al := λ e => g.al_above (e ▸ hn2)
        have e2 : (Sm.ac a : Sm S) ≠ upS al ps a b := λ e => by
          unfold upS at e
          split at e
          . cases e
          . cases e; exact nal rfl
        rw [e1, if_pos rfl, if_neg e2, if_neg nal]
        rcases hb with rfl | hb
        . rw [if_pos rfl, if_pos rfl]; omega
        . have : b ≠ al := λ e => hal (e ▸ hb)
          rw [if_neg this, if_neg this, if_pos hb]; omega
    . rw [if_neg ean]
      have e1 : (Sm.ac n : Sm S) ≠ ownS ps a b := λ e => by
        unfold ownS at e
        split at e
        . cases e; exact ean rfl
        . cases e
      have e2 : (Sm.ac n : Sm S) ≠ upS al ps a b := λ e => by
        rcases part_of g ha with rfl | ⟨k, hk⟩
        . rw [upS_al g] at e; cases e; exact ean rfl
        . rw [upS_in g hk] at e; cases e
      rw [if_neg e1, if_neg e2]; split <;> omega
noncomputable def cnt (al : S) (ps : List (S × S)) (cs : List S) (L : List (Sm S)) (a b : S) : Int := sg L λ one => tot (give al ps cs one) a b
theorem cnt_ends (g : Gd al ps) (hc : (cs ++ [al]).Nodup) {a b : S} (ha : a = al \/ a ∈ ps.map (·.1)) (hb : b = al \/ b ∈ cs) {L : List (Sm S)} (hL : ∀ one ∈ L, IsSm al ps cs one) :
    cnt al ps cs L a b = (if b = al then -1 else 1) * ((sg L λ one => if one = ownS ps a b then 1 else 0) - (sg L λ one => if one = upS al ps a b then 1 else 0)) := by
  unfold cnt
  rw [sg_congr λ one h => tot_ends g hc ha hb (hL one h), sg_mul]
  congr 1
  have := sg_add L (λ one => (if one = ownS ps a b then (1 : Int) else 0)) (λ one => -1 * (if one = upS al ps a b then (1 : Int) else 0))
  rw [sg_mul] at this
  have e : (λ one : Sm S => (if one = ownS ps a b then (1 : Int) else 0) - if one = upS al ps a b then 1 else 0) = λ one => (if one = ownS ps a b then (1 : Int) else 0) + -1 * (if one = upS al ps a b then (1 : Int) else 0) := by
    funext one; omega
  rw [e, this]; omega
theorem sg_le_one [DecidableEq α] {l : List α} (hd : l.Nodup) (a : α) : (sg l λ x => if x = a then 1 else 0) = 0 \/ (sg l λ x => if x = a then 1 else 0) = 1 := by
  by_cases h : a ∈ l
  . exact .inr (sg_one hd h 1)
  . exact .inl (sg_none h 1)
theorem cnt_small (g : Gd al ps) (hc : (cs ++ [al]).Nodup) {a b : S} (ha : a = al \/ a ∈ ps.map (·.1)) (hb : b = al \/ b ∈ cs) {L : List (Sm S)} (hL : ∀ one ∈ L, IsSm al ps cs one) (nd : L.Nodup) :
    cnt al ps cs L a b = 0 \/ cnt al ps cs L a b = 1 \/ cnt al ps cs L a b = -1 := by
  rw [cnt_ends g hc ha hb hL]
  rcases sg_le_one nd (ownS ps a b) with h1 | h1 <;> rcases sg_le_one nd (upS al ps a b) with h2 | h2 <;> rw [h1, h2] <;> split <;> omega
theorem cnt_all (g : Gd al ps) (hc : (cs ++ [al]).Nodup) {a b : S} (ha : a = al \/ a ∈ ps.map (·.1)) (hb : b = al \/ b ∈ cs) {L : List (Sm S)} (hL : ∀ one, one ∈ L ↔ IsSm al ps cs one) (nd : L.Nodup) : cnt al ps cs L a b = 0 := by
  rw [cnt_ends g hc ha hb λ one h => (hL one).mp h]
  have h1 : ownS ps a b ∈ L := (hL _).mpr (by
    unfold ownS
    split
    . rename_i h
      rcases ha with rfl | ha
      . exact (g.al_above h).elim
      . exact .ac a (.inr ⟨ha, h⟩)
    . rename_i h
      exact .dn a b ha h hb)
  have h2 : upS al ps a b ∈ L := (hL _).mpr (by
    rcases part_of g ha with rfl | ⟨k, hk⟩
    . rw [upS_al g]
      exact .ac a (.inl rfl)
    . rw [upS_in g hk]
      exact .dn k b (g.above_in hk) (λ e => by
        have := mem_bel.mpr hk
        rw [e] at this
        cases this) hb)
  rw [sg_one nd h1, sg_one nd h2]; split <;> omega
noncomputable def stepU (cs : List S) (N : S -> S -> Int) (q : S × S) : S -> S -> Int := λ a c => if a = q.2 /\ c ∈ cs then N a c + N q.1 c else N a c
noncomputable def upT (cs : List S) (N : S -> S -> Int) (ps : List (S × S)) : S -> S -> Int := ps.foldr (λ q M => stepU cs M q) N
noncomputable def Fwd : List (S × S) -> Prop
  | [] => True
  | q :: r => q.2 ∉ (q :: r).map (·.1) /\ Fwd r
theorem Gd.fwd_of (g : Gd al ps) : ∀ (pre r : List (S × S)), pre ++ r = ps -> Fwd r
  | _, [], _ => trivial
  | pre, q :: r, e => by
    refine ⟨λ h => ?_, g.fwd_of (pre ++ [q]) r (by simp [e])⟩
    have hq : ps[pre.length]? = some q := by rw [<- e]; simp
    have nd := List.nodup_cons.mp g.nd
    rw [<- e, List.map_append] at nd
    rcases g.abv _ _ hq with h2 | h2
    . exact nd.1 (h2 ▸ List.mem_append_right _ h)
    . rw [<- e, List.take_left' rfl] at h2
      exact (List.nodup_append.mp nd.2).2.2 _ h2 _ h rfl
theorem Gd.fwd (g : Gd al ps) : Fwd ps := g.fwd_of [] ps rfl
theorem bel_cons (q : S × S) (r : List (S × S)) (n : S) : bel (q :: r) n = if q.2 = n then q.1 :: bel r n else bel r n := by
  unfold bel
  rw [List.filter_cons]
  by_cases h : q.2 = n <;> simp [h]
theorem up_inv {cs : List S} {N : S -> S -> Int} : ∀ {r : List (S × S)}, Fwd r -> ∀ n, ∀ c ∈ cs, upT cs N r n c = N n c + sg (bel r n) λ m => upT cs N r m c
  | [], _, n, c, _ => by simp [upT, bel, sg]
  | q :: r, h, n, c, hc => by
    have ih := up_inv (cs := cs) (N := N) h.2
    have hx : q.1 ≠ q.2 := λ e => h.1 (by rw [<- e]; simp)
    have hr : ∀ m, m ∈ r.map (·.1) -> m ≠ q.2 := λ m hm e => h.1 (by rw [<- e]; exact List.mem_cons_of_mem _ hm)
    have eU : ∀ m, m ≠ q.2 -> upT cs N (q :: r) m c = upT cs N r m c := λ m hm => by
      show stepU cs (upT cs N r) q m c = _
      unfold stepU
      rw [if_neg λ z => hm z.1]
    have eS : ∀ k, sg (bel r k) (λ m => upT cs N (q :: r) m c) = sg (bel r k) λ m => upT cs N r m c := λ k => sg_congr λ m hm => eU m (hr m (List.mem_map.mpr ⟨_, mem_bel.mp hm, rfl⟩))
    rw [bel_cons]
    by_cases hn : q.2 = n
    . subst hn
      rw [if_pos rfl]
      simp only [sg]
      rw [eS, eU _ hx]
      show stepU cs (upT cs N r) q q.2 c = _
      unfold stepU
      rw [if_pos ⟨rfl, hc⟩, ih _ c hc]; omega
    . rw [if_neg hn, eS, eU n (Ne.symm hn), ih n c hc]
noncomputable def tabT (al : S) (cs : List S) (U : S -> S -> Int) (p : S × S) : Int := if p.2 = al then sg cs λ c => U p.1 c else U p.1 p.2
theorem sum_holds (g : Gd al ps) (hc : (cs ++ [al]).Nodup) {N : S -> S -> Int} (hN : ∀ n c, bel ps n ≠ [] -> N n c = 0) {one : Sm S} (h1 : IsSm al ps cs one) :
    sg (give al ps cs one) (λ p => p.2 * tabT al cs (upT cs N ps) p.1) = 0 := by
  have hal : ∀ c ∈ cs, c ≠ al := λ c h e => by
    rw [List.nodup_append] at hc
    exact hc.2.2 _ h _ (by simp) e
  have hU : ∀ n, bel ps n ≠ [] -> ∀ c ∈ cs, upT cs N ps n c = sg (bel ps n) λ m => upT cs N ps m c := λ n hn c hc => by
    have h := up_inv (N := N) g.fwd n c hc
    rw [hN n c hn] at h
    omega
  generalize upT cs N ps = U at *
  cases h1 with
  | dn n c hn hb hcc =>
    unfold give
    simp only [sg]
    rw [sg_map, sg_mul]
    have key : tabT al cs U (n, c) = sg (bel ps n) λ m => tabT al cs U (m, c) := by
      unfold tabT
      simp only
      rcases hcc with rfl | hcc
      . simp only [if_pos]
        rw [sg_swap]
        exact sg_congr λ d hd => hU n hb d hd
      . simp only [if_neg (hal c hcc)]
        exact hU n hb c hcc
    rw [key, Int.neg_mul]
    exact Int.add_right_neg _
  | ac n hn =>
    unfold give
    simp only [sg]
    rw [sg_map, sg_mul]
    have key : tabT al cs U (n, al) = sg cs λ c => tabT al cs U (n, c) := by
      unfold tabT
      simp only [if_pos]
      exact sg_congr λ d hd => by rw [if_neg (hal d hd)]
    rw [key, Int.neg_mul]
    exact Int.add_right_neg _
theorem sg_at {P : List (S × S)} (hd : P.Nodup) {p : S × S} (hp : p ∈ P) (k : Int) (T : S × S -> Int) : sg P (λ pl => (if p = (pl.1, pl.2) then k else 0) * T pl) = k * T p := by
  have e : (λ pl : S × S => (if p = (pl.1, pl.2) then k else 0) * T pl) = λ pl => if pl = p then k * T p else 0 := by
    funext pl
    by_cases h : pl = p
    . subst h; simp
    . rw [if_neg h, if_neg (λ z => h (by rw [z])), Int.zero_mul]
  rw [e, sg_one hd hp]
theorem tot_sum {P : List (S × S)} (hd : P.Nodup) (T : S × S -> Int) : ∀ {l : List ((S × S) × Int)}, (∀ p ∈ l, p.1 ∈ P) -> sg P (λ pl => tot l pl.1 pl.2 * T pl) = sg l λ p => p.2 * T p.1
  | [], _ => sg_zero' λ _ _ => by simp [tot, sg]
  | p :: l, h => by
    have ih := tot_sum hd T (l := l) λ q hq => h q (List.mem_cons_of_mem _ hq)
    simp only [sg]
    rw [<- ih, <- sg_at hd (h p (by simp)) p.2 T, <- sg_add]
    refine sg_congr λ pl _ => ?_
    show (_ + _) * _ = _
    rw [Int.add_mul]
    rfl
theorem give_in (g : Gd al ps) {one : Sm S} (h1 : IsSm al ps cs one) {p : (S × S) × Int} (hp : p ∈ give al ps cs one) : (p.1.1 = al \/ p.1.1 ∈ ps.map (·.1)) /\ (p.1.2 = al \/ p.1.2 ∈ cs) := by
  cases h1 with
  | dn n c hn hb hcc =>
    rcases List.mem_cons.mp hp with rfl | hp
    . exact ⟨hn, hcc⟩
    . obtain ⟨m, hm, rfl⟩ := List.mem_map.mp hp
      exact ⟨.inr (List.mem_map.mpr ⟨_, mem_bel.mp hm, rfl⟩), hcc⟩
  | ac n hn =>
    have hn' : n = al \/ n ∈ ps.map (·.1) := hn.imp id λ h => h.1
    rcases List.mem_cons.mp hp with rfl | hp
    . exact ⟨hn', .inl rfl⟩
    . obtain ⟨c, hc, rfl⟩ := List.mem_map.mp hp
      exact ⟨hn', .inr hc⟩
theorem total_zero (g : Gd al ps) (hc : (cs ++ [al]).Nodup) {N : S -> S -> Int} (hN : ∀ n c, bel ps n ≠ [] -> N n c = 0) {P : List (S × S)} (hd : P.Nodup) (hP : ∀ a b, (a = al \/ a ∈ ps.map (·.1)) -> (b = al \/ b ∈ cs) -> (a, b) ∈ P) {L : List (Sm S)} (hL : ∀ one ∈ L, IsSm al ps cs one) :
    sg P (λ pl => cnt al ps cs L pl.1 pl.2 * tabT al cs (upT cs N ps) pl) = 0 := by
  generalize hT : tabT al cs (upT cs N ps) = T
  have e : ∀ pl, cnt al ps cs L pl.1 pl.2 * T pl = sg L λ one => tot (give al ps cs one) pl.1 pl.2 * T pl := λ pl => by
    unfold cnt
    rw [Int.mul_comm, <- sg_mul]
    exact sg_congr λ one _ => Int.mul_comm _ _
  rw [sg_congr λ pl _ => e pl, sg_swap]
  refine sg_zero' λ one h1 => ?_
  rw [tot_sum hd T λ p hp => hP _ _ (give_in g (hL one h1) hp).1 (give_in g (hL one h1) hp).2, <- hT]
  exact sum_holds g hc hN (hL one h1)
end
end A
end Tv
namespace Tv
open PySem PySem.Spec PyProof.Rows L2
namespace S3
open Nu
noncomputable def enc : A.Sm Str -> List Str
  | .dn n c => ["down", n, c]
  | .ac n => ["across", n]
noncomputable def smL (ps : List (Str × Str)) (cs : List Str) : List (A.Sm Str) := (((("all" : Str) :: namesOf ps).filter λ n => !(below ps n).isEmpty).flatMap λ n => (cs ++ [("all" : Str)]).map λ c => A.Sm.dn n c) ++ ((("all" : Str) :: rowsOf ps).map A.Sm.ac)
theorem sumsL_enc (ps : List (Str × Str)) (cs : List Str) : sumsL ps cs = (smL ps cs).map enc := by
  unfold sumsL smL downs acrs
  rw [List.map_append, List.map_flatMap, List.map_map]
  congr 1
  refine congrArg (λ f => List.flatMap f _) (funext λ n => ?_)
  rw [List.map_map]
  rfl
theorem bel_eq (ps : List (Str × Str)) (n : Str) : A.bel ps n = below ps n := rfl
theorem Good.gd {ps : List (Str × Str)} (g : Good ps) : A.Gd ("all" : Str) ps := ⟨g.one, g.keys, g.abv⟩
theorem cols_nd {cs : List Str} (h : Nms cs) : (cs ++ [("all" : Str)]).Nodup := by
  refine List.nodup_append.mpr ⟨h.2, by simp, λ a ha b hb e => ?_⟩
  rw [List.mem_singleton.mp hb] at e
  exact (nameB_at (h.1 a ha)).2.2 e
theorem mem_smL {ps : List (Str × Str)} {cs : List Str} {one : A.Sm Str} : one ∈ smL ps cs ↔ A.IsSm ("all" : Str) ps cs one := by
  unfold smL
  rw [List.mem_append]
  constructor
  . rintro (h | h)
    . obtain ⟨n, hn, hl⟩ := List.mem_flatMap.mp h
      obtain ⟨c, hc, rfl⟩ := List.mem_map.mp hl
      obtain ⟨h1, h2⟩ := List.mem_filter.mp hn
      refine .dn n c (by simpa [namesOf] using h1) (λ e => ?_) ?_
      . rw [bel_eq] at e
        rw [e] at h2
        cases h2
      . rcases List.mem_append.mp hc with h | h
        . exact .inr h
        . exact .inl (List.mem_singleton.mp h)
    . obtain ⟨n, hn, rfl⟩ := List.mem_map.mp h
      refine .ac n ?_
      rcases List.mem_cons.mp hn with h | h
      . exact .inl h
      . obtain ⟨h1, h2⟩ := List.mem_filter.mp h
        exact .inr ⟨h1, List.isEmpty_iff.mp h2⟩
  . intro h
    cases h with
    | dn n c hn hb hc =>
      refine .inl (List.mem_flatMap.mpr ⟨n, List.mem_filter.mpr ⟨by simpa [namesOf] using hn, ?_⟩, List.mem_map.mpr ⟨c, ?_, rfl⟩⟩)
      . cases e : below ps n with
        | nil => exact (hb e).elim
        | cons => rfl
      . rcases hc with h | h
        . simp [h]
        . simp [h]
    | ac n hn =>
      refine .inr (List.mem_map.mpr ⟨n, ?_, rfl⟩)
      rcases hn with h | ⟨h1, h2⟩
      . simp [h]
      . exact List.mem_cons_of_mem _ (List.mem_filter.mpr ⟨h1, List.isEmpty_iff.mpr h2⟩)
theorem smL_nd {ps : List (Str × Str)} {cs : List Str} (g : Good ps) (hc : Nms cs) : (smL ps cs).Nodup := by
  have c := cols_nd hc
  have k : (("all" : Str) :: namesOf ps).Nodup := g.keys
  refine List.nodup_append.mpr ⟨?_, ?_, ?_⟩
  . refine List.pairwise_flatMap.mpr ⟨λ n _ => ?_, ?_⟩
    . exact List.pairwise_map.mpr (c.imp λ h e => h (by cases e; rfl))
    . refine List.Pairwise.imp (λ h x hx y hy e => ?_) (k.sublist List.filter_sublist)
      obtain ⟨_, _, rfl⟩ := List.mem_map.mp hx
      obtain ⟨_, _, rfl⟩ := List.mem_map.mp hy
      cases e
      exact h rfl
  . have : (("all" : Str) :: rowsOf ps).Nodup := k.sublist (List.Sublist.cons₂ _ List.filter_sublist)
    exact List.pairwise_map.mpr (this.imp λ h e => h (by cases e; rfl))
  . intro x hx y hy e
    obtain ⟨n, _, h⟩ := List.mem_flatMap.mp hx
    obtain ⟨c, _, rfl⟩ := List.mem_map.mp h
    obtain ⟨m, _, rfl⟩ := List.mem_map.mp hy
    cases e
theorem smL_len {ps : List (Str × Str)} {cs : List Str} (g : Good ps) (h8 : cs.length <= 8) : (smL ps cs).length <= 300 := by
  have e : (smL ps cs).length = (sumsL ps cs).length := by rw [sumsL_enc, List.length_map]
  have g2 := g.many
  rw [e]
  unfold sumsL acrs
  rw [List.length_append, List.length_map]
  have h1 := downs_len ps cs ("all" :: namesOf ps)
  have h2 : (("all" : Str) :: namesOf ps).length * (cs.length + 1) <= 25 * 9 := Nat.mul_le_mul (by simp [namesOf]; omega) (by omega)
  have h3 := rows_len (ps := ps)
  simp only [List.length_cons] at h1 h2 ⊢
  omega
theorem enc_is {ps : List (Str × Str)} {cs : List Str} {one : A.Sm Str} (h : A.IsSm ("all" : Str) ps cs one) : SumIs ps (enc one) := by
  cases h with
  | dn n c hn hb hc => exact .down n c (List.mem_cons.mpr hn)
  | ac n hn => exact .across n
noncomputable def gkv (p : (Str × Str) × Int) : List Key × V := (plK p.1.1 p.1.2, .int p.2)
noncomputable abbrev giv (ps : List (Str × Str)) (cs : List Str) (one : A.Sm Str) : List ((Str × Str) × Int) := A.give ("all" : Str) ps cs one
noncomputable def sg1 : A.Sm Str -> Int
  | .dn _ c => if c = "all" then -1 else 1
  | .ac n => if n = "all" then 1 else -1
noncomputable def sp_sign_of : Sp := λ vs H Q _ => ∃ (t : Addr) (one : A.Sm Str), vs = [.ref t] /\ H t = some (.tup (sts (enc one))) /\ Q (.int (sg1 one)) H
noncomputable def t_sign_of : TS :=
  (tSeq (sIf (bT (tOp eqG (tOp getG (gv 0) (tC (.int 0))) (tC (.str "down"))))
    (tRet (tIfG (bT (tOp eqG (tOp getG (gv 0) (tC (.int 2))) (tC (.str "all")))) (tUn negG (tC (.int 1))) (tC (.int 1))))
    tNext)
  (tRet (tIfG (bT (tOp eqG (tOp getG (gv 0) (tC (.int 1))) (tC (.str "all")))) (tC (.int 1)) (tUn negG (tC (.int 1))))))
theorem r_sign_of {t : Addr} {one : A.Sm Str} {H : Hp} {D : Ends} (ht : H t = some (.tup (sts (enc one)))) (q : D.rt (.int (sg1 one)) H) : t_sign_of D [some (.ref t)] H := by
  cases one with
  | dn n c =>
    refine getT_i ht (v := .str "down") rfl (br_t rfl (getT_i ht (v := .str c) rfl ?_))
    have q : D.rt (.int (if c = "all" then -1 else 1)) H := q
    refine br_of (λ b => ?_) (λ b => ?_)
    . have b : (c == ("all" : Str)) = true := b
      rw [if_pos (eq_of_beq b)] at q
      exact q
    . have b : (c == ("all" : Str)) = false := b
      rw [if_neg (beq_eq_false_iff_ne.mp b)] at q
      exact q
  | ac n =>
    refine getT_i ht (v := .str "across") rfl (br_f (by decide +kernel) (getT_i ht (v := .str n) rfl ?_))
    have q : D.rt (.int (if n = "all" then 1 else -1)) H := q
    refine br_of (λ b => ?_) (λ b => ?_)
    . have b : (n == ("all" : Str)) = true := b
      rw [if_pos (eq_of_beq b)] at q
      exact q
    . have b : (n == ("all" : Str)) = false := b
      rw [if_neg (beq_eq_false_iff_ne.mp b)] at q
      exact q
theorem PrsL.put {H : Hp} {kvs : List (List Key × V)} {xs ys : List V} {p : Addr} {o : HO} (h : PrsL H kvs xs) (hp : H p = some (.lst ys)) : PrsL (upd H p o) kvs xs := by
  induction h with
  | nil => exact .nil
  | cons h t ih =>
    obtain ⟨a, b, rfl, h1, h2⟩ := h
    exact .cons ⟨a, b, rfl, by rw [upd_ne (λ z => by rw [z, hp] at h1; cases h1)]; exact h1, by rw [upd_ne (λ z => by rw [z, hp] at h2; cases h2)]; exact h2⟩ ih
theorem PrsL.putD {H : Hp} {kvs : List (List Key × V)} {xs : List V} {p : Addr} {o : HO} {d : List (List Key × V)} (h : PrsL H kvs xs) (hp : H p = some (.dT d)) : PrsL (upd H p o) kvs xs := by
  induction h with
  | nil => exact .nil
  | cons h t ih =>
    obtain ⟨a, b, rfl, h1, h2⟩ := h
    exact .cons ⟨a, b, rfl, by rw [upd_ne (λ z => by rw [z, hp] at h1; cases h1)]; exact h1, by rw [upd_ne (λ z => by rw [z, hp] at h2; cases h2)]; exact h2⟩ ih
theorem PrsL.snoc {H : Hp} {kvs : List (List Key × V)} {xs : List V} {kv : List Key × V} {x : V} (h : PrsL H kvs xs) (k : PrAt H kv x) : PrsL H (kvs ++ [kv]) (xs ++ [x]) := by
  induction h with
  | nil => exact .cons k .nil
  | cons h t ih => exact .cons h ih
theorem PrsL.len {H : Hp} {kvs : List (List Key × V)} {xs : List V} (h : PrsL H kvs xs) : xs.length = kvs.length := by
  induction h with
  | nil => rfl
  | cons h t ih => simp [ih]
theorem PrsL.get {H : Hp} {kvs : List (List Key × V)} {xs : List V} (h : PrsL H kvs xs) : ∀ {i : Nat} {x : V}, xs[i]? = some x -> ∃ kv, kvs[i]? = some kv /\ PrAt H kv x := by
  induction h with
  | nil => intro i x e; simp at e
  | cons h t ih =>
    intro i x e
    cases i with
    | zero =>
      simp at e
      subst e
      exact ⟨_, rfl, h⟩
    | succ i => exact ih (by simpa using e)
theorem comp_prs {a : Addr} {ys : List V} (f : V -> Option (List Key × V)) {tn : List Str} {fr : List (Str × Nat)} {g : TG} {tt : TT} {te : TE} {σ : St} {H : Hp} {Q : VK} (ha : H a = some (.lst ys)) (hz : ys.length < sizeLine)
    (turn : ∀ (i : Nat) (x : V), ys[i]? = some x -> ∀ (G : Hp) (k : VK) (B : Hp -> Prop), Same H G -> (∀ kv, f x = some kv -> ∀ z G', Same G G' -> PrAt G' kv z -> k z G') -> (f x = none -> B G) -> g x (inn tn fr σ) G λ σ2 G2 => tt σ2 G2 λ b G3 => br b (te σ2 G3 k) (B G3))
    (fin : ∀ p zs G, H p = none -> Same H G -> G p = some (.lst zs) -> PrsL G (ys.filterMap f) zs -> Q (.ref p) G) : compJ (Itl0 a) tn fr g tt te σ H Q := by
  unfold compJ
  intro p hp
  refine ⟨λ i m G => m = ys.length - i /\ i <= ys.length /\ Same H G /\ ∃ zs, G p = some (.lst zs) /\ PrsL G ((ys.take i).filterMap f) zs, ⟨_, rfl, Nat.zero_le _, same_upd hp, [], upd_same, .nil⟩, ?_⟩
  rintro i m G ⟨rfl, hi, sm, zs, hg, pz⟩
  have hy := sm _ _ ha
  by_cases hlt : i < ys.length
  . refine .inr ⟨⟨ys, ys[i], .inl hy, by simp [hlt]⟩, λ G' => Same H G' /\ ∃ zs, G' p = some (.lst zs) /\ PrsL G' ((ys.take (i + 1)).filterMap f) zs, λ G' h => ⟨_, by omega, rfl, hlt, h⟩, λ x G' y => ?_⟩
    obtain ⟨rfl, y⟩ := y
    have hx := y ys (.inl hy)
    refine turn i x hx _ _ _ sm (λ kv hl z G2 s2 t2 => ⟨zs, s2 _ _ hg, ?_, (sm.trans s2).put hp, _, upd_same, ?_⟩) (λ hn => ⟨sm, zs, hg, ?_⟩)
    . rw [PrsL.len pz]
      have := List.length_filterMap_le f (ys.take i)
      have h2 := List.length_take_le i ys
      omega
    . rw [take_snoc hx, List.filterMap_append, List.filterMap_cons, hl]
      exact PrsL.put (PrsL.snoc (Nu.PrsL.same pz s2) t2) (s2 _ _ hg)
    . rw [take_snoc hx, List.filterMap_append, List.filterMap_cons, hn]
      simpa using pz
  . have e : i = ys.length := by omega
    subst e
    rw [List.take_length] at pz
    exact .inl ⟨⟨ys, .inl hy, Nat.le_refl _⟩, fin p zs G hp sm hg pz⟩
noncomputable def plF (H : Hp) (h : Str -> Str -> Option V) : V -> Option (List Key × V)
  | .ref u => match H u with
    | some (.tup [.str a, .str b]) => (h a b).map λ v => (plK a b, v)
    | _ => none
  | _ => none
theorem plF_at {H : Hp} {h : Str -> Str -> Option V} {u : Addr} {a b : Str} (e : H u = some (.tup [.str a, .str b])) : plF H h (.ref u) = (h a b).map λ v => (plK a b, v) := by
  unfold plF
  simp only [e]
theorem plF_all {H : Hp} {h : Str -> Str -> Option V} : ∀ {ys : List V} {ps : List (Str × Str)}, PairsAt H ys ps -> ys.filterMap (plF H h) = ps.filterMap λ p => (h p.1 p.2).map λ v => (plK p.1 p.2, v)
  | [], [], _ => rfl
  | [], _ :: _, h => by have := h.1; simp at this
  | _ :: _, [], h => by have := h.1; simp at this
  | y :: ys, p :: ps, k => by
    obtain ⟨t, e1, e2⟩ := k.2 0 p rfl
    simp at e1
    subst e1
    have ih := plF_all (h := h) (ys := ys) (ps := ps) ⟨by have := k.1; simpa using this, λ i r hr => by
      obtain ⟨u, u1, u2⟩ := k.2 (i + 1) r (by simpa using hr)
      exact ⟨u, by simpa using u1, u2⟩⟩
    rw [List.filterMap_cons, List.filterMap_cons, plF_at e2, ih]
theorem pairs_of {H : Hp} {zs : List V} {ps : List (Str × Str)} (h : TupsAt H zs (ps.map λ p => [p.1, p.2])) : PairsAt H zs ps := ⟨by rw [h.1, List.length_map], λ i p e => by
  obtain ⟨t, h1, h2⟩ := h.2 i [p.1, p.2] (by rw [List.getElem?_map, e]; rfl)
  exact ⟨t, h1, h2⟩⟩
noncomputable def othP (ps : List (Str × Str)) (cs : List Str) : A.Sm Str -> List (Str × Str)
  | .dn n c => (below ps n).map λ m => (m, c)
  | .ac n => cs.map λ c => (n, c)
noncomputable def whP : A.Sm Str -> Str × Str
  | .dn n c => (n, c)
  | .ac n => (n, "all")
theorem othL_eq (ps : List (Str × Str)) (cs : List Str) (one : A.Sm Str) : othersL ps cs (enc one) = (othP ps cs one).map λ p => [p.1, p.2] := by
  cases one <;> (unfold othP; rw [List.map_map]; rfl)
theorem giv_kv (ps : List (Str × Str)) (cs : List Str) (one : A.Sm Str) : (giv ps cs one).map gkv = (plK (whP one).1 (whP one).2, .int (sg1 one)) :: (othP ps cs one).filterMap λ p => (some (V.int (-(sg1 one)))).map λ v => (plK p.1 p.2, v) := by
  have fm : ∀ (l : List (Str × Str)) (v : V), (l.filterMap λ p => (some v).map λ v => (plK p.1 p.2, v)) = l.map λ p => (plK p.1 p.2, v) := λ l v => by
    induction l with
    | nil => rfl
    | cons x r ih => rw [List.filterMap_cons, List.map_cons, <- ih]; rfl
  rw [fm]
  cases one <;> (unfold othP; rw [List.map_map]; show _ :: List.map gkv (List.map _ _) = _; rw [List.map_map]; rfl)
section
variable {cl : Addr}
noncomputable def sp_given_by (cl : Addr) : Sp := λ vs H Q _ => ∃ (x t : Addr) (ps : List (Str × Str)) (cs : List Str) (one : A.Sm Str), vs = [.ref x, .ref t] /\ HouseAt cl H x ps cs /\ H t = some (.tup (sts (enc one))) /\ A.IsSm ("all" : Str) ps cs one /\ ∀ p zs H', Same H H' -> H p = none -> H' p = some (.lst zs) -> PrsL H' ((giv ps cs one).map gkv) zs -> Q (.ref p) H'
noncomputable def t_given_by (cl : Addr) : TS :=
  (tSeq (tAsg (tCall sp_sign_of [] E0 (tCons (gv 1) tNil)) (gName 2))
  (tRet (tOp addG (tLstG (tCons (tTupG (tCons (tCall sp_whole_of [] E0 (tCons (gv 0) (tCons (gv 1) tNil))) (tCons (gv 2) tNil))) tNil)) (tCompI (iOf iterG (tCall (sp_others_of cl) [] E0 (tCons (gv 0) (tCons (gv 1) tNil)))) ["place"] [("sign", 2)] (gName 0) tYes (tTupG (tCons (gv 0) (tCons (tUn negG (gv 1)) tNil)))))))
theorem r_given_by {x t : Addr} {ps : List (Str × Str)} {cs : List Str} {one : A.Sm Str} {H : Hp} {D : Ends} (hh : HouseAt cl H x ps cs) (ht : H t = some (.tup (sts (enc one)))) (h1 : A.IsSm ("all" : Str) ps cs one)
    (q : ∀ p zs H', Same H H' -> H p = none -> H' p = some (.lst zs) -> PrsL H' ((giv ps cs one).map gkv) zs -> D.rt (.ref p) H') : t_given_by cl D [some (.ref x), some (.ref t), none] H := by
  have hs := sz
  have hl := enc_is h1
  have g2 := hh.good.many
  have h8 := hh.many
  refine ⟨t, one, rfl, ht, ?_⟩
  refine ⟨.ref x, t, ps, enc one, rfl, ht, hl, λ pwh G1 s1 n1 t1 => ⟨few rfl, new_i λ p2 G2 n2 s2 t2 => ⟨few rfl, new_i λ p3 G3 n3 s3 t3 => ?_⟩⟩⟩
  have s13 := s1.trans (s2.trans s3)
  refine comp_i ⟨x, t, ps, cs, enc one, rfl, hh.same s13, s13 _ _ ht, hl, λ po zs G4 s4 n4 t4 pz => ?_⟩
  rw [othL_eq] at pz
  have pp := pairs_of pz
  have lz : zs.length <= 24 := by
    rw [pp.1]
    cases one with
    | dn n c => show (List.map _ _).length <= _; rw [List.length_map]; exact Nat.le_trans (below_len ps n) g2
    | ac n => show (List.map _ _).length <= _; rw [List.length_map]; omega
  refine iterL_i t4 (comp_prs (plF G4 λ _ _ => some (.int (-(sg1 one)))) t4 (by omega) ?_ ?_)
  . intro i z hz G k B sm hk _
    obtain ⟨r, u, hr, rfl, hu⟩ := pp.at hz
    refine br_t rfl ⟨few rfl, new_i λ p5 G5 n5 s5 t5 => hk _ (plF_at hu) _ G5 s5 ⟨p5, u, rfl, t5, s5 _ _ (sm _ _ hu)⟩⟩
  intro pc ws G5 n5 s5 t5 pw
  rw [plF_all pp] at pw
  have s35 := s4.trans s5
  refine addL_i (s35 _ _ t3) t5 ?_ (new_i λ p6 G6 n6 s6 t6 => ?_)
  . have := PrsL.len pw
    have h2 := List.length_filterMap_le (λ p : Str × Str => (some (V.int (-(sg1 one)))).map λ v => (plK p.1 p.2, v)) (othP ps cs one)
    have h3 := pp.1
    show 1 + ws.length <= _
    omega
  have s36 := s35.trans s6
  refine q p6 _ G6 (s13.trans s36) (same_none (s13.trans s35) n6) t6 ?_
  rw [giv_kv]
  refine .cons ⟨p2, pwh, rfl, s36 _ _ (s3 _ _ t2), ?_⟩ (Nu.PrsL.same pw s6)
  have t1' := s36 _ _ (s3 _ _ (s2 _ _ t1))
  cases one <;> exact t1'
end
end S3
end Tv
namespace Tv
open PySem PySem.Spec PyProof.Rows L2
namespace S3
open Nu
noncomputable def CntD (kvs : List (List Key × V)) (f : Str -> Str -> Int) : Prop := ∀ a b, (valV kvs (plK a b)).getD (.int 0) = .int (f a b)
theorem CntD.nil : CntD [] λ _ _ => 0 := λ _ _ => rfl
theorem CntD.put {kvs : List (List Key × V)} {f : Str -> Str -> Int} (h : CntD kvs f) (a b : Str) (k : Int) : CntD (putK kvs (plK a b) (.int (f a b + k))) λ c d => f c d + if (a, b) = (c, d) then k else 0 := λ c d => by
  rw [valV_put]
  show _ = V.int (f c d + if (a, b) = (c, d) then k else 0)
  by_cases e : (a, b) = (c, d)
  . cases e
    rw [if_pos rfl, if_pos rfl]
    rfl
  . rw [if_neg (λ z => e (by obtain ⟨h1, h2⟩ := pl_inj z; rw [h1, h2])), if_neg e, Int.add_zero]
    exact h c d
theorem CntD.get {kvs : List (List Key × V)} {f : Str -> Str -> Int} (h : CntD kvs f) {a b : Str} (hn : f a b ≠ 0) : valV kvs (plK a b) = some (.int (f a b)) := by
  have := h a b
  cases e : valV kvs (plK a b) with
  | none =>
    rw [e] at this
    injection this with this
    exact (hn this.symm).elim
  | some v =>
    rw [e] at this
    rw [show v = .int (f a b) from this]
theorem dget2_at {d p : Addr} {a b : Str} {z : V} {kvs : List (List Key × V)} {Q : VK} {H : Hp} (h : H d = some (.dT kvs)) (hp : H p = some (.tup [.str a, .str b])) (q : Q ((valV kvs (plK a b)).getD z) H) : dgetG (.ref d) [.ref p, z] H Q := by
  unfold dgetG
  simp only [look_dT h hp]
  exact q
noncomputable def kvL (f : Str -> Str -> Int) (P : List (Str × Str)) : List (List Key × V) := P.filterMap λ p => (if f p.1 p.2 = 0 then none else some (V.int (f p.1 p.2))).map λ v => (plK p.1 p.2, v)
theorem kvL_snoc (f : Str -> Str -> Int) (P : List (Str × Str)) (p : Str × Str) : kvL f (P ++ [p]) = kvL f P ++ if f p.1 p.2 = 0 then [] else [(plK p.1 p.2, .int (f p.1 p.2))] := by
  unfold kvL
  rw [List.filterMap_append]
  congr 1
  by_cases h : f p.1 p.2 = 0
  . rw [if_pos h, List.filterMap_cons, if_pos h]
    rfl
  . rw [if_neg h, List.filterMap_cons, if_neg h]
    rfl
theorem kvL_len (f : Str -> Str -> Int) (P : List (Str × Str)) : (kvL f P).length <= P.length := List.length_filterMap_le ..
theorem kvL_mem {f : Str -> Str -> Int} {P : List (Str × Str)} {kv : List Key × V} (h : kv ∈ kvL f P) : ∃ p ∈ P, f p.1 p.2 ≠ 0 /\ kv = (plK p.1 p.2, .int (f p.1 p.2)) := by
  obtain ⟨p, hp, e⟩ := List.mem_filterMap.mp h
  by_cases h0 : f p.1 p.2 = 0
  . rw [if_pos h0] at e
    cases e
  . rw [if_neg h0] at e
    cases e
    exact ⟨p, hp, h0, rfl⟩
theorem kvL_ints (f : Str -> Str -> Int) (P : List (Str × Str)) : IntsK (kvL f P) := λ kv h => by
  obtain ⟨p, _, _, rfl⟩ := kvL_mem h
  exact ⟨_, rfl⟩
theorem val_none {kvs : List (List Key × V)} {k : List Key} (h : ∀ kv ∈ kvs, kv.1 ≠ k) : valV kvs k = none := by
  unfold valV
  rw [List.find?_eq_none.mpr λ kv hk => by simpa using h kv hk]
  rfl
theorem kvL_out {f : Str -> Str -> Int} {P : List (Str × Str)} {p : Str × Str} (h : p ∉ P) : valV (kvL f P) (plK p.1 p.2) = none := val_none λ kv hk e => by
  obtain ⟨r, hr, _, rfl⟩ := kvL_mem hk
  obtain ⟨h1, h2⟩ := pl_inj e
  exact h (by rw [<- Prod.eta p, <- h1, <- h2]; exact hr)
theorem pl_nd {ps : List (Str × Str)} {cs : List Str} (g : Good ps) (hc : Nms cs) : (prodP ("all" :: namesOf ps) (cs ++ [("all" : Str)])).Nodup := by
  refine List.pairwise_flatMap.mpr ⟨λ n _ => List.pairwise_map.mpr ((cols_nd hc).imp λ h e => h (by cases e; rfl)), ?_⟩
  refine List.Pairwise.imp (λ h x hx y hy e => ?_) (show (("all" : Str) :: namesOf ps).Nodup from g.keys)
  obtain ⟨_, _, rfl⟩ := List.mem_map.mp hx
  obtain ⟨_, _, rfl⟩ := List.mem_map.mp hy
  cases e
  exact h rfl
theorem pl_len {ps : List (Str × Str)} {cs : List Str} (g : Good ps) (h8 : cs.length <= 8) : (prodP ("all" :: namesOf ps) (cs ++ [("all" : Str)])).length <= 225 := by
  have g2 := g.many
  rw [prodP_len]
  refine Nat.le_trans (Nat.mul_le_mul (show (("all" : Str) :: namesOf ps).length <= 25 by simp [namesOf]; omega) (show (cs ++ [("all" : Str)]).length <= 9 by simp; omega)) (by decide)
noncomputable abbrev cnt3 (ps : List (Str × Str)) (cs : List Str) (L : List (A.Sm Str)) : Str -> Str -> Int := A.cnt ("all" : Str) ps cs L
theorem giv_len {ps : List (Str × Str)} {cs : List Str} {one : A.Sm Str} (g : Good ps) (h8 : cs.length <= 8) : (giv ps cs one).length <= 25 := by
  have g2 := g.many
  cases one with
  | dn n c =>
    show ((below ps n).map _).length + 1 <= 25
    rw [List.length_map]
    have := below_len ps n
    omega
  | ac n =>
    show (cs.map _).length + 1 <= 25
    rw [List.length_map]
    omega
theorem tot_snoc (l : List ((Str × Str) × Int)) (p : (Str × Str) × Int) (a b : Str) : A.tot (l ++ [p]) a b = A.tot l a b + if p.1 = (a, b) then p.2 else 0 := by
  unfold A.tot
  rw [A.sg_append]
  simp [A.sg]
theorem cnt_snoc (ps : List (Str × Str)) (cs : List Str) (L : List (A.Sm Str)) (one : A.Sm Str) (a b : Str) : cnt3 ps cs (L ++ [one]) a b = cnt3 ps cs L a b + A.tot (giv ps cs one) a b := by
  show A.cnt _ _ _ _ _ _ = _
  unfold A.cnt
  rw [A.sg_append]
  simp [A.sg]
  rfl
section
variable {cl : Addr}
noncomputable def sp_added (cl : Addr) : Sp := λ vs H Q _ => ∃ (x l : Addr) (zs : List V) (ps : List (Str × Str)) (cs : List Str) (L : List (A.Sm Str)), vs = [.ref x, .ref l] /\ HouseAt cl H x ps cs /\ H l = some (.lst zs) /\ TupsAt H zs (L.map enc) /\ (∀ one ∈ L, A.IsSm ("all" : Str) ps cs one) /\ L.length <= 300 ∧
  ∀ p H', Same H H' -> H p = none -> H' p = some (.dT (kvL (cnt3 ps cs L) (prodP ("all" :: namesOf ps) (cs ++ [("all" : Str)])))) -> Q (.ref p) H'
noncomputable def ta_two (cl : Addr) : TS :=
  (tSeq (tAsg tDNew (gName 6))
  (tSeq (sFor (iOf iterG (tMethG cl "places" (sp_places cl) E0 (gv 0) tNil)) (gName 4)
    (sIf (bT (tOp neG (tBmG "get" (gv 2) (tCons (gv 4) (tCons (tC (.int 0)) tNil))) (tC (.int 0))))
      (tAsg (tOp getG (gv 2) (gv 4)) (gSub (gv 6) (gv 4) setG))
      tNext))
  (tRet (gv 6))))
noncomputable def t_added (cl : Addr) : TS :=
  (tSeq (tAsg tDNew (gName 2))
  (tSeq (sFor (iOf iterG (gv 1)) (gName 3)
    (sFor (iOf iterG (tCall (sp_given_by cl) [] E0 (tCons (gv 0) (tCons (gv 3) tNil)))) (gTup0 2 (gCons (gName 4) (gCons (gName 5) gNil)))
      (tAsg (tOp addG (tBmG "get" (gv 2) (tCons (gv 4) (tCons (tC (.int 0)) tNil))) (gv 5)) (gSub (gv 2) (gv 4) setG))))
  (ta_two cl)))
theorem r_two {x l pc : Addr} {u v w : Option V} {ps : List (Str × Str)} {cs : List Str} {f : Str -> Str -> Int} {kvs : List (List Key × V)} {H : Hp} {D : Ends} (hh : HouseAt cl H x ps cs) (hc : H pc = some (.dT kvs)) (hk : CntD kvs f)
    (q : ∀ p H', Same H H' -> H p = none -> H' p = some (.dT (kvL f (prodP ("all" :: namesOf ps) (cs ++ [("all" : Str)])))) -> D.rt (.ref p) H') : ta_two cl D [some (.ref x), some (.ref l), some (.ref pc), u, v, w, none] H := by
  have hs := sz
  obtain ⟨_, _, _, _, dx, _, _, _, _, e1, _⟩ := id hh
  refine .inr (new_i λ pt G1 n1 s1 t1 => ?_)
  refine sFor_i (meth_i (s1 _ _ e1) rfl ⟨x, ps, cs, rfl, hh.same s1, λ pp zs G2 s2 n2 t2 pz => ?_⟩)
  have pz : PairsAt G2 zs (prodP ("all" :: namesOf ps) (cs ++ [("all" : Str)])) := pz
  have nd := pl_nd hh.good hh.nms
  have ln := pl_len hh.good hh.many
  generalize prodP ("all" :: namesOf ps) (cs ++ [("all" : Str)]) = P at *
  have ntp : pp ≠ pt := λ z => by rw [z, t1] at n2; cases n2
  have ntc : pc ≠ pt := λ z => by rw [z, n1] at hc; cases hc
  refine iterL_i t2 (loop_lst (xs := zs) (λ i σ G => (Same H G /\ PairsAt G zs P /\ G pp = some (.lst zs)) /\ G pt = some (.dT (kvL f (P.take i))) /\ ∃ v, σ = [some (.ref x), some (.ref l), some (.ref pc), u, v, w, some (.ref pt)])
    ⟨⟨s1.trans s2, pz, t2⟩, s2 _ _ t1, _, rfl⟩ (λ i σ G _ h => h.1.2.2) ?_ ?_)
  . rintro i y σ G hy ⟨⟨sm, pz, hp⟩, hg, v, rfl⟩
    obtain ⟨r, t, hr, rfl, ht⟩ := pz.at hy
    have hc' := sm _ _ hc
    refine dget_i hc' (dget2_at hc' ht ?_)
    rw [hk r.1 r.2]
    refine br_of (λ b => ?_) (λ b => ?_)
    . have b : (!(f r.1 r.2 == 0)) = true := b
      have b : f r.1 r.2 ≠ 0 := by simpa using b
      have hi := (List.getElem?_eq_some_iff.mp hr).1
      refine getT_pl (.inl hc') ht (hk.get b) (setT_i hg ht ?_ ?_)
      . have := kvL_len f (P.take i)
        rw [List.length_take] at this
        omega
      . have out : r ∉ P.take i := λ m => by
          obtain ⟨j, hj⟩ := List.mem_iff_getElem?.mp m
          have hjl := (List.getElem?_eq_some_iff.mp hj).1
          rw [List.length_take] at hjl
          rw [List.getElem?_take_of_lt (by omega)] at hj
          have : j = i := (List.getElem?_inj (by omega) nd).mp (by rw [hj, hr])
          omega
        have ne : t ≠ pt := λ z => by rw [z, hg] at ht; cases ht
        refine ⟨⟨sm.put n1, ⟨pz.1, λ j p e => ?_⟩, by rw [upd_ne ntp]; exact hp⟩, ?_, _, rfl⟩
        . obtain ⟨t', h1, h2⟩ := pz.2 j p e
          exact ⟨t', h1, by rw [upd_ne (λ z => by rw [z, hg] at h2; cases h2)]; exact h2⟩
        . rw [upd_same, putK_new _ (kvL_out out), take_snoc hr, kvL_snoc, if_neg b]
    . have b : (!(f r.1 r.2 == 0)) = false := b
      have b : f r.1 r.2 = 0 := by simpa using b
      refine ⟨⟨sm, pz, hp⟩, ?_, _, rfl⟩
      rw [take_snoc hr, kvL_snoc, if_pos b, List.append_nil]
      exact hg
  . rintro σ G ⟨⟨sm, pz, hp⟩, hg, v, rfl⟩
    rw [pz.1, List.take_length] at hg
    exact q pt G sm n1 hg
theorem r_added {x l : Addr} {zs : List V} {ps : List (Str × Str)} {cs : List Str} {L : List (A.Sm Str)} {H : Hp} {D : Ends} (hh : HouseAt cl H x ps cs) (hl : H l = some (.lst zs)) (tz : TupsAt H zs (L.map enc)) (hL : ∀ one ∈ L, A.IsSm ("all" : Str) ps cs one) (hn : L.length <= 300)
    (q : ∀ p H', Same H H' -> H p = none -> H' p = some (.dT (kvL (cnt3 ps cs L) (prodP ("all" :: namesOf ps) (cs ++ [("all" : Str)])))) -> D.rt (.ref p) H') : t_added cl D [some (.ref x), some (.ref l), none, none, none, none, none] H := by
  have hs := sz
  refine .inr (new_i λ pc G1 n1 s1 t1 => ?_)
  have nlc : l ≠ pc := λ z => by rw [z, n1] at hl; cases hl
  refine sFor_i (iterL_i (s1 _ _ hl) (loop_lst (xs := zs) (λ i σ G => Same H G /\ (∃ kvs, G pc = some (.dT kvs) /\ CntD kvs (cnt3 ps cs (L.take i)) /\ kvs.length <= 25 * i) /\ ∃ u v w, σ = [some (.ref x), some (.ref l), some (.ref pc), u, v, w, none])
    ⟨s1, ⟨[], t1, CntD.nil, by simp⟩, _, _, _, rfl⟩ (λ i σ G _ h => h.1 _ _ hl) ?_ ?_))
  . rintro i y σ G hy ⟨sm, ⟨kvs, hg, hk, hlen⟩, u, v, w, rfl⟩
    obtain ⟨e, t, he, rfl, ht⟩ := tz.at hy
    rw [List.getElem?_map] at he
    obtain ⟨one, ho, rfl⟩ : ∃ one, L[i]? = some one /\ enc one = e := by
      cases h : L[i]? with
      | none => rw [h] at he; cases he
      | some o => rw [h] at he; exact ⟨o, rfl, by simpa using he⟩
    have hi := (List.getElem?_eq_some_iff.mp ho).1
    have h1 := hL one (List.mem_of_getElem? ho)
    refine sFor_i ⟨x, t, ps, cs, one, rfl, hh.same sm, sm _ _ ht, h1, λ pg ws G2 s2 n2 t2 pw => ?_⟩
    have lg := giv_len (one := one) hh.good hh.many
    generalize hgl : giv ps cs one = gl at *
    have ngc : pg ≠ pc := λ z => by rw [z, hg] at n2; cases n2
    refine iterL_i t2 (loop_lst (xs := ws) (λ j σ G' => (Same H G' /\ PrsL G' (gl.map gkv) ws /\ G' pg = some (.lst ws)) /\ (∃ kvs, G' pc = some (.dT kvs) /\ CntD kvs (λ a b => cnt3 ps cs (L.take i) a b + A.tot (gl.take j) a b) /\ kvs.length <= 25 * i + j) /\ ∃ v w, σ = [some (.ref x), some (.ref l), some (.ref pc), some (.ref t), v, w, none])
      ⟨⟨sm.trans s2, pw, t2⟩, ⟨kvs, s2 _ _ hg, λ a b => by rw [hk a b]; simp [A.tot, A.sg], by omega⟩, _, _, rfl⟩ (λ i σ G _ h => h.1.2.2) ?_ ?_)
    . rintro j z σ G' hz ⟨⟨sm', pw, hp⟩, ⟨kvs, hg, hk, hlen⟩, v, w, rfl⟩
      obtain ⟨kv, hkv, a, b, rfl, ha, hb⟩ := PrsL.get pw hz
      rw [List.getElem?_map] at hkv
      obtain ⟨p, hpj, rfl⟩ : ∃ p, gl[j]? = some p /\ gkv p = kv := by
        cases h : gl[j]? with
        | none => rw [h] at hkv; cases hkv
        | some o => rw [h] at hkv; exact ⟨o, rfl, by simpa using hkv⟩
      have hj := (List.getElem?_eq_some_iff.mp hpj).1
      have hb : G' b = some (.tup [.str p.1.1, .str p.1.2]) := hb
      refine ⟨a, _, rfl, .inl ha, rfl, _, _, rfl, _, _, rfl, rfl, ?_⟩
      refine dget_i hg (dget2_at hg hb ?_)
      rw [hk p.1.1 p.1.2]
      refine setT_i hg hb (by omega) ?_
      refine ⟨⟨sm'.put n1, PrsL.putD pw hg, by rw [upd_ne ngc]; exact hp⟩, ⟨_, upd_same, ?_, ?_⟩, _, _, rfl⟩
      . have := hk.put p.1.1 p.1.2 p.2
        refine λ c d => (this c d).trans ?_
        show V.int (_ + _ + _) = V.int (_ + _)
        rw [take_snoc hpj, tot_snoc, Int.add_assoc]
      . exact Nat.le_trans (putK_len ..) (by omega)
    . rintro σ G' ⟨⟨sm', pw, hp⟩, ⟨kvs, hg, hk, hlen⟩, v, w, rfl⟩
      have e : ws.length = gl.length := by rw [PrsL.len pw, List.length_map]
      rw [e, List.take_length] at hk
      refine ⟨sm', ⟨kvs, hg, λ a b => ?_, by omega⟩, _, _, _, rfl⟩
      rw [hk a b, take_snoc ho, cnt_snoc, hgl]
  . rintro σ G ⟨sm, ⟨kvs, hg, hk, hlen⟩, u, v, w, rfl⟩
    rw [tz.1, List.length_map, List.take_length] at hk
    exact r_two (hh.same sm) hg hk λ p H' s n t => q p H' (sm.trans s) (same_none sm n) t
end
end S3
end Tv
namespace Tv
open PySem PySem.Spec PyProof.Rows L2
namespace S3
open Nu
noncomputable def sp_law_places : Sp := λ vs H Q _ => ∃ (a c : Addr) (xs : List V) (ps : List (Str × Str)) (cs : List Str), vs = [.ref a, .ref c] /\ H a = some (.lst xs) /\ PairsAt H xs ps /\ ps.length <= 24 /\ H c = some (.lst (sts cs)) /\ cs.length <= 8 ∧
  ∀ p zs H', Same H H' -> H p = none -> H' p = some (.lst zs) -> PairsAt H' zs (prodP ("all" :: namesOf ps) (cs ++ [("all" : Str)])) -> Q (.ref p) H'
noncomputable def t_law_places : TS :=
  (tSeq (tAsg (tLstG tNil) (gName 2))
  (tSeq (sFor (iOf iterG (tOp addG (tLstG (tCons (tC (.str "all")) tNil)) (tCompI (iOf iterG (gv 0)) ["_law_name", "_law_above"] [] (gTup0 2 (gCons (gName 0) (gCons (gName 1) gNil))) tYes (gv 0)))) (gName 3)
    (sFor (iOf iterG (tOp addG (gv 1) (tLstG (tCons (tC (.str "all")) tNil)))) (gName 4)
      (tDrop (tBmG "append" (gv 2) (tCons (tTupG (tCons (gv 3) (tCons (gv 4) tNil))) tNil)))))
  (tRet (gv 2))))
theorem r_law_places {a c : Addr} {xs : List V} {ps : List (Str × Str)} {cs : List Str} {H : Hp} {D : Ends} (ha : H a = some (.lst xs)) (pa : PairsAt H xs ps) (h24 : ps.length <= 24) (hc : H c = some (.lst (sts cs))) (h8 : cs.length <= 8)
    (q : ∀ p zs H', Same H H' -> H p = none -> H' p = some (.lst zs) -> PairsAt H' zs (prodP ("all" :: namesOf ps) (cs ++ [("all" : Str)])) -> D.rt (.ref p) H') : t_law_places D [some (.ref a), some (.ref c), none, none, none] H := by
  have hs := sz
  have ln : (namesOf ps).length = ps.length := List.length_map ..
  refine ⟨few rfl, new_i λ p G1 n1 s1 t1 => ?_⟩
  refine sFor_i ⟨few rfl, new_i λ r1 G2 n2 s2 t2 => comp_i (iterL_i ((s1.trans s2) _ _ ha) (comp_l (fstOf H) ((s1.trans s2) _ _ ha) (by rw [pa.1]; omega) ?_ ?_))⟩
  . intro i z hz G k sm hk
    obtain ⟨r, t, hr, rfl, ht⟩ := pa.at hz
    rw [fst_at ht] at hk
    exact ⟨t, _, rfl, .inl (sm _ _ ((s1.trans s2) _ _ ht)), rfl, _, _, rfl, _, _, rfl, rfl, br_t rfl hk⟩
  intro r2 G3 n3 s3 t3
  rw [pa.fsts] at t3
  refine addL_i (s3 _ _ t2) t3 (by simp; omega) (new_i λ r3 G4 n4 s4 t4 => ?_)
  have e4 : ([V.str "all"] ++ sts (ps.map (·.1))) = sts ("all" :: namesOf ps) := rfl
  rw [e4] at t4
  have s14 := s2.trans (s3.trans s4)
  have nr : r3 ≠ p := λ z => by rw [z, (s2.trans s3) _ _ t1] at n4; cases n4
  have lN : (("all" : Str) :: namesOf ps).length <= 25 := by simp; omega
  generalize hN : (("all" : Str) :: namesOf ps) = N at *
  refine iterL_i t4 (loop_lst (xs := sts N) (λ i σ G => (Same H G /\ G r3 = some (.lst (sts N))) /\ (∃ zs, G p = some (.lst zs) /\ PairsAt G zs (prodP (N.take i) (cs ++ [("all" : Str)]))) /\ ∃ u v, σ = [some (.ref a), some (.ref c), some (.ref p), u, v])
    ⟨⟨s1.trans s14, t4⟩, ⟨_, s14 _ _ t1, .nil⟩, _, _, rfl⟩ (λ i σ G _ h => h.1.2) ?_ ?_)
  . rintro i y σ G hy ⟨⟨sm, hr⟩, ⟨zs, hg, pz⟩, u, v, rfl⟩
    obtain ⟨n, hn, rfl⟩ := sts_at hy
    have hi := (List.getElem?_eq_some_iff.mp hn).1
    refine sFor_i ⟨few rfl, new_i λ c1 G6 n6 s6 t6 => addL_i ((sm.trans s6) _ _ hc) t6 (by simp; omega) (new_i λ c2 G7 n7 s7 t7 => ?_)⟩
    rw [sts_snoc] at t7
    have s67 := s6.trans s7
    have nc2 : c2 ≠ p := λ z => by rw [z, s6 _ _ hg] at n7; cases n7
    have lC : (cs ++ [("all" : Str)]).length <= 9 := by simp; omega
    generalize hC : cs ++ [("all" : Str)] = C at *
    refine iterL_i t7 (loop_lst (xs := sts C) (λ j σ G => (Same H G /\ G r3 = some (.lst (sts N)) /\ G c2 = some (.lst (sts C))) /\ (∃ zs, G p = some (.lst zs) /\ PairsAt G zs (prodP (N.take i) C ++ (C.take j).map λ d => (n, d))) /\ ∃ v, σ = [some (.ref a), some (.ref c), some (.ref p), some (.str n), v])
      ⟨⟨sm.trans s67, s67 _ _ hr, t7⟩, ⟨zs, s67 _ _ hg, by simpa using pz.same s67⟩, _, rfl⟩ (λ i σ G _ h => h.1.2.2) ?_ ?_)
    . rintro j y σ G hy ⟨⟨sm, hr, hc2⟩, ⟨zs, hg, pz⟩, v, rfl⟩
      obtain ⟨d, hd, rfl⟩ := sts_at hy
      have hj := (List.getElem?_eq_some_iff.mp hd).1
      refine app_i hg ⟨few rfl, new_i λ t G9 n9 s9 t9 => app_at (s9 _ _ hg) ?_ ⟨⟨(sm.trans s9).put n1, by rw [upd_ne nr]; exact s9 _ _ hr, by rw [upd_ne nc2]; exact s9 _ _ hc2⟩, ⟨_, upd_same, ?_⟩, _, rfl⟩⟩
      . have h1 := pz.1
        rw [List.length_append, prodP_len, List.length_map, List.length_take, List.length_take] at h1
        have h2 : min i N.length * C.length <= 25 * 9 := Nat.mul_le_mul (by omega) lC
        omega
      . rw [take_snoc hd, List.map_append, <- List.append_assoc]
        exact ((pz.same s9).snoc (q := (n, d)) t9).put (s9 _ _ hg)
    . rintro σ G ⟨⟨sm, hr, hc2⟩, ⟨zs, hg, pz⟩, v, rfl⟩
      rw [show (sts C).length = C.length from List.length_map .., List.take_length] at pz
      refine ⟨⟨sm, hr⟩, ⟨zs, hg, ?_⟩, _, _, rfl⟩
      rw [take_snoc hn, prodP_snoc]
      exact pz
  . rintro σ G ⟨⟨sm, hr⟩, ⟨zs, hg, pz⟩, u, v, rfl⟩
    rw [show (sts N).length = N.length from List.length_map .., List.take_length] at pz
    exact q p zs G sm n1 hg pz
noncomputable def sp_law_gives : Sp := λ vs H Q _ => ∃ (a c t : Addr) (xs : List V) (ps : List (Str × Str)) (cs : List Str) (one : A.Sm Str), vs = [.ref a, .ref c, .ref t] /\ H a = some (.lst xs) /\ PairsAt H xs ps /\ Good ps /\ H c = some (.lst (sts cs)) /\ Nms cs /\ cs.length <= 8 /\ H t = some (.tup (sts (enc one))) /\ A.IsSm ("all" : Str) ps cs one ∧
  ∀ p H', Same H H' -> H p = none -> H' p = some (.dT ((giv ps cs one).map gkv)) -> Q (.ref p) H'
noncomputable def tg_dn : TS :=
  (tSeq (tAsg (gv 4) (gSub (gv 3) (tTupG (tCons (tOp getG (gv 2) (tC (.int 1))) (tCons (tOp getG (gv 2) (tC (.int 2))) tNil))) setG))
    (tSeq (sFor (iOf iterG (gv 0)) (gTup0 2 (gCons (gName 5) (gCons (gName 6) gNil)))
      (sIf (bT (tOp eqG (gv 6) (tOp getG (gv 2) (tC (.int 1)))))
        (tAsg (tOp subG (tC (.int 0)) (gv 4)) (gSub (gv 3) (tTupG (tCons (gv 5) (tCons (tOp getG (gv 2) (tC (.int 2))) tNil))) setG))
        tNext))
    (tRet (gv 3))))
noncomputable def tg_ac : TS :=
  (tSeq (tAsg (gv 4) (gSub (gv 3) (tTupG (tCons (tOp getG (gv 2) (tC (.int 1))) (tCons (tC (.str "all")) tNil))) setG))
  (tSeq (sFor (iOf iterG (gv 1)) (gName 7)
    (tAsg (tOp subG (tC (.int 0)) (gv 4)) (gSub (gv 3) (tTupG (tCons (tOp getG (gv 2) (tC (.int 1))) (tCons (gv 7) tNil))) setG)))
  (tRet (gv 3))))
noncomputable def t_law_gives : TS :=
  (tSeq (tAsg tDNew (gName 3))
  (tSeq (sIf (bT (tOp eqG (tOp getG (gv 2) (tC (.int 0))) (tC (.str "down"))))
    (tSeq (tAsg (tOp getG (tLstG (tCons (tC (.int 1)) (tCons (tUn negG (tC (.int 1))) tNil))) (tCB intG (tCons (tOp eqG (tOp getG (gv 2) (tC (.int 2))) (tC (.str "all"))) tNil))) (gName 4))
    tg_dn)
    tNext)
  (tSeq (tAsg (tOp getG (tLstG (tCons (tUn negG (tC (.int 1))) (tCons (tC (.int 1)) tNil))) (tCB intG (tCons (tOp eqG (tOp getG (gv 2) (tC (.int 1))) (tC (.str "all"))) tNil))) (gName 4))
  tg_ac)))
theorem giv_out {l : List ((Str × Str) × Int)} {a b : Str} (h : (a, b) ∉ l.map (·.1)) : valV (l.map gkv) (plK a b) = none := val_none λ kv hk e => by
  obtain ⟨p, hp, rfl⟩ := List.mem_map.mp hk
  obtain ⟨h1, h2⟩ := pl_inj e
  exact h (List.mem_map.mpr ⟨p, hp, by rw [<- h1, <- h2]⟩)
theorem r_dn {a c t d : Addr} {u v w : Option V} {xs : List V} {ps : List (Str × Str)} {n e : Str} {s : Int} {H : Hp} {D : Ends} (ha : H a = some (.lst xs)) (pa : PairsAt H xs ps) (g : Good ps) (ht : H t = some (.tup (sts ["down", n, e]))) (hd : H d = some (.dT []))
    (q : ∀ H', SameX d H H' -> H' d = some (.dT ((((n, e), s) :: (below ps n).map λ m => ((m, e), -s)).map gkv)) -> D.rt (.ref d) H') : tg_dn D [some (.ref a), some (.ref c), some (.ref t), some (.ref d), some (.int s), u, v, w] H := by
  have hs := sz
  have g2 := g.many
  refine getT_i ht (v := .str n) rfl (getT_i ht (v := .str e) rfl ⟨few rfl, new_i λ k1 G1 n1 s1 t1 => setT_i (s1 _ _ hd) t1 (by simp; omega) ?_⟩)
  have e0 : putK ([] : List (List Key × V)) (plK n e) (.int s) = ([((n, e), s)] : List ((Str × Str) × Int)).map gkv := rfl
  rw [e0]
  have nad : a ≠ d := λ z => by rw [z, hd] at ha; cases ha
  have ntd : t ≠ d := λ z => by rw [z, hd] at ht; cases ht
  have sx : SameX d H (upd G1 d (.dT (([((n, e), s)] : List ((Str × Str) × Int)).map gkv))) := (same_x s1).trans sameX_upd
  refine sFor_i (iterL_i (sx _ _ nad ha) (loop_lst (xs := xs) (λ i σ G => SameX d H G /\ G d = some (.dT ((((n, e), s) :: (below (ps.take i) n).map λ m => ((m, e), -s)).map gkv)) /\ ∃ u v, σ = [some (.ref a), some (.ref c), some (.ref t), some (.ref d), some (.int s), u, v, w])
    ⟨sx, upd_same, _, _, rfl⟩ (λ i σ G _ h => h.1 _ _ nad ha) ?_ ?_))
  . rintro i y σ G hy ⟨sm, hg, u, v, rfl⟩
    obtain ⟨r, tr, hr, rfl, htr⟩ := pa.at hy
    have ntr : tr ≠ d := λ z => by rw [z, hd] at htr; cases htr
    have ht' := sm _ _ ntd ht
    have hi := (List.getElem?_eq_some_iff.mp hr).1
    refine ⟨tr, _, rfl, .inl (sm _ _ ntr htr), rfl, _, _, rfl, _, _, rfl, rfl, getT_i ht' (v := .str n) rfl ?_⟩
    refine br_of (λ b => ?_) (λ b => ?_)
    . have b : (r.2 == n) = true := b
      have b := eq_of_beq b
      refine getT_i ht' (v := .str e) rfl ⟨few rfl, new_i λ k2 G2 n2 s2 t2 => setT_i (s2 _ _ hg) t2 ?_ ⟨(sm.trans (same_x s2)).trans sameX_upd, ?_, _, _, rfl⟩⟩
      . rw [List.length_map, List.length_cons, List.length_map]
        have := below_len (ps.take i) n
        rw [List.length_take] at this
        omega
      . have em : (r.1, n) = r := by rw [<- b]
        have nd : ((((n, e), s) :: (below (ps.take i) n).map λ m => ((m, e), -s)) : List ((Str × Str) × Int)).map (·.1) = (n, e) :: (below (ps.take i) n).map λ m => (m, e) := by
          rw [List.map_cons, List.map_map]
          rfl
        rw [upd_same, putK_new _ (giv_out ?_), take_snoc hr, below_snoc, if_pos b, List.map_append, List.map_cons, List.map_cons, List.map_append, Int.zero_sub]
        . rfl
        . rw [nd]
          intro m
          rcases List.mem_cons.mp m with m | m
          . have : r.1 = n := by injection m
            have hm : r ∈ ps := List.mem_of_getElem? hr
            rw [<- em, this] at hm
            exact (Good.gd g).not_self hm
          . obtain ⟨m', hm, e'⟩ := List.mem_map.mp m
            have e' : m' = r.1 := by injection e'
            subst e'
            have hm : (r.1, n) ∈ ps.take i := A.mem_bel.mp hm
            obtain ⟨j, hj⟩ := List.mem_iff_getElem?.mp hm
            have hjl := (List.getElem?_eq_some_iff.mp hj).1
            rw [List.length_take] at hjl
            rw [List.getElem?_take_of_lt (by omega)] at hj
            have nd2 := (List.nodup_cons.mp g.keys).2
            have : j = i := (List.getElem?_inj (l := ps.map (·.1)) (by rw [List.length_map]; omega) nd2).mp (by rw [List.getElem?_map, List.getElem?_map, hj, hr]; rfl)
            omega
    . have b : (r.2 == n) = false := b
      have b := beq_eq_false_iff_ne.mp b
      refine ⟨sm, ?_, _, _, rfl⟩
      rw [take_snoc hr, below_snoc, if_neg b, List.append_nil]
      exact hg
  . rintro σ G ⟨sm, hg, u, v, rfl⟩
    rw [pa.1, List.take_length] at hg
    exact q G sm hg
theorem r_ac {a c t d : Addr} {u v w : Option V} {cs : List Str} {n : Str} {s : Int} {H : Hp} {D : Ends} (hc : H c = some (.lst (sts cs))) (cn : Nms cs) (h8 : cs.length <= 8) (ht : H t = some (.tup (sts ["across", n]))) (hd : H d = some (.dT []))
    (q : ∀ H', SameX d H H' -> H' d = some (.dT ((((n, ("all" : Str)), s) :: cs.map λ m => ((n, m), -s)).map gkv)) -> D.rt (.ref d) H') : tg_ac D [some (.ref a), some (.ref c), some (.ref t), some (.ref d), some (.int s), u, v, w] H := by
  have hs := sz
  refine getT_i ht (v := .str n) rfl ⟨few rfl, new_i λ k1 G1 n1 s1 t1 => setT_i (s1 _ _ hd) t1 (by simp; omega) ?_⟩
  have e0 : putK ([] : List (List Key × V)) (plK n "all") (.int s) = ([((n, ("all" : Str)), s)] : List ((Str × Str) × Int)).map gkv := rfl
  rw [e0]
  have ncd : c ≠ d := λ z => by rw [z, hd] at hc; cases hc
  have ntd : t ≠ d := λ z => by rw [z, hd] at ht; cases ht
  have sx : SameX d H (upd G1 d (.dT (([((n, ("all" : Str)), s)] : List ((Str × Str) × Int)).map gkv))) := (same_x s1).trans sameX_upd
  refine sFor_i (iterL_i (sx _ _ ncd hc) (loop_lst (xs := sts cs) (λ i σ G => SameX d H G /\ G d = some (.dT ((((n, ("all" : Str)), s) :: (cs.take i).map λ m => ((n, m), -s)).map gkv)) /\ ∃ w, σ = [some (.ref a), some (.ref c), some (.ref t), some (.ref d), some (.int s), u, v, w])
    ⟨sx, upd_same, _, rfl⟩ (λ i σ G _ h => h.1 _ _ ncd hc) ?_ ?_))
  . rintro i y σ G hy ⟨sm, hg, w, rfl⟩
    obtain ⟨m, hm, rfl⟩ := sts_at hy
    have hi := (List.getElem?_eq_some_iff.mp hm).1
    refine getT_i (sm _ _ ntd ht) (v := .str n) rfl ⟨few rfl, new_i λ k2 G2 n2 s2 t2 => setT_i (s2 _ _ hg) t2 ?_ ⟨(sm.trans (same_x s2)).trans sameX_upd, ?_, _, rfl⟩⟩
    . rw [List.length_map, List.length_cons, List.length_map, List.length_take]
      omega
    . have nd : ((((n, ("all" : Str)), s) :: (cs.take i).map λ m => ((n, m), -s)) : List ((Str × Str) × Int)).map (·.1) = (n, ("all" : Str)) :: (cs.take i).map λ m => (n, m) := by
        rw [List.map_cons, List.map_map]
        rfl
      rw [upd_same, putK_new _ (giv_out ?_), take_snoc hm, List.map_append, List.map_cons, List.map_cons, List.map_append, Int.zero_sub]
      . rfl
      . rw [nd]
        intro z
        rcases List.mem_cons.mp z with z | z
        . have : m = "all" := by injection z
          exact (nameB_at (cn.1 m (List.mem_of_getElem? hm))).2.2 this
        . obtain ⟨m', hm', e'⟩ := List.mem_map.mp z
          have e' : m' = m := by injection e'
          subst e'
          obtain ⟨j, hj⟩ := List.mem_iff_getElem?.mp hm'
          have hjl := (List.getElem?_eq_some_iff.mp hj).1
          rw [List.length_take] at hjl
          rw [List.getElem?_take_of_lt (by omega)] at hj
          have : j = i := (List.getElem?_inj (by omega) cn.2).mp (by rw [hj, hm])
          omega
  . rintro σ G ⟨sm, hg, w, rfl⟩
    rw [show (sts cs).length = cs.length from List.length_map .., List.take_length] at hg
    exact q G sm hg
theorem same_of_x {d : Addr} {H G G' : Hp} (n : H d = none) (s : Same H G) (x : SameX d G G') : Same H G' := λ b o e => x b o (λ z => by rw [z, n] at e; cases e) (s b o e)
theorem r_law_gives {a c t : Addr} {xs : List V} {ps : List (Str × Str)} {cs : List Str} {one : A.Sm Str} {H : Hp} {D : Ends} (ha : H a = some (.lst xs)) (pa : PairsAt H xs ps) (g : Good ps) (hc : H c = some (.lst (sts cs))) (cn : Nms cs) (h8 : cs.length <= 8) (ht : H t = some (.tup (sts (enc one))))
    (q : ∀ p H', Same H H' -> H p = none -> H' p = some (.dT ((giv ps cs one).map gkv)) -> D.rt (.ref p) H') : t_law_gives D [some (.ref a), some (.ref c), some (.ref t), none, none, none, none, none] H := by
  refine .inr (new_i λ d G1 n1 s1 t1 => ?_)
  cases one with
  | dn n e =>
    refine getT_i (s1 _ _ ht) (v := .str "down") rfl (br_t rfl ⟨few rfl, new_i λ k G2 n2 s2 t2 => getT_i (s2 _ _ (s1 _ _ ht)) (v := .str e) rfl ?_⟩)
    have fin : ∀ s : Int, s = (if e = "all" then -1 else 1) -> tg_dn D [some (.ref a), some (.ref c), some (.ref t), some (.ref d), some (.int s), none, none, none] G2 := λ s es =>
      r_dn ((s1.trans s2) _ _ ha) (pa.same (s1.trans s2)) g ((s1.trans s2) _ _ ht) (s2 _ _ t1) λ H' sx hd => q d H' (same_of_x n1 (s1.trans s2) sx) n1 (by rw [hd, es]; rfl)
    by_cases b : e = "all"
    . subst b
      exact getL_i t2 (v := .int (-1)) rfl (fin _ (by rw [if_pos rfl]))
    . have eb : (e == ("all" : Str)) = false := beq_eq_false_iff_ne.mpr b
      refine getL_i t2 (v := .int 1) ?_ (fin _ (by rw [if_neg b]))
      show atI _ (if (e == ("all" : Str)) = true then 1 else 0) = _
      rw [eb]
      rfl
  | ac n =>
    refine getT_i (s1 _ _ ht) (v := .str "across") rfl (br_f (by decide +kernel) ⟨few rfl, new_i λ k G2 n2 s2 t2 => getT_i (s2 _ _ (s1 _ _ ht)) (v := .str n) rfl ?_⟩)
    have fin : ∀ s : Int, s = (if n = "all" then 1 else -1) -> tg_ac D [some (.ref a), some (.ref c), some (.ref t), some (.ref d), some (.int s), none, none, none] G2 := λ s es =>
      r_ac ((s1.trans s2) _ _ hc) cn h8 ((s1.trans s2) _ _ ht) (s2 _ _ t1) λ H' sx hd => q d H' (same_of_x n1 (s1.trans s2) sx) n1 (by rw [hd, es]; rfl)
    by_cases b : n = "all"
    . subst b
      exact getL_i t2 (v := .int 1) rfl (fin _ (by rw [if_pos rfl]))
    . have eb : (n == ("all" : Str)) = false := beq_eq_false_iff_ne.mpr b
      refine getL_i t2 (v := .int (-1)) ?_ (fin _ (by rw [if_neg b]))
      show atI _ (if (n == ("all" : Str)) = true then 1 else 0) = _
      rw [eb]
      rfl
end S3
end Tv
namespace Tv
open PySem PySem.Spec PyProof.Rows L2
namespace S3
open Nu
noncomputable def sp_law_due : Sp := λ vs H Q _ => ∃ (a c l : Addr) (xs zs : List V) (ps : List (Str × Str)) (cs : List Str) (L : List (A.Sm Str)), vs = [.ref a, .ref c, .ref l] /\ H a = some (.lst xs) /\ PairsAt H xs ps /\ Good ps /\ H c = some (.lst (sts cs)) /\ Nms cs /\ cs.length <= 8 /\ H l = some (.lst zs) /\ TupsAt H zs (L.map enc) /\ (∀ one ∈ L, A.IsSm ("all" : Str) ps cs one) /\ L.length <= 300 ∧
  ∀ p kvs H', Same H H' -> H p = none -> H' p = some (.dT kvs) -> CntD kvs (cnt3 ps cs L) -> Q (.ref p) H'
noncomputable def td_in : TS :=
  (sFor (iOf iterG (gv 5)) (gName 6)
      (tAsg (tOp addG (tBmG "get" (gv 3) (tCons (gv 6) (tCons (tC (.int 0)) tNil))) (tOp getG (gv 5) (gv 6))) (gSub (gv 3) (gv 6) setG)))
noncomputable def t_law_due : TS :=
  (tSeq (tAsg tDNew (gName 3))
  (tSeq (sFor (iOf iterG (gv 2)) (gName 4)
    (tSeq (tAsg (tCall sp_law_gives [] E0 (tCons (gv 0) (tCons (gv 1) (tCons (gv 4) tNil)))) (gName 5))
    td_in))
  (tRet (gv 3))))
theorem giv_nd {ps : List (Str × Str)} {cs : List Str} {one : A.Sm Str} (g : Good ps) (cn : Nms cs) : ((giv ps cs one).map (·.1)).Nodup := by
  cases one with
  | dn n c =>
    show ((n, c) :: ((below ps n).map λ m => ((m, c), _)).map (·.1)).Nodup
    rw [List.map_map]
    refine List.nodup_cons.mpr ⟨λ m => ?_, List.pairwise_map.mpr (((Good.gd g).bel_nd n).imp λ h e => h (by injection e))⟩
    obtain ⟨m', hm, e⟩ := List.mem_map.mp m
    have e : m' = n := by injection e
    subst e
    exact (Good.gd g).not_self (A.mem_bel.mp hm)
  | ac n =>
    show ((n, ("all" : Str)) :: (cs.map λ m => ((n, m), _)).map (·.1)).Nodup
    rw [List.map_map]
    refine List.nodup_cons.mpr ⟨λ m => ?_, List.pairwise_map.mpr (cn.2.imp λ h e => h (by injection e))⟩
    obtain ⟨m', hm, e⟩ := List.mem_map.mp m
    have e : m' = "all" := by injection e
    exact (nameB_at (cn.1 m' hm)).2.2 e
theorem giv_val {l : List ((Str × Str) × Int)} (nd : (l.map (·.1)).Nodup) {i : Nat} {p : (Str × Str) × Int} (h : l[i]? = some p) : valV (l.map gkv) (plK p.1.1 p.1.2) = some (.int p.2) := by
  induction l generalizing i with
  | nil => simp at h
  | cons x r ih =>
    rw [List.map_cons] at nd
    have nd' := List.nodup_cons.mp nd
    rw [List.map_cons]
    cases i with
    | zero =>
      simp at h
      subst h
      exact valV_pos (p := gkv x) rfl
    | succ i =>
      have h : r[i]? = some p := by simpa using h
      rw [valV_neg (p := gkv x) (λ e => ?_)]
      . exact ih nd'.2 h
      . obtain ⟨e1, e2⟩ := pl_inj e
        exact nd'.1 (List.mem_map.mpr ⟨p, List.mem_of_getElem? h, by rw [<- Prod.eta p.1, <- e1, <- e2]⟩)
theorem r_law_due {a c l : Addr} {xs zs : List V} {ps : List (Str × Str)} {cs : List Str} {L : List (A.Sm Str)} {H : Hp} {D : Ends} (ha : H a = some (.lst xs)) (pa : PairsAt H xs ps) (g : Good ps) (hc : H c = some (.lst (sts cs))) (cn : Nms cs) (h8 : cs.length <= 8) (hl : H l = some (.lst zs)) (tz : TupsAt H zs (L.map enc)) (hL : ∀ one ∈ L, A.IsSm ("all" : Str) ps cs one) (hn : L.length <= 300)
    (q : ∀ p kvs H', Same H H' -> H p = none -> H' p = some (.dT kvs) -> CntD kvs (cnt3 ps cs L) -> D.rt (.ref p) H') : t_law_due D [some (.ref a), some (.ref c), some (.ref l), none, none, none, none] H := by
  have hs := sz
  refine .inr (new_i λ pc G1 n1 s1 t1 => ?_)
  refine sFor_i (iterL_i (s1 _ _ hl) (loop_lst (xs := zs) (λ i σ G => Same H G /\ (∃ kvs, G pc = some (.dT kvs) /\ CntD kvs (cnt3 ps cs (L.take i)) /\ kvs.length <= 25 * i) /\ ∃ u v w, σ = [some (.ref a), some (.ref c), some (.ref l), some (.ref pc), u, v, w])
    ⟨s1, ⟨[], t1, CntD.nil, by simp⟩, _, _, _, rfl⟩ (λ i σ G _ h => h.1 _ _ hl) ?_ ?_))
  . rintro i y σ G hy ⟨sm, ⟨kvs, hg, hk, hlen⟩, u, v, w, rfl⟩
    obtain ⟨e, t, he, rfl, ht⟩ := tz.at hy
    rw [List.getElem?_map] at he
    obtain ⟨one, ho, rfl⟩ : ∃ one, L[i]? = some one /\ enc one = e := by
      cases h : L[i]? with
      | none => rw [h] at he; cases he
      | some o => rw [h] at he; exact ⟨o, rfl, by simpa using he⟩
    have hi := (List.getElem?_eq_some_iff.mp ho).1
    have h1 := hL one (List.mem_of_getElem? ho)
    refine ⟨a, c, t, xs, ps, cs, one, rfl, sm _ _ ha, pa.same sm, g, sm _ _ hc, cn, h8, sm _ _ ht, h1, λ pg G2 s2 n2 t2 => ?_⟩
    have lg := giv_len (one := one) g h8
    have nd := giv_nd (one := one) g cn
    generalize hgl : giv ps cs one = gl at *
    have npg : pc ≠ pg := λ z => by rw [<- z, hg] at n2; cases n2
    refine sFor_i (Nu.iterT_i t2 λ o => loop_dT (λ j σ G' => (Same H G' /\ G' pg = some (.frz o (.dT (gl.map gkv)))) /\ (∃ kvs, G' pc = some (.dT kvs) /\ CntD kvs (λ a b => cnt3 ps cs (L.take i) a b + A.tot (gl.take j) a b) /\ kvs.length <= 25 * i + j) /\ ∃ w, σ = [some (.ref a), some (.ref c), some (.ref l), some (.ref pc), some (.ref t), some (.ref pg), w])
      ⟨⟨(sm.trans s2).put (same_none sm n2), upd_same⟩, ⟨kvs, by rw [upd_ne npg]; exact s2 _ _ hg, λ a b => by rw [hk a b]; simp [A.tot, A.sg], by omega⟩, _, rfl⟩ (λ i σ G _ h => h.1.2) ?_ ?_)
    . rintro j k v t' σ G' hj ⟨⟨sm', hp⟩, ⟨kvs, hg, hk, hlen⟩, w, rfl⟩ ht'
      rw [List.getElem?_map] at hj
      obtain ⟨p, hpj, e⟩ : ∃ p, gl[j]? = some p /\ gkv p = (k, v) := by
        cases h : gl[j]? with
        | none => rw [h] at hj; cases hj
        | some o => rw [h] at hj; exact ⟨o, rfl, by simpa using hj⟩
      unfold gkv at e
      cases e
      have hjl := (List.getElem?_eq_some_iff.mp hpj).1
      have hb : G' t' = some (.tup [.str p.1.1, .str p.1.2]) := ht'
      refine dget_i hg (dget2_at hg hb ?_)
      rw [hk p.1.1 p.1.2]
      refine getT_pl (.inr ⟨o, hp⟩) hb (giv_val nd hpj) (setT_i hg hb (by omega) ?_)
      refine ⟨⟨sm'.put n1, by rw [upd_ne npg.symm]; exact hp⟩, ⟨_, upd_same, ?_, ?_⟩, _, rfl⟩
      . have := hk.put p.1.1 p.1.2 p.2
        refine λ c d => (this c d).trans ?_
        show V.int (_ + _ + _) = V.int (_ + _)
        rw [take_snoc hpj, tot_snoc, Int.add_assoc]
      . exact Nat.le_trans (putK_len ..) (by omega)
    . rintro σ G' ⟨⟨sm', hp⟩, ⟨kvs, hg, hk, hlen⟩, w, rfl⟩
      rw [List.length_map, List.take_length] at hk
      refine ⟨⟨o, hp⟩, sm'.put (same_none sm n2), ⟨kvs, by rw [upd_ne npg]; exact hg, λ a b => ?_, ?_⟩, _, _, _, rfl⟩
      . rw [hk a b, take_snoc ho, cnt_snoc, hgl]
      . rw [List.length_map] at hlen
        omega
  . rintro σ G ⟨sm, ⟨kvs, hg, hk, hlen⟩, u, v, w, rfl⟩
    rw [tz.1, List.length_map, List.take_length] at hk
    exact q pc kvs G sm n1 hg hk
section
variable {K : PySem.W.Frag}
noncomputable def sp_law_some (K : PySem.W.Frag) : Sp := λ vs H Q _ => ∃ (a l : Addr) (ns : List Int) (zs : List V) (L : List (A.Sm Str)), vs = [.ref a, .ref l] /\ SqL K H a (ns.map V.int) /\ H l = some (.lst zs) /\ TupsAt H zs (L.map enc) /\ L.Nodup /\ L.length <= 300 ∧
  ∀ p ws (M : List (A.Sm Str)) H', Same H H' -> H p = none -> H' p = some (.lst ws) -> TupsAt H' ws (M.map enc) -> M.Nodup -> (∀ one ∈ M, one ∈ L) -> M.length <= 300 -> Q (.ref p) H'
noncomputable def tm_end (K : PySem.W.Frag) : TS :=
  (tSeq (sIf (bT (tOp eqG (tOp modG (tOp fdivG (tCall (sp_law_cell_at K) [] E0 (tCons (gv 0) (tCons (tC (.int 27)) tNil))) (tC (.int 256))) (tC (.int 2))) (tC (.int 1))))
    (tAsg (tListRev (tCons (gv 2) tNil)) (gName 2))
    tNext)
  (tRet (gv 2)))
noncomputable def t_law_some (K : PySem.W.Frag) : TS :=
  (tSeq (tAsg (tLstG tNil) (gName 2))
  (tSeq (sFor (iRngG (tCons (tCB lenG (tCons (gv 1) tNil)) tNil)) (gName 3)
    (tSeq (tAsg (tOp addG (tCall (sp_law_cell_at K) [] E0 (tCons (gv 0) (tCons (tOp addG (tC (.int 27)) (tOp modG (tOp fdivG (gv 3) (tC (.int 8))) (tC (.int 36)))) tNil))) (gv 3)) (gName 4))
    (sIf (bT (tOp eqG (tOp modG (tOp fdivG (gv 4) (tOp getG (tLstG (tCons (tC (.int 1)) (tCons (tC (.int 2)) (tCons (tC (.int 4)) (tCons (tC (.int 8)) (tCons (tC (.int 16)) (tCons (tC (.int 32)) (tCons (tC (.int 64)) (tCons (tC (.int 128)) tNil))))))))) (tOp modG (gv 3) (tC (.int 8))))) (tC (.int 2))) (tC (.int 1))))
      (tDrop (tBmG "append" (gv 2) (tCons (tOp getG (gv 1) (gv 3)) tNil)))
      tNext)))
  (tm_end K)))
theorem tups_rev {H : Hp} {ws : List V} {ls : List (List Str)} (h : TupsAt H ws ls) : TupsAt H ws.reverse ls.reverse := ⟨by rw [List.length_reverse, List.length_reverse, h.1], λ i l e => by
  have hi := (List.getElem?_eq_some_iff.mp e).1
  rw [List.length_reverse] at hi
  rw [List.getElem?_reverse hi] at e
  obtain ⟨t, h1, h2⟩ := h.2 _ l e
  exact ⟨t, by rw [List.getElem?_reverse (by rw [h.1]; exact hi), h.1]; exact h1, h2⟩⟩
theorem r_some_end {a l p : Addr} {u v : Option V} {ns : List Int} {ws : List V} {M : List (A.Sm Str)} {H : Hp} {D : Ends} (hS : SqL K H a (ns.map V.int)) (hp : H p = some (.lst ws)) (tw : TupsAt H ws (M.map enc)) (nd : M.Nodup) (q1 : D.rt (.ref p) H)
    (q : ∀ p' H', Same H H' -> H p' = none -> H' p' = some (.lst ws.reverse) -> TupsAt H' ws.reverse (M.reverse.map enc) -> D.rt (.ref p') H') : tm_end K D [some (.ref a), some (.ref l), some (.ref p), u, v] H := by
  refine ⟨a, ns, 27, rfl, hS, by decide, ⟨by decide, by decide⟩, by decide, ?_⟩
  refine br_of (λ b => ?_) (λ b => q1)
  refine lstRev_i hp (new_i λ p' G n s t => q p' G s n t ?_)
  rw [List.map_reverse]
  exact (tups_rev tw).same s
theorem pow_tab : ∀ j : Fin 8, ∃ m : Int, ([1, 2, 4, 8, 16, 32, 64, 128] : List Int)[j.val]? = some m /\ 0 < m /\ m < 2 ^ 200 := by
  intro j
  match j with
  | 0 => exact ⟨1, rfl, by decide, by decide⟩
  | 1 => exact ⟨2, rfl, by decide, by decide⟩
  | 2 => exact ⟨4, rfl, by decide, by decide⟩
  | 3 => exact ⟨8, rfl, by decide, by decide⟩
  | 4 => exact ⟨16, rfl, by decide, by decide⟩
  | 5 => exact ⟨32, rfl, by decide, by decide⟩
  | 6 => exact ⟨64, rfl, by decide, by decide⟩
  | 7 => exact ⟨128, rfl, by decide, by decide⟩
theorem r_law_some {a l : Addr} {ns : List Int} {zs : List V} {L : List (A.Sm Str)} {H : Hp} {D : Ends} (hS : SqL K H a (ns.map V.int)) (hl : H l = some (.lst zs)) (tz : TupsAt H zs (L.map enc)) (nd : L.Nodup) (hn : L.length <= 300)
    (q : ∀ p ws (M : List (A.Sm Str)) H', Same H H' -> H p = none -> H' p = some (.lst ws) -> TupsAt H' ws (M.map enc) -> M.Nodup -> (∀ one ∈ M, one ∈ L) -> M.length <= 300 -> D.rt (.ref p) H') : t_law_some K D [some (.ref a), some (.ref l), none, none, none] H := by
  have hs := sz
  have lz : zs.length = L.length := by rw [tz.1, List.length_map]
  refine ⟨few rfl, new_i λ p G1 n1 s1 t1 => ?_⟩
  refine sFor_i (lenL_i (s1 _ _ hl) ⟨⟨by omega, by omega⟩, ?_⟩)
  have nlp : l ≠ p := λ z => by rw [z, n1] at hl; cases hl
  refine loop_rng (λ i σ G => Same H G /\ (∃ ws M, G p = some (.lst ws) /\ TupsAt G ws (M.map enc) /\ M.Sublist (L.take i)) /\ ∃ u v, σ = [some (.ref a), some (.ref l), some (.ref p), u, v])
    ⟨s1, ⟨[], [], t1, .nil, by simp⟩, _, _, rfl⟩ ?_ ?_
  . rintro i σ G hi ⟨sm, ⟨ws, M, hg, tw, sub⟩, u, v, rfl⟩
    have hi : i < L.length := by rw [<- lz]; simpa using hi
    have ml : M.length <= 300 := by have := sub.length_le; rw [List.length_take] at this; omega
    refine ⟨⟨by decide, by decide⟩, by decide, a, ns, _, rfl, sm.seq hS, by omega, ?_⟩
    generalize cellAt ns _ = d
    refine ⟨few rfl, new_i λ pt G2 n2 s2 t2 => ⟨by decide, ?_⟩⟩
    obtain ⟨m, hm, m0, m1⟩ := pow_tab ⟨i % 8, by omega⟩
    have e8 : (0 + (i : Int)) % 8 = ((i % 8 : Nat) : Int) := by omega
    rw [e8]
    refine getL_i t2 (v := .int m) (atI_nat (by
      show (List.map V.int [1, 2, 4, 8, 16, 32, 64, 128])[i % 8]? = _
      rw [List.getElem?_map, hm]
      rfl)) ⟨⟨m0, m1⟩, by decide, ?_⟩
    obtain ⟨one, ho⟩ : ∃ one, L[i]? = some one := ⟨L[i], by simp [hi]⟩
    refine br_of (λ b => ?_) (λ b => ?_)
    . obtain ⟨t, h1, h2⟩ := tz.2 i (enc one) (by rw [List.getElem?_map, ho]; rfl)
      refine app_i (s2 _ _ hg) (getL_i ((sm.trans s2) _ _ hl) (v := .ref t) (by rw [Int.zero_add]; exact atI_nat h1) (app_at (s2 _ _ hg) ?_ ⟨(sm.trans s2).put n1, ⟨_, M ++ [one], upd_same, ?_, ?_⟩, _, _, rfl⟩))
      . rw [tw.1, List.length_map]
        omega
      . rw [List.map_append]
        exact ((tw.same s2).snoc ((sm.trans s2) _ _ h2)).put (s2 _ _ hg)
      . rw [take_snoc ho]
        exact sub.append (List.Sublist.refl _)
    . refine ⟨sm.trans s2, ⟨ws, M, s2 _ _ hg, tw.same s2, ?_⟩, _, _, rfl⟩
      rw [take_snoc ho]
      exact sub.trans (List.sublist_append_left ..)
  . rintro σ G ⟨sm, ⟨ws, M, hg, tw, sub⟩, u, v, rfl⟩
    have sub2 : M.Sublist L := sub.trans (List.take_sublist ..)
    have ml : M.length <= 300 := Nat.le_trans sub2.length_le hn
    refine r_some_end (sm.seq hS) hg tw (nd.sublist sub2) (q p ws M G sm n1 hg tw (nd.sublist sub2) (λ one h => sub2.subset h) ml) λ p' H' s n t tr => ?_
    exact q p' _ M.reverse H' (sm.trans s) (same_none sm n) t tr (List.pairwise_reverse.mpr ((nd.sublist sub2).imp λ h => Ne.symm h)) (λ one h => sub2.subset (List.mem_reverse.mp h)) (by rw [List.length_reverse]; exact ml)
end
end S3
end Tv
namespace Tv
open PySem PySem.Spec PyProof.Rows L2
namespace S3
open Nu
section
variable {K : PySem.W.Frag}
noncomputable def sp_law_counted (K : PySem.W.Frag) : Sp := λ vs H Q _ => ∃ (a : Addr) (ns : List Int) (at' many : Int), vs = [.ref a, .int at', .int many] /\ SqL K H a (ns.map V.int) /\ 0 <= at' /\ at' < 40 /\ 0 <= many /\ many <= 1000 ∧
  ∀ p (ms : List Int) H', Same H H' -> H p = none -> H' p = some (.lst (ms.map V.int)) -> (ms.length : Int) = many -> Q (.ref p) H'
noncomputable def t_law_counted (K : PySem.W.Frag) : TS :=
  (tSeq (tAsg (tOp subG (tC (.int 40)) (gv 1)) (gName 3))
  (tSeq (tAsg (tLstG tNil) (gName 4))
  (tSeq (sFor (iRngG (tCons (gv 2) tNil)) (gName 5)
    (tSeq (tAsg (tCall (sp_law_cell_at K) [] E0 (tCons (gv 0) (tCons (tOp addG (gv 1) (tOp modG (gv 5) (gv 3))) tNil))) (gName 6))
    (tSeq (sFor (iRngG (tCons (tOp fdivG (gv 5) (gv 3)) tNil)) (gName 7)
      (tAsg (tOp fdivG (gv 6) (tOp addG (tOp powG (tC (.int 10)) (tC (.int 18))) (tC (.int 1)))) (gName 6)))
    (tDrop (tBmG "append" (gv 4) (tCons (tOp modG (gv 6) (tOp addG (tOp powG (tC (.int 10)) (tC (.int 18))) (tC (.int 1)))) tNil))))))
  (tRet (gv 4)))))
theorem r_law_counted {a : Addr} {ns : List Int} {at' many : Int} {H : Hp} {D : Ends} (hS : SqL K H a (ns.map V.int)) (h0 : 0 <= at') (h1 : at' < 40) (h2 : 0 <= many) (h3 : many <= 1000)
    (q : ∀ p (ms : List Int) H', Same H H' -> H p = none -> H' p = some (.lst (ms.map V.int)) -> (ms.length : Int) = many -> D.rt (.ref p) H') : t_law_counted K D [some (.ref a), some (.int at'), some (.int many), none, none, none, none, none] H := by
  have hs := sz
  refine ⟨few rfl, new_i λ p G1 n1 s1 t1 => ?_⟩
  generalize hw : (40 : Int) - at' = wd
  have w1 : 1 <= wd /\ wd <= 40 := by omega
  refine sFor_i ⟨⟨by omega, by omega⟩, ?_⟩
  refine loop_rng (λ i σ G => Same H G /\ (∃ ms : List Int, G p = some (.lst (ms.map V.int)) /\ ms.length = i) /\ ∃ u v w, σ = [some (.ref a), some (.int at'), some (.int many), some (.int wd), some (.ref p), u, v, w])
    ⟨s1, ⟨[], t1, rfl⟩, _, _, _, rfl⟩ ?_ ?_
  . rintro i σ G hi ⟨sm, ⟨ms, hg, hl⟩, u, v, w, rfl⟩
    have m1 := Int.emod_nonneg (0 + (i : Int)) (show wd ≠ 0 by omega)
    refine ⟨by omega, a, ns, _, rfl, sm.seq hS, by omega, ?_⟩
    generalize cellAt ns _ = d
    have d1 : 0 <= (0 + (i : Int)) / wd := Int.ediv_nonneg (by omega) (by omega)
    have d2 : (0 + (i : Int)) / wd <= i := by
      have := Int.ediv_le_self wd (show 0 <= (0 + (i : Int)) by omega)
      omega
    refine sFor_i ⟨⟨by omega, Int.lt_of_le_of_lt w1.2 (by decide)⟩, ⟨by omega, by omega⟩, ?_⟩
    refine loop_rng (λ _ σ G' => G' = G /\ ∃ d w, σ = [some (.ref a), some (.int at'), some (.int many), some (.int wd), some (.ref p), some (.int (0 + i)), some (.int d), w]) ⟨rfl, _, _, rfl⟩ ?_ ?_
    . rintro j σ G' hj ⟨rfl, d, w, rfl⟩
      exact ⟨⟨by decide, by decide, by decide⟩, ⟨by decide, by decide⟩, rfl, _, _, rfl⟩
    . rintro σ G' ⟨rfl, d, w, rfl⟩
      refine app_i hg ⟨⟨by decide, by decide, by decide⟩, by decide, app_at hg (by rw [List.length_map]; omega) ⟨sm.put n1, ⟨ms ++ [_], by rw [upd_same, List.map_append]; rfl, by simp [hl]⟩, _, _, _, rfl⟩⟩
  . rintro σ G ⟨sm, ⟨ms, hg, hl⟩, u, v, w, rfl⟩
    exact q p ms G sm n1 hg (by omega)
end
noncomputable def FilD (kvs : List (List Key × V)) (P : List (Str × Str)) (F : Str -> Str -> Int) : Prop := ∀ p ∈ P, valV kvs (plK p.1 p.2) = some (.int (F p.1 p.2))
theorem FilD.put {kvs : List (List Key × V)} {P : List (Str × Str)} {F F' : Str -> Str -> Int} (h : FilD kvs P F) {a b : Str} {v : Int} (h1 : F' a b = v) (h2 : ∀ c d, (c, d) ∈ P -> (c, d) ≠ (a, b) -> F' c d = F c d) : FilD (putK kvs (plK a b) (.int v)) P F' := λ p hp => by
  rw [valV_put]
  by_cases e : p = (a, b)
  . subst e
    rw [if_pos rfl, h1]
  . rw [if_neg (λ z => e (by obtain ⟨z1, z2⟩ := pl_inj z; rw [<- Prod.eta p, z1, z2])), h p hp, h2 p.1 p.2 hp e]
theorem put_len {kvs : List (List Key × V)} {k : List Key} {v w : V} (h : valV kvs k = some w) : (putK kvs k v).length = kvs.length := by
  unfold putK
  rw [valV_any, h]
  simp
theorem mem_pl {L C : List Str} {a b : Str} : (a, b) ∈ prodP L C ↔ a ∈ L /\ b ∈ C := by
  unfold prodP
  rw [List.mem_flatMap]
  constructor
  . rintro ⟨x, hx, h⟩
    obtain ⟨y, hy, e⟩ := List.mem_map.mp h
    cases e
    exact ⟨hx, hy⟩
  . rintro ⟨h1, h2⟩
    exact ⟨a, h1, List.mem_map.mpr ⟨b, h2, rfl⟩⟩
theorem comp_val {a : Addr} {ys : List V} (f : V -> V) {tn : List Str} {fr : List (Str × Nat)} {g : TG} {tt : TT} {te : TE} {σ : St} {H : Hp} {Q : VK} (ha : H a = some (.lst ys)) (hz : ys.length < sizeLine)
    (turn : ∀ (i : Nat) (x : V), ys[i]? = some x -> ∀ (G : Hp) (k : VK) (B : Hp -> Prop), Same H G -> (∀ G', Same G G' -> k (f x) G') -> g x (inn tn fr σ) G λ σ2 G2 => tt σ2 G2 λ b G3 => br b (te σ2 G3 k) (B G3))
    (fin : ∀ p G, H p = none -> Same H G -> G p = some (.lst (ys.map f)) -> Q (.ref p) G) : compJ (Itl0 a) tn fr g tt te σ H Q := by
  unfold compJ
  intro p hp
  refine ⟨λ i m G => m = ys.length - i /\ i <= ys.length /\ Same H G /\ G p = some (.lst ((ys.take i).map f)), ⟨_, rfl, Nat.zero_le _, same_upd hp, upd_same⟩, ?_⟩
  rintro i m G ⟨rfl, hi, sm, hg⟩
  have hy := sm _ _ ha
  by_cases hlt : i < ys.length
  . refine .inr ⟨⟨ys, ys[i], .inl hy, by simp [hlt]⟩, λ G' => Same H G' /\ G' p = some (.lst ((ys.take (i + 1)).map f)), λ G' h => ⟨_, by omega, rfl, hlt, h⟩, λ x G' y => ?_⟩
    obtain ⟨rfl, y⟩ := y
    have hx := y ys (.inl hy)
    refine turn i x hx _ _ _ sm λ G2 s2 => ⟨_, s2 _ _ hg, ?_, (sm.trans s2).put hp, ?_⟩
    . rw [List.length_map, List.length_take]
      omega
    . rw [upd_same, take_snoc hx, List.map_append]
      rfl
  . have e : i = ys.length := by omega
    subst e
    rw [List.take_length] at hg
    exact .inl ⟨⟨ys, .inl hy, Nat.le_refl _⟩, fin p G hp sm hg⟩
theorem ints_map (l : List Int) : intsOf (l.map V.int) = some l := by
  induction l with
  | nil => rfl
  | cons x r ih =>
    show (match intsOf (r.map V.int) with
      | some l => some (x :: l)
      | none => none) = _
    rw [ih]
theorem sum_i {p : Addr} {l : List Int} {H : Hp} {Q : VK} (h : H p = some (.lst (l.map V.int))) (q : Q (.int l.sum) H) : sumG [.ref p] H Q := by
  unfold sumG
  simp only [h, ints_map]
  exact q
theorem sum_sg {α : Type} (l : List α) (f : α -> Int) : (l.map f).sum = A.sg l f := by
  induction l with
  | nil => rfl
  | cons x r ih => rw [List.map_cons, List.sum_cons, ih]; rfl
end S3
end Tv
namespace Tv
open PySem PySem.Spec PyProof.Rows L2
namespace S3
open Nu
noncomputable abbrev plc (ps : List (Str × Str)) (cs : List Str) : List (Str × Str) := prodP (("all" : Str) :: namesOf ps) (cs ++ [("all" : Str)])
noncomputable def tf_sum : TS :=
  (tSeq (sFor (iOf iterG (tOp addG (tLstG (tCons (tC (.str "all")) tNil)) (tCompI (iOf iterG (gv 0)) ["_law_name", "_law_above"] [] (gTup0 2 (gCons (gName 0) (gCons (gName 1) gNil))) tYes (gv 0)))) (gName 10)
    (tAsg (tCB sumG (tCons (tCompI (iOf iterG (gv 1)) ["_law_column"] [("_law_numbers", 3), ("_law_part", 10)] (gName 0) tYes (tOp getG (gv 1) (tTupG (tCons (gv 2) (tCons (gv 0) tNil))))) tNil)) (gSub (gv 3) (tTupG (tCons (gv 10) (tCons (tC (.str "all")) tNil))) setG)))
  (tRet (gv 3)))
noncomputable def tf_up : TS :=
  (tSeq (sFor (iRevG (tCons (gv 0) tNil)) (gTup0 2 (gCons (gName 8) (gCons (gName 9) gNil)))
    (sFor (iOf iterG (gv 1)) (gName 7)
      (tAsg (tOp addG (tOp getG (gv 3) (tTupG (tCons (gv 9) (tCons (gv 7) tNil)))) (tOp getG (gv 3) (tTupG (tCons (gv 8) (tCons (gv 7) tNil))))) (gSub (gv 3) (tTupG (tCons (gv 9) (tCons (gv 7) tNil))) setG))))
  tf_sum)
noncomputable def tf_rows : TS :=
  (tSeq (tAsg (tC (.int 0)) (gName 5))
  (tSeq (sFor (iOf iterG (tCall S.sp_law_rows [] E0 (tCons (gv 0) tNil))) (gName 6)
    (sFor (iOf iterG (gv 1)) (gName 7)
      (tSeq (tAsg (tOp getG (gv 2) (gv 5)) (gSub (gv 3) (tTupG (tCons (gv 6) (tCons (gv 7) tNil))) setG))
      (tAsg (tOp addG (gv 5) (tC (.int 1))) (gName 5)))))
  tf_up))
noncomputable def t_law_filled : TS :=
  (tSeq (tAsg tDNew (gName 3))
  (tSeq (sFor (iOf iterG (tCall sp_law_places [] E0 (tCons (gv 0) (tCons (gv 1) tNil)))) (gName 4)
    (tAsg (tC (.int 0)) (gSub (gv 3) (gv 4) setG)))
  tf_rows))
theorem key_in {ps : List (Str × Str)} {cs : List Str} {a b : Str} (ha : a = "all" \/ a ∈ namesOf ps) (hb : b = "all" \/ b ∈ cs) : (a, b) ∈ plc ps cs := mem_pl.mpr ⟨by simpa using ha, by rcases hb with h | h <;> simp [h]⟩
theorem r_fsum {a c m d : Addr} {u0 u1 u2 u3 u4 u5 u6 : Option V} {xs : List V} {ps : List (Str × Str)} {cs : List Str} {F : Str -> Str -> Int} {kvs : List (List Key × V)} {H : Hp} {D : Ends} (ha : H a = some (.lst xs)) (pa : PairsAt H xs ps) (g : Good ps) (hc : H c = some (.lst (sts cs))) (cn : Nms cs) (h8 : cs.length <= 8)
    (hd : H d = some (.dT kvs)) (hf : FilD kvs (plc ps cs) F) (hz : kvs.length <= 225)
    (q : ∀ kvs' H', SameX d H H' -> H' d = some (.dT kvs') -> FilD kvs' (plc ps cs) (λ x y => A.tabT ("all" : Str) cs F (x, y)) -> D.rt (.ref d) H') :
    tf_sum D [some (.ref a), some (.ref c), some (.ref m), some (.ref d), u0, u1, u2, u3, u4, u5, u6] H := by
  have hs := sz
  have g2 := g.many
  have ln : (namesOf ps).length = ps.length := List.length_map ..
  have hal : ∀ e ∈ cs, e ≠ "all" := λ e he => (nameB_at (cn.1 e he)).2.2
  have nad : a ≠ d := λ z => by rw [z, hd] at ha; cases ha
  have ncd : c ≠ d := λ z => by rw [z, hd] at hc; cases hc
  refine sFor_i ⟨few rfl, new_i λ r1 G2 n2 s2 t2 => comp_i (iterL_i (s2 _ _ ha) (comp_l (fstOf H) (s2 _ _ ha) (by rw [pa.1]; omega) ?_ ?_))⟩
  . intro i z hz G k sm hk
    obtain ⟨r, t, hr, rfl, ht⟩ := pa.at hz
    rw [fst_at ht] at hk
    exact ⟨t, _, rfl, .inl (sm _ _ (s2 _ _ ht)), rfl, _, _, rfl, _, _, rfl, rfl, br_t rfl hk⟩
  intro r2 G3 n3 s3 t3
  rw [pa.fsts] at t3
  refine addL_i (s3 _ _ t2) t3 (by simp; omega) (new_i λ r3 G4 n4 s4 t4 => ?_)
  have e4 : ([V.str "all"] ++ sts (ps.map (·.1))) = sts ("all" :: namesOf ps) := rfl
  rw [e4] at t4
  have s24 := s2.trans (s3.trans s4)
  have nr : r3 ≠ d := λ z => by rw [z, (s2.trans s3) _ _ hd] at n4; cases n4
  have nd : (("all" : Str) :: namesOf ps).Nodup := g.keys
  have inP : ∀ n ∈ (("all" : Str) :: namesOf ps), ∀ e : Str, e = "all" \/ e ∈ cs -> (n, e) ∈ plc ps cs := λ n hn e he => key_in (by simpa using hn) he
  generalize hP : plc ps cs = P at *
  generalize hN : (("all" : Str) :: namesOf ps) = N at *
  refine iterL_i t4 (loop_lst (xs := sts N) (λ i σ G => (SameX d H G /\ G r3 = some (.lst (sts N))) /\ (∃ kvs, G d = some (.dT kvs) /\ FilD kvs P (λ x y => if y = "all" /\ x ∈ N.take i then A.sg cs (F x) else F x y) /\ kvs.length <= 225) /\ ∃ u6, σ = [some (.ref a), some (.ref c), some (.ref m), some (.ref d), u0, u1, u2, u3, u4, u5, u6])
    ⟨⟨same_x s24, t4⟩, ⟨kvs, s24 _ _ hd, λ p hp => by rw [hf p hp]; simp, hz⟩, _, rfl⟩ (λ i σ G _ h => h.1.2) ?_ ?_)
  . rintro i y σ G hy ⟨⟨sm, hr⟩, ⟨kvs, hg, hf, hz⟩, u6, rfl⟩
    obtain ⟨n, hn, rfl⟩ := sts_at hy
    have hi := (List.getElem?_eq_some_iff.mp hn).1
    have hnm := List.mem_of_getElem? hn
    have nout : n ∉ N.take i := λ h => by
      obtain ⟨j, hj⟩ := List.mem_iff_getElem?.mp h
      have hjl := (List.getElem?_eq_some_iff.mp hj).1
      rw [List.length_take] at hjl
      rw [List.getElem?_take_of_lt (by omega)] at hj
      have : j = i := (List.getElem?_inj (by omega) nd).mp (by rw [hj, hn])
      omega
    refine comp_i (iterL_i (sm _ _ ncd hc) (comp_val (λ v => match v with
      | .str e => .int (F n e)
      | _ => .non) (sm _ _ ncd hc) (by simp; omega) ?_ ?_))
    . intro j z hj G' k B s' hk
      obtain ⟨e, he, rfl⟩ := sts_at hj
      have hem := List.mem_of_getElem? he
      refine br_t rfl ⟨few rfl, new_i λ t G5 n5 s5 t5 => getT_pl (.inl (s5 _ _ (s' _ _ hg))) t5 ?_ (hk G5 s5)⟩
      have v : valV kvs (plK n e) = some (.int (if e = "all" /\ n ∈ N.take i then A.sg cs (F n) else F n e)) := hf (n, e) (inP n hnm e (.inr hem))
      rw [if_neg λ z => hal e hem z.1] at v
      exact v
    intro pl G5 n5 s5 t5
    have e5 : ((sts cs).map λ v => match v with
      | .str e => V.int (F n e)
      | _ => .non) = (cs.map (F n)).map V.int := by
      rw [show sts cs = cs.map V.str from rfl, List.map_map, List.map_map]
      rfl
    rw [e5] at t5
    refine sum_i t5 ⟨few rfl, new_i λ t G6 n6 s6 t6 => setT_i ((s5.trans s6) _ _ hg) t6 (by omega) ?_⟩
    rw [sum_sg]
    have s56 := s5.trans s6
    refine ⟨⟨(sm.trans (same_x s56)).trans sameX_upd, by rw [upd_ne nr]; exact s56 _ _ hr⟩, ⟨_, upd_same, hf.put ?_ ?_, ?_⟩, _, rfl⟩
    . simp [take_snoc hn]
    . intro x y _ hne
      rw [take_snoc hn]
      by_cases hy : y = "all"
      . have hx : x ≠ n := λ z => hne (by rw [z, hy])
        simp [hy, hx]
      . simp [hy]
    . rw [put_len (hf (n, "all") (inP n hnm _ (.inl rfl)))]
      exact hz
  . rintro σ G ⟨⟨sm, hr⟩, ⟨kvs, hg, hf, hz⟩, u6, rfl⟩
    rw [show (sts N).length = N.length from List.length_map .., List.take_length] at hf
    refine q kvs G sm hg λ p hp => ?_
    rw [hf p hp]
    unfold A.tabT
    have hx : p.1 ∈ N := by
      rw [<- hP] at hp
      have := (mem_pl.mp (show (p.1, p.2) ∈ _ from hp)).1
      rw [<- hN]
      exact this
    by_cases hy : p.2 = "all"
    . simp [hy, hx]
    . simp [hy]
theorem rv_at {α : Type} {l : List α} {i : Nat} (h : i < l.length) : l.reverse[i]? = l[l.length - 1 - i]? := List.getElem?_reverse h
theorem r_fup {a c m d : Addr} {u0 u1 u2 u3 u4 u5 u6 : Option V} {xs : List V} {ps : List (Str × Str)} {cs : List Str} {N : Str -> Str -> Int} {kvs : List (List Key × V)} {H : Hp} {D : Ends} (ha : H a = some (.lst xs)) (pa : PairsAt H xs ps) (g : Good ps) (hc : H c = some (.lst (sts cs))) (cn : Nms cs) (h8 : cs.length <= 8)
    (hd : H d = some (.dT kvs)) (hf : FilD kvs (plc ps cs) N) (hz : kvs.length <= 225)
    (q : ∀ kvs' H', SameX d H H' -> H' d = some (.dT kvs') -> FilD kvs' (plc ps cs) (λ x y => A.tabT ("all" : Str) cs (A.upT cs N ps) (x, y)) -> D.rt (.ref d) H') :
    tf_up D [some (.ref a), some (.ref c), some (.ref m), some (.ref d), u0, u1, u2, u3, u4, u5, u6] H := by
  have hs := sz
  have g2 := g.many
  have nad : a ≠ d := λ z => by rw [z, hd] at ha; cases ha
  have ncd : c ≠ d := λ z => by rw [z, hd] at hc; cases hc
  have inP : ∀ n : Str, n = "all" \/ n ∈ namesOf ps -> ∀ e ∈ cs, (n, e) ∈ plc ps cs := λ n hn e he => key_in hn (.inr he)
  refine sFor_i (iterV_i ha (loop_rev (xs := xs) (λ i σ G => SameX d H G /\ (∃ kvs, G d = some (.dT kvs) /\ FilD kvs (plc ps cs) (A.upT cs N (ps.drop (ps.length - i))) /\ kvs.length <= 225) /\ ∃ u3 u4 u5, σ = [some (.ref a), some (.ref c), some (.ref m), some (.ref d), u0, u1, u2, u3, u4, u5, u6])
    ⟨λ _ _ _ e => e, ⟨kvs, hd, by simpa [A.upT] using hf, hz⟩, _, _, _, rfl⟩ (λ i σ G _ h => h.1 _ _ nad ha) ?_ ?_))
  . rintro i y σ G hy ⟨sm, ⟨kvs, hg, hf, hz⟩, u3, u4, u5, rfl⟩
    have hil : i < xs.length := by
      have := (List.getElem?_eq_some_iff.mp hy).1
      simpa using this
    rw [rv_at hil] at hy
    obtain ⟨r, t, hr, rfl, ht⟩ := pa.at hy
    have hlp : xs.length = ps.length := pa.1
    rw [hlp] at hr hil
    have ntd : t ≠ d := λ z => by rw [z, hd] at ht; cases ht
    have hrm : r ∈ ps := List.mem_of_getElem? hr
    have r1 : r.1 ∈ namesOf ps := List.mem_map.mpr ⟨r, hrm, rfl⟩
    have r2 : r.2 = "all" \/ r.2 ∈ namesOf ps := (Good.gd g).above_in (show (r.1, r.2) ∈ ps from hrm)
    have r12 : r.1 ≠ r.2 := λ e => (Good.gd g).not_self (m := r.1) (by
      have hz : (r.1, r.2) ∈ ps := hrm
      rw [<- e] at hz
      exact hz)
    have ed : ps.drop (ps.length - (i + 1)) = r :: ps.drop (ps.length - i) := by
      have h1 : ps.length - (i + 1) = ps.length - 1 - i := by omega
      rw [h1, List.drop_eq_getElem_cons (by omega)]
      have h2 : ps[ps.length - 1 - i] = r := by
        rw [List.getElem?_eq_getElem (by omega)] at hr
        exact Option.some.inj hr
      rw [h2, show ps.length - 1 - i + 1 = ps.length - i by omega]
    rw [ed]
    have hM : A.upT cs N (r :: ps.drop (ps.length - i)) = λ x y => if x = r.2 /\ y ∈ cs then A.upT cs N (ps.drop (ps.length - i)) x y + A.upT cs N (ps.drop (ps.length - i)) r.1 y else A.upT cs N (ps.drop (ps.length - i)) x y := rfl
    generalize A.upT cs N (ps.drop (ps.length - i)) = M at hf hM
    refine ⟨t, _, rfl, .inl (sm _ _ ntd ht), rfl, _, _, rfl, _, _, rfl, rfl, ?_⟩
    refine sFor_i (iterL_i (sm _ _ ncd hc) (loop_lst (xs := sts cs) (λ j σ G => SameX d H G /\ (∃ kvs, G d = some (.dT kvs) /\ FilD kvs (plc ps cs) (λ x y => if x = r.2 /\ y ∈ cs.take j then M x y + M r.1 y else M x y) /\ kvs.length <= 225) /\ ∃ u3, σ = [some (.ref a), some (.ref c), some (.ref m), some (.ref d), u0, u1, u2, u3, some (.str r.1), some (.str r.2), u6])
      ⟨sm, ⟨kvs, hg, λ p hp => by rw [hf p hp]; simp, hz⟩, _, rfl⟩ (λ i σ G _ h => h.1 _ _ ncd hc) ?_ ?_))
    . rintro j y σ G hy ⟨sm, ⟨kvs, hg, hf, hz⟩, u3, rfl⟩
      obtain ⟨e, he, rfl⟩ := sts_at hy
      have hem := List.mem_of_getElem? he
      have eout : e ∉ cs.take j := λ h => by
        obtain ⟨k, hk⟩ := List.mem_iff_getElem?.mp h
        have hkl := (List.getElem?_eq_some_iff.mp hk).1
        rw [List.length_take] at hkl
        rw [List.getElem?_take_of_lt (by omega)] at hk
        have : k = j := (List.getElem?_inj (by omega) cn.2).mp (by rw [hk, he])
        omega
      have v2 : valV kvs (plK r.2 e) = some (.int (if r.2 = r.2 /\ e ∈ cs.take j then M r.2 e + M r.1 e else M r.2 e)) := hf (r.2, e) (inP _ r2 e hem)
      have v1 : valV kvs (plK r.1 e) = some (.int (if r.1 = r.2 /\ e ∈ cs.take j then M r.1 e + M r.1 e else M r.1 e)) := hf (r.1, e) (inP _ (.inr r1) e hem)
      rw [if_neg λ z => eout z.2] at v2
      rw [if_neg λ z => r12 z.1] at v1
      refine ⟨few rfl, new_i λ k1 G1 n1 s1 t1 => getT_pl (.inl (s1 _ _ hg)) t1 v2 ⟨few rfl, new_i λ k2 G2 n2 s2 t2 => getT_pl (.inl ((s1.trans s2) _ _ hg)) t2 v1 ⟨few rfl, new_i λ k3 G3 n3 s3 t3 => ?_⟩⟩⟩
      have s13 := s1.trans (s2.trans s3)
      refine setT_i (s13 _ _ hg) t3 (by omega) ⟨(sm.trans (same_x s13)).trans sameX_upd, ⟨_, upd_same, hf.put ?_ ?_, ?_⟩, _, rfl⟩
      . simp [take_snoc he]
      . intro x y _ hne
        rw [take_snoc he]
        by_cases hx : x = r.2
        . have hy : y ≠ e := λ z => hne (by rw [hx, z])
          simp [hx, hy]
        . simp [hx]
      . rw [put_len (hf (r.2, e) (inP _ r2 e hem))]
        exact hz
    . rintro σ G ⟨sm, ⟨kvs, hg, hf, hz⟩, u3, rfl⟩
      rw [show (sts cs).length = cs.length from List.length_map .., List.take_length] at hf
      exact ⟨sm, ⟨kvs, hg, by rw [hM]; exact hf, hz⟩, _, _, _, rfl⟩
  . rintro σ G ⟨sm, ⟨kvs, hg, hf, hz⟩, u3, u4, u5, rfl⟩
    rw [pa.1, Nat.sub_self, List.drop_zero] at hf
    exact r_fsum (sm _ _ nad ha) ⟨pa.1, λ j p e => by obtain ⟨t, h1, h2⟩ := pa.2 j p e; exact ⟨t, h1, sm _ _ (λ z => by rw [z, hd] at h2; cases h2) h2⟩⟩ g (sm _ _ ncd hc) cn h8 hg hf hz λ kvs' H' s' t' f' => q kvs' H' (sm.trans s') t' f'
theorem r_frows {a c m d : Addr} {u0 u1 u2 u3 u4 u5 u6 : Option V} {xs : List V} {ms : List Int} {ps : List (Str × Str)} {cs : List Str} {kvs : List (List Key × V)} {H : Hp} {D : Ends} (ha : H a = some (.lst xs)) (pa : PairsAt H xs ps) (g : Good ps) (hc : H c = some (.lst (sts cs))) (cn : Nms cs) (h8 : cs.length <= 8)
    (hm : H m = some (.lst (ms.map V.int))) (lm : ms.length = (rowsOf ps).length * cs.length) (hd : H d = some (.dT kvs)) (hf : FilD kvs (plc ps cs) λ _ _ => 0) (hz : kvs.length <= 225)
    (q : ∀ N kvs' H', SameX d H H' -> H' d = some (.dT kvs') -> FilD kvs' (plc ps cs) (λ x y => A.tabT ("all" : Str) cs (A.upT cs N ps) (x, y)) -> (∀ n e, below ps n ≠ [] -> N n e = 0) -> D.rt (.ref d) H') :
    tf_rows D [some (.ref a), some (.ref c), some (.ref m), some (.ref d), u0, u1, u2, u3, u4, u5, u6] H := by
  have hs := sz
  have g2 := g.many
  have nad : a ≠ d := λ z => by rw [z, hd] at ha; cases ha
  have ncd : c ≠ d := λ z => by rw [z, hd] at hc; cases hc
  have nmd : m ≠ d := λ z => by rw [z, hd] at hm; cases hm
  refine sFor_i ⟨a, xs, ps, rfl, ha, pa, g2, λ pr G1 s1 n1 t1 => ?_⟩
  have npd : pr ≠ d := λ z => by rw [z, hd] at n1; cases n1
  have inR : ∀ n ∈ rowsOf ps, n ∈ namesOf ps /\ below ps n = [] := λ n hn => by
    obtain ⟨h1, h2⟩ := List.mem_filter.mp hn
    exact ⟨h1, List.isEmpty_iff.mp h2⟩
  generalize hR : rowsOf ps = R at *
  refine iterL_i t1 (loop_lst (xs := sts R) (λ i σ G => (SameX d H G /\ G pr = some (.lst (sts R))) /\ (∃ F kvs, G d = some (.dT kvs) /\ FilD kvs (plc ps cs) F /\ (∀ n e, n ∉ R -> F n e = 0) /\ kvs.length <= 225) /\ ∃ u2 u3, σ = [some (.ref a), some (.ref c), some (.ref m), some (.ref d), u0, some (.int ((i * cs.length : Nat) : Int)), u2, u3, u4, u5, u6])
    ⟨⟨same_x s1, t1⟩, ⟨_, kvs, s1 _ _ hd, hf, λ _ _ _ => rfl, hz⟩, u2, u3, by rw [Nat.zero_mul]; rfl⟩ (λ i σ G _ h => h.1.2) ?_ ?_)
  . rintro i y σ G hy ⟨⟨sm, hr⟩, ⟨F, kvs, hg, hf, h0, hz⟩, u2, u3, rfl⟩
    obtain ⟨n, hn, rfl⟩ := sts_at hy
    have hi := (List.getElem?_eq_some_iff.mp hn).1
    have hnm := List.mem_of_getElem? hn
    refine sFor_i (iterL_i (sm _ _ ncd hc) (loop_lst (xs := sts cs) (λ j σ G => (SameX d H G /\ G pr = some (.lst (sts R))) /\ (∃ F kvs, G d = some (.dT kvs) /\ FilD kvs (plc ps cs) F /\ (∀ n e, n ∉ R -> F n e = 0) /\ kvs.length <= 225) /\ ∃ u3, σ = [some (.ref a), some (.ref c), some (.ref m), some (.ref d), u0, some (.int ((i * cs.length + j : Nat) : Int)), some (.str n), u3, u4, u5, u6])
      ⟨⟨sm, hr⟩, ⟨F, kvs, hg, hf, h0, hz⟩, _, rfl⟩ (λ i σ G _ h => h.1.1 _ _ ncd hc) ?_ ?_))
    . rintro j y σ G hy ⟨⟨sm, hr⟩, ⟨F, kvs, hg, hf, h0, hz⟩, u3, rfl⟩
      obtain ⟨e, he, rfl⟩ := sts_at hy
      have hj := (List.getElem?_eq_some_iff.mp he).1
      have hem := List.mem_of_getElem? he
      have hlt : i * cs.length + j < ms.length := by
        rw [lm]
        have := Nat.mul_le_mul_right cs.length (show i + 1 <= R.length from hi)
        rw [Nat.succ_mul] at this
        omega
      refine getL_i (sm _ _ nmd hm) (v := .int ms[i * cs.length + j]) (atI_nat (by rw [List.getElem?_map, List.getElem?_eq_getElem hlt]; rfl)) ⟨few rfl, new_i λ t G5 n5 s5 t5 => setT_i (s5 _ _ hg) t5 (by omega) ?_⟩
      have inP : (n, e) ∈ plc ps cs := key_in (.inr (inR n hnm).1) (.inr hem)
      refine ⟨⟨(sm.trans (same_x s5)).trans sameX_upd, by rw [upd_ne npd]; exact s5 _ _ hr⟩, ⟨λ x y => if (x, y) = (n, e) then ms[i * cs.length + j] else F x y, _, upd_same, hf.put (by simp) (λ x y _ hne => if_neg hne), λ x y hx => ?_, ?_⟩, some (.str e), ?_⟩
      . show (if (x, y) = (n, e) then _ else F x y) = 0
        rw [if_neg λ z => hx (by cases z; exact hnm)]
        exact h0 x y hx
      . rw [put_len (hf (n, e) inP)]
        exact hz
      . rfl
    . rintro σ G ⟨⟨sm, hr⟩, ⟨F, kvs, hg, hf, h0, hz⟩, u3, rfl⟩
      refine ⟨⟨sm, hr⟩, ⟨F, kvs, hg, hf, h0, hz⟩, some (.str n), u3, ?_⟩
      rw [show (sts cs).length = cs.length from List.length_map .., Nat.succ_mul]
  . rintro σ G ⟨⟨sm, hr⟩, ⟨F, kvs, hg, hf, h0, hz⟩, u2, u3, rfl⟩
    refine r_fup (sm _ _ nad ha) ⟨pa.1, λ j p e => by obtain ⟨t, h1, h2⟩ := pa.2 j p e; exact ⟨t, h1, sm _ _ (λ z => by rw [z, hd] at h2; cases h2) h2⟩⟩ g (sm _ _ ncd hc) cn h8 hg hf hz λ kvs' H' s' t' f' => q F kvs' H' (sm.trans s') t' f' λ n e hb => h0 n e λ hm => hb (inR n hm).2
noncomputable def sp_law_filled : Sp := λ vs H Q _ => ∃ (a c m : Addr) (xs : List V) (ms : List Int) (ps : List (Str × Str)) (cs : List Str), vs = [.ref a, .ref c, .ref m] /\ H a = some (.lst xs) /\ PairsAt H xs ps /\ Good ps /\ H c = some (.lst (sts cs)) /\ Nms cs /\ cs.length <= 8 /\ H m = some (.lst (ms.map V.int)) /\ ms.length = (rowsOf ps).length * cs.length ∧
  ∀ p N kvs H', Same H H' -> H p = none -> H' p = some (.dT kvs) -> FilD kvs (plc ps cs) (λ x y => A.tabT ("all" : Str) cs (A.upT cs N ps) (x, y)) -> (∀ n e, below ps n ≠ [] -> N n e = 0) -> Q (.ref p) H'
theorem r_law_filled {a c m : Addr} {xs : List V} {ms : List Int} {ps : List (Str × Str)} {cs : List Str} {H : Hp} {D : Ends} (ha : H a = some (.lst xs)) (pa : PairsAt H xs ps) (g : Good ps) (hc : H c = some (.lst (sts cs))) (cn : Nms cs) (h8 : cs.length <= 8) (hm : H m = some (.lst (ms.map V.int))) (lm : ms.length = (rowsOf ps).length * cs.length)
    (q : ∀ p N kvs H', Same H H' -> H p = none -> H' p = some (.dT kvs) -> FilD kvs (plc ps cs) (λ x y => A.tabT ("all" : Str) cs (A.upT cs N ps) (x, y)) -> (∀ n e, below ps n ≠ [] -> N n e = 0) -> D.rt (.ref p) H') :
    t_law_filled D [some (.ref a), some (.ref c), some (.ref m), none, none, none, none, none, none, none, none] H := by
  have hs := sz
  have g2 := g.many
  refine .inr (new_i λ d G1 n1 s1 t1 => ?_)
  refine sFor_i ⟨a, c, xs, ps, cs, rfl, s1 _ _ ha, pa.same s1, g2, s1 _ _ hc, h8, λ pp zs G2 s2 n2 t2 pz => ?_⟩
  have ln : (plc ps cs).length <= 225 := pl_len g h8
  have npd : pp ≠ d := λ z => by rw [z, t1] at n2; cases n2
  have pz : PairsAt G2 zs (plc ps cs) := pz
  have s12 := s1.trans s2
  refine iterL_i t2 (loop_lst (xs := zs) (λ i σ G => (Same H G /\ PairsAt G zs (plc ps cs) /\ G pp = some (.lst zs)) /\ (∃ kvs, G d = some (.dT kvs) /\ FilD kvs ((plc ps cs).take i) (λ _ _ => 0) /\ kvs.length <= i) /\ ∃ u, σ = [some (.ref a), some (.ref c), some (.ref m), some (.ref d), u, none, none, none, none, none, none])
    ⟨⟨s12, pz, t2⟩, ⟨[], s2 _ _ t1, λ p hp => by simp at hp, Nat.le_refl _⟩, _, rfl⟩ (λ i σ G _ h => h.1.2.2) ?_ ?_)
  . rintro i y σ G hy ⟨⟨sm, pz, hp⟩, ⟨kvs, hg, hf, hz⟩, u, rfl⟩
    obtain ⟨r, t, hr, rfl, ht⟩ := pz.at hy
    have hi := (List.getElem?_eq_some_iff.mp hr).1
    refine setT_i hg ht (by omega) ⟨⟨sm.put n1, ⟨pz.1, λ j p e => ?_⟩, by rw [upd_ne npd]; exact hp⟩, ⟨_, upd_same, λ p hp => ?_, Nat.le_trans (putK_len ..) (by omega)⟩, _, rfl⟩
    . obtain ⟨t', h1, h2⟩ := pz.2 j p e
      exact ⟨t', h1, by rw [upd_ne (λ z => by rw [z, hg] at h2; cases h2)]; exact h2⟩
    . rw [valV_put]
      by_cases e : p = r
      . subst e
        rw [if_pos rfl]
      . rw [if_neg λ z => e (by obtain ⟨z1, z2⟩ := pl_inj z; rw [<- Prod.eta p, z1, z2])]
        rw [take_snoc hr] at hp
        rcases List.mem_append.mp hp with hp | hp
        . exact hf p hp
        . exact (e (List.mem_singleton.mp hp)).elim
  . rintro σ G ⟨⟨sm, pz, hp⟩, ⟨kvs, hg, hf, hz⟩, u, rfl⟩
    rw [pz.1, List.take_length] at hf
    have hz : kvs.length <= 225 := by rw [pz.1] at hz; omega
    exact r_frows (sm _ _ ha) (pa.same sm) g (sm _ _ hc) cn h8 (sm _ _ hm) lm hg hf hz λ N kvs' H' s' t' f' hN => q d N kvs' H' (same_of_x n1 sm s') n1 t' f' hN
end S3
end Tv
namespace Tv
open PySem PySem.Spec PyProof.Rows L2
namespace S3
open Nu
theorem inT_i {neg : Bool} {p : Addr} {x : V} {ys : List V} {es : List PyData} {d : PyData} {H : Hp} {Q : VK} (h : H p = some (.tup ys)) (he : rdAll H ys = some es) (hd : rdD 7 H x = some d) (q : Q (.bl (neg ^^ es.any λ e => PyData.eqv e d)) H) : inG neg x (.ref p) H Q := by
  unfold inG
  simp only [h, he, hd]
  exact q
noncomputable def nz (f : Str -> Str -> Int) (P : List (Str × Str)) : List (Str × Str) := P.filter λ p => !(f p.1 p.2 == 0)
theorem kvL_nz (f : Str -> Str -> Int) (P : List (Str × Str)) : kvL f P = (nz f P).map λ p => (plK p.1 p.2, .int (f p.1 p.2)) := by
  unfold kvL nz
  induction P with
  | nil => rfl
  | cons p r ih =>
    rw [List.filterMap_cons, List.filter_cons]
    by_cases h : f p.1 p.2 = 0
    . simp only [h, if_true, Option.map_none, beq_self_eq_true, Bool.not_true]
      exact ih
    . have hb : (!(f p.1 p.2 == 0)) = true := by simpa using h
      rw [if_neg h, if_pos hb, List.map_cons, <- ih]
      rfl
theorem kvL_zero {f : Str -> Str -> Int} {P : List (Str × Str)} (h : ∀ p ∈ P, f p.1 p.2 = 0) : kvL f P = [] := by
  rw [kvL_nz, nz, List.filter_eq_nil_iff.mpr λ p hp => by simp [h p hp]]
  rfl
theorem nz_val {f : Str -> Str -> Int} {P : List (Str × Str)} {p : Str × Str} (hp : p ∈ nz f P) : valV (kvL f P) (plK p.1 p.2) = some (.int (f p.1 p.2)) := by
  rw [kvL_nz]
  generalize nz f P = L at hp
  induction L with
  | nil => cases hp
  | cons x r ih =>
    rw [List.map_cons]
    by_cases e : plK x.1 x.2 = plK p.1 p.2
    . rw [valV_pos (p := (plK x.1 x.2, .int (f x.1 x.2))) e]
      obtain ⟨h1, h2⟩ := pl_inj e
      rw [h1, h2]
    . rw [valV_neg (p := (plK x.1 x.2, .int (f x.1 x.2))) e]
      rcases List.mem_cons.mp hp with rfl | hp
      . exact (e rfl).elim
      . exact ih hp
theorem IsSm.all {ps : List (Str × Str)} {cs : List Str} {M : List (A.Sm Str)} (h : ∀ one ∈ M, one ∈ smL ps cs) : ∀ one ∈ M, A.IsSm ("all" : Str) ps cs one := λ one ho => mem_smL.mp (h one ho)
theorem pl_mem {ps : List (Str × Str)} {cs : List Str} {p : Str × Str} (h : p ∈ plc ps cs) : (p.1 = "all" \/ p.1 ∈ ps.map (·.1)) /\ (p.2 = "all" \/ p.2 ∈ cs) := by
  obtain ⟨h1, h2⟩ := mem_pl.mp (show (p.1, p.2) ∈ _ from h)
  refine ⟨List.mem_cons.mp h1, ?_⟩
  rcases List.mem_append.mp h2 with h | h
  . exact .inr h
  . exact .inl (List.mem_singleton.mp h)
section
variable {K : PySem.W.Frag} {cl : Addr}
noncomputable def tl_end (cl : Addr) : TS :=
  (tSeq (tDrop (tBmG "clear" (gv 8) tNil))
  (tSeq (sIf (tOrB (bT (tOp neG (gv 11) (tC (.int 0)))) (bT (tOp neG (tListItems (tCall (sp_added cl) [] E0 (tCons (gv 3) (tCons (gv 6) tNil)))) (gv 10))))
    (tRet (tC (.bl false)))
    tNext)
  (tRet (tAndG (tOp eqE (tCall (sp_added cl) [] E0 (tCons (gv 3) (tCons (tLstG tNil) tNil))) tDNew) (tOp eqE (tCall (sp_added cl) [] E0 (tCons (gv 3) (tCons (gv 5) tNil))) tDNew)))))
noncomputable def tl_turn : TS :=
  (tSeq (sIf (tOrB (bT (tOp (inG true) (gv 15) (tTupG (tCons (tC (.int 1)) (tCons (tUn negG (tC (.int 1))) tNil))))) (ptG (tCB isiG (tCons (tOp getG (gv 8) (gv 14)) (tCons (tC (.ty "bool")) tNil)))))
      (tRet (tC (.bl false)))
      tNext)
    (tAsg (tOp addG (gv 11) (tOp mulG (gv 15) (tOp getG (gv 13) (gv 14)))) (gName 11)))
noncomputable def tl_loop (cl : Addr) : TS :=
  (tSeq (sFor (iOf iterG (gv 10)) (gTup0 2 (gCons (gName 14) (gCons (gName 15) gNil))) tl_turn)
  (tl_end cl))
noncomputable def tl_mid (K : PySem.W.Frag) (cl : Addr) : TS :=
  (tSeq (tAsg (tC (.int 0)) (gName 11))
  (tSeq (tAsg (tOp mulG (tCB lenG (tCons (tCall S.sp_law_rows [] E0 (tCons (gv 1) tNil)) tNil)) (tCB lenG (tCons (gv 2) tNil))) (gName 12))
  (tSeq (tAsg (tCall sp_law_filled [] E0 (tCons (gv 1) (tCons (gv 2) (tCons (tCall (sp_law_counted K) [] E0 (tCons (gv 0) (tCons (tOp addG (tC (.int 3)) (tCB lenG (tCons (gv 1) tNil))) (tCons (gv 12) tNil)))) tNil)))) (gName 13))
  (tl_loop cl))))
noncomputable def tl_due (K : PySem.W.Frag) (cl : Addr) : TS :=
  (tSeq (tAsg (tCompI (iOf iterG (gv 4)) ["_law_place"] [("_law_counts", 9)] (gName 0) (bT (tOp neG (tBmG "get" (gv 1) (tCons (gv 0) (tCons (tC (.int 0)) tNil))) (tC (.int 0)))) (tTupG (tCons (gv 0) (tCons (tOp getG (gv 1) (gv 0)) tNil)))) (gName 10))
  (tSeq (sIf (tOrB (bT (tOp neG (gv 7) (gv 6))) (tOrB (tNot (ptG (tCB isiG (tCons (gv 8) (tCons (tC (.ty "dict")) tNil))))) (bT (tOp neG (tListItems (gv 8)) (gv 10)))))
    (tRet (tC (.bl false)))
    tNext)
  (tl_mid K cl)))
noncomputable def t23_law (K : PySem.W.Frag) (cl : Addr) : TS :=
  (tSeq (tAsg (tCall (sp_law_parts K) [] E0 (tCons (gv 0) tNil)) (gName 1))
  (tSeq (tAsg (tCall (sp_law_columns K) [] E0 (tCons (gv 0) tNil)) (gName 2))
  (tSeq (tAsg (tMake cl (sp_House_init cl) [] E0 (tCons (gv 1) (tCons (gv 2) tNil))) (gName 3))
  (tSeq (tAsg (tCall sp_law_places [] E0 (tCons (gv 1) (tCons (gv 2) tNil))) (gName 4))
  (tSeq (tAsg (tCall S.sp_law_sums [] E0 (tCons (gv 1) (tCons (gv 2) tNil))) (gName 5))
  (tSeq (tAsg (tCall (sp_law_some K) [] E0 (tCons (gv 0) (tCons (gv 5) tNil))) (gName 6))
  (tSeq (tAsg (tCB listG (tCons (gv 6) tNil)) (gName 7))
  (tSeq (tAsg (tCall (sp_added cl) [] E0 (tCons (gv 3) (tCons (gv 7) tNil))) (gName 8))
  (tSeq (tAsg (tCall sp_law_due [] E0 (tCons (gv 1) (tCons (gv 2) (tCons (gv 6) tNil)))) (gName 9))
  (tl_due K cl))))))))))
theorem r23_end {a pl pc x pp pd pm ph pf pk pu pn : Addr} {u w v : Option V} {ps : List (Str × Str)} {cs : List Str} {M : List (A.Sm Str)} {ws zs zd : List V} {kv : List (List Key × V)} {H0 H : Hp} {D : Ends} (sm : Same H0 H) (nf : H0 pf = none) (hh : HouseAt cl H0 x ps cs)
    (hm : H0 pm = some (.lst ws)) (tw : TupsAt H0 ws (M.map enc)) (isM : ∀ one ∈ M, one ∈ smL ps cs) (lM : M.length <= 300) (hd : H0 pd = some (.lst zs)) (tz : TupsAt H0 zs ((smL ps cs).map enc)) (hf : H pf = some (.dT kv)) (hu : H pu = some (.lst zd)) (pz : PrsL H (kvL (cnt3 ps cs M) (plc ps cs)) zd) (q : ∀ H', D.rt (.bl true) H') :
    tl_end cl D [some (.ref a), some (.ref pl), some (.ref pc), some (.ref x), some (.ref pp), some (.ref pd), some (.ref pm), some (.ref ph), some (.ref pf), some (.ref pk), some (.ref pu), some (.int 0), u, some (.ref pn), w, v] H := by
  have g := hh.good
  have cn := hh.nms
  refine clearT_i hf ?_
  have nuf : pu ≠ pf := λ z => by rw [z, hf] at hu; cases hu
  have S : Same H0 (upd H pf (.dT [])) := sm.put nf
  have hu' : upd H pf (.dT []) pu = some (.lst zd) := by rw [upd_ne nuf]; exact hu
  have pz' := PrsL.putD (o := .dT []) pz hf
  generalize upd H pf (.dT []) = G at S hu' pz' ⊢
  refine br_f rfl ⟨x, pm, ws, ps, cs, M, rfl, hh.same S, S _ _ hm, tw.same S, IsSm.all isM, lM, λ p1 G1 s1 n1 t1 => lstItems_i t1 λ p2 xs2 G2 s2 n2 t2 i2 => ?_⟩
  have s12 := s1.trans s2
  refine prs_eq t2 (s12 _ _ hu') i2 (Nu.PrsL.same pz' s12) (kvL_ints _ _) (br_f rfl ?_)
  have S2 := S.trans s12
  refine ⟨few rfl, new_i λ p3 G3 n3 s3 t3 => ⟨x, p3, [], ps, cs, [], rfl, hh.same (S2.trans s3), t3, .nil, (λ one h => by cases h), by simp, λ p4 G4 s4 n4 t4 => .inr (new_i λ p5 G5 n5 s5 t5 => ?_)⟩⟩
  rw [kvL_zero (f := cnt3 ps cs []) λ p _ => rfl] at t4
  refine eqE_i (s5 _ _ t4) t5 (br_t rfl ?_)
  have S5 := S2.trans (s3.trans (s4.trans s5))
  refine ⟨x, pd, zs, ps, cs, smL ps cs, rfl, hh.same S5, S5 _ _ hd, tz.same S5, λ one h => mem_smL.mp h, smL_len g hh.many, λ p6 G6 s6 n6 t6 => .inr (new_i λ p7 G7 n7 s7 t7 => ?_)⟩
  rw [kvL_zero λ p hp => A.cnt_all (Good.gd g) (cols_nd cn) (pl_mem hp).1 (pl_mem hp).2 (λ one => mem_smL) (smL_nd g cn)] at t6
  exact eqE_i (s7 _ _ t6) t7 (q G7)
theorem r23_loop {a pl pc x pp pd pm ph pf pk pu pn : Addr} {u w v : Option V} {ps : List (Str × Str)} {cs : List Str} {M : List (A.Sm Str)} {ws zs zd : List V} {kn : List (List Key × V)} {N : Str -> Str -> Int} {H0 H : Hp} {D : Ends} (sm : Same H0 H) (nf : H0 pf = none) (hh : HouseAt cl H0 x ps cs)
    (hm : H0 pm = some (.lst ws)) (tw : TupsAt H0 ws (M.map enc)) (isM : ∀ one ∈ M, one ∈ smL ps cs) (ndM : M.Nodup) (lM : M.length <= 300) (hd : H0 pd = some (.lst zs)) (tz : TupsAt H0 zs ((smL ps cs).map enc)) (hf : H pf = some (.dT (kvL (cnt3 ps cs M) (plc ps cs)))) (hu : H pu = some (.lst zd)) (pz : PrsL H (kvL (cnt3 ps cs M) (plc ps cs)) zd)
    (hn : H pn = some (.dT kn)) (fil : FilD kn (plc ps cs) λ x y => A.tabT ("all" : Str) cs (A.upT cs N ps) (x, y)) (hN : ∀ n e, below ps n ≠ [] -> N n e = 0) (q : ∀ H', D.rt (.bl true) H') :
    tl_loop cl D [some (.ref a), some (.ref pl), some (.ref pc), some (.ref x), some (.ref pp), some (.ref pd), some (.ref pm), some (.ref ph), some (.ref pf), some (.ref pk), some (.ref pu), some (.int 0), u, some (.ref pn), w, v] H := by
  have hs := sz
  have g := hh.good
  have cn := hh.nms
  have tz0 := A.total_zero (Good.gd g) (cols_nd cn) hN (pl_nd g cn) (λ a b ha hb => key_in ha hb) (IsSm.all isM)
  generalize hT : A.tabT ("all" : Str) cs (A.upT cs N ps) = T at *
  have lz := PrsL.len pz
  rw [kvL_nz, List.length_map] at lz
  refine sFor_i (iterL_i hu (loop_lst (xs := zd) (λ i σ G => Same H G /\ ∃ w v, σ = [some (.ref a), some (.ref pl), some (.ref pc), some (.ref x), some (.ref pp), some (.ref pd), some (.ref pm), some (.ref ph), some (.ref pf), some (.ref pk), some (.ref pu), some (.int (A.sg ((nz (cnt3 ps cs M) (plc ps cs)).take i) λ p => cnt3 ps cs M p.1 p.2 * T p)), u, some (.ref pn), w, v])
    ⟨Same.refl _, _, _, rfl⟩ (λ i σ G _ h => h.1 _ _ hu) ?_ ?_))
  . rintro i y σ G hy ⟨s, w, v, rfl⟩
    obtain ⟨kv, hkv, p, t, rfl, h1, h2⟩ := PrsL.get pz hy
    rw [kvL_nz, List.getElem?_map] at hkv
    obtain ⟨r, hr, rfl⟩ : ∃ r, (nz (cnt3 ps cs M) (plc ps cs))[i]? = some r /\ (plK r.1 r.2, V.int (cnt3 ps cs M r.1 r.2)) = kv := by
      cases h : (nz (cnt3 ps cs M) (plc ps cs))[i]? with
      | none => rw [h] at hkv; cases hkv
      | some o => rw [h] at hkv; exact ⟨o, rfl, by simpa using hkv⟩
    have hrm := List.mem_of_getElem? hr
    have hrP : r ∈ plc ps cs := (List.mem_filter.mp hrm).1
    have hr0 : cnt3 ps cs M r.1 r.2 ≠ 0 := by simpa using (List.mem_filter.mp hrm).2
    have hc := A.cnt_small (Good.gd g) (cols_nd cn) (pl_mem hrP).1 (pl_mem hrP).2 (IsSm.all isM) ndM
    have val := nz_val hrm
    have ht : H t = some (.tup [.str r.1, .str r.2]) := h2
    rw [take_snoc hr, A.sg_append]
    generalize A.sg ((nz (cnt3 ps cs M) (plc ps cs)).take i) _ = tt
    show gTup0 2 _ _ _ _ _
    generalize hk : cnt3 ps cs M r.1 r.2 = k at *
    have es : A.sg [r] (λ p => cnt3 ps cs M p.1 p.2 * T p) = k * T r := by
      show cnt3 ps cs M r.1 r.2 * T r + 0 = _
      rw [hk, Int.add_zero]
    have hk1 : k = 1 \/ k = -1 := by
      rcases hc with h | h | h
      . rw [show A.cnt ("all" : Str) ps cs M r.1 r.2 = k from hk] at h
        exact (hr0 h).elim
      . rw [show A.cnt ("all" : Str) ps cs M r.1 r.2 = k from hk] at h
        exact .inl h
      . rw [show A.cnt ("all" : Str) ps cs M r.1 r.2 = k from hk] at h
        exact .inr h
    refine ⟨p, _, rfl, .inl (s _ _ h1), rfl, _, _, rfl, _, _, rfl, rfl, ?_⟩
    refine ⟨few rfl, new_i λ p2 G2 n2 s2 t2 => inT_i t2 (es := [.int 1, .int (-1)]) rfl (d := .int k) rfl (br_f ?_ ?_)⟩
    . rcases hk1 with rfl | rfl <;> decide +kernel
    have s' := s.trans s2
    refine getT_pl (.inl (s' _ _ hf)) (s' _ _ ht) val (isi_i rfl (S := "int") rfl (br_f rfl ?_))
    refine getT_pl (.inl (s' _ _ hn)) (s' _ _ ht) (fil r hrP) ⟨.inl (.inl ⟨by rcases hk1 with rfl | rfl <;> decide, by rcases hk1 with rfl | rfl <;> decide⟩), s', some (.ref t), some (.int k), ?_⟩
    rw [es]
    rfl
  . rintro σ G ⟨s, w, v, rfl⟩
    have e0 : A.sg ((nz (cnt3 ps cs M) (plc ps cs)).take zd.length) (λ p => cnt3 ps cs M p.1 p.2 * T p) = 0 := by
      rw [lz, List.take_length]
      unfold nz
      rw [A.sg_filter _ _ _ λ p _ h => by
        have h : cnt3 ps cs M p.1 p.2 = 0 := by simpa using h
        rw [h, Int.zero_mul]]
      exact tz0
    rw [e0]
    exact r23_end (sm.trans s) nf hh hm tw isM lM hd tz (s _ _ hf) (s _ _ hu) (Nu.PrsL.same pz s) q
end
end S3
end Tv
namespace Tv
open PySem PySem.Spec PyProof.Rows L2
namespace S3
open Nu
section
variable {K : PySem.W.Frag} {cl : Addr}
theorem r23_mid {a pl pc x pp pd pm ph pf pk pu : Addr} {ns : List Int} {ps : List (Str × Str)} {cs : List Str} {M : List (A.Sm Str)} {xs ws zs zd : List V} {H0 H : Hp} {D : Ends} (sm : Same H0 H) (nf : H0 pf = none) (hh : HouseAt cl H0 x ps cs) (hS : SqL K H0 a (ns.map V.int)) (hl : H0 pl = some (.lst xs)) (pa : PairsAt H0 xs ps) (hc : H0 pc = some (.lst (sts cs)))
    (hm : H0 pm = some (.lst ws)) (tw : TupsAt H0 ws (M.map enc)) (isM : ∀ one ∈ M, one ∈ smL ps cs) (ndM : M.Nodup) (lM : M.length <= 300) (hd : H0 pd = some (.lst zs)) (tz : TupsAt H0 zs ((smL ps cs).map enc)) (hf : H pf = some (.dT (kvL (cnt3 ps cs M) (plc ps cs)))) (hu : H pu = some (.lst zd)) (pz : PrsL H (kvL (cnt3 ps cs M) (plc ps cs)) zd) (q : ∀ H', D.rt (.bl true) H') :
    tl_mid K cl D [some (.ref a), some (.ref pl), some (.ref pc), some (.ref x), some (.ref pp), some (.ref pd), some (.ref pm), some (.ref ph), some (.ref pf), some (.ref pk), some (.ref pu), none, none, none, none, none] H := by
  have hs := sz
  have g := hh.good
  have g2 := g.many
  have h8 := hh.many
  have lr := rows_len (ps := ps)
  refine ⟨pl, xs, ps, rfl, sm _ _ hl, pa.same sm, g2, λ pr G1 s1 n1 t1 => lenL_i t1 ?_⟩
  have S1 := sm.trans s1
  refine lenL_i (S1 _ _ hc) ⟨mul_small (by omega) ?_, ?_⟩
  . rw [show (sts cs).length = cs.length from List.length_map ..]
    omega
  rw [show (sts cs).length = cs.length from List.length_map .., show (sts (rowsOf ps)).length = (rowsOf ps).length from List.length_map ..]
  refine lenL_i (S1 _ _ hl) ?_
  have lx : xs.length = ps.length := pa.1
  have mm : (rowsOf ps).length * cs.length <= 24 * 8 := Nat.mul_le_mul (by omega) h8
  refine ⟨a, ns, _, _, rfl, S1.seq hS, by omega, by omega, by omega, by omega, λ pq ms G2 s2 n2 t2 lms => ?_⟩
  have S2 := S1.trans s2
  have lms' : ms.length = (rowsOf ps).length * cs.length := by
    have : (ms.length : Int) = (((rowsOf ps).length * cs.length : Nat) : Int) := by rw [lms]; simp
    omega
  refine ⟨pl, pc, pq, xs, ms, ps, cs, rfl, S2 _ _ hl, pa.same S2, g, S2 _ _ hc, hh.nms, h8, t2, lms', λ pn N kn G3 s3 n3 t3 fil hN => ?_⟩
  have s13 := s1.trans (s2.trans s3)
  exact r23_loop (sm.trans s13) nf hh hm tw isM ndM lM hd tz (s13 _ _ hf) (s13 _ _ hu) (Nu.PrsL.same pz s13) t3 fil hN q
theorem r23_due {a pl pc x pp pd pm ph pf pk : Addr} {ns : List Int} {ps : List (Str × Str)} {cs : List Str} {M : List (A.Sm Str)} {xs ws zs zp : List V} {kvs : List (List Key × V)} {H0 H : Hp} {D : Ends} (sm : Same H0 H) (nf : H0 pf = none) (hh : HouseAt cl H0 x ps cs) (hS : SqL K H0 a (ns.map V.int)) (hl : H0 pl = some (.lst xs)) (pa : PairsAt H0 xs ps) (hc : H0 pc = some (.lst (sts cs)))
    (hp : H0 pp = some (.lst zp)) (pp' : PairsAt H0 zp (plc ps cs)) (hm : H0 pm = some (.lst ws)) (tw : TupsAt H0 ws (M.map enc)) (isM : ∀ one ∈ M, one ∈ smL ps cs) (ndM : M.Nodup) (lM : M.length <= 300) (hd : H0 pd = some (.lst zs)) (tz : TupsAt H0 zs ((smL ps cs).map enc)) (hh2 : H0 ph = some (.lst ws)) (hf : H pf = some (.dT (kvL (cnt3 ps cs M) (plc ps cs))))
    (hk : H pk = some (.dT kvs)) (ck : CntD kvs (cnt3 ps cs M)) (q : ∀ H', D.rt (.bl true) H') :
    tl_due K cl D [some (.ref a), some (.ref pl), some (.ref pc), some (.ref x), some (.ref pp), some (.ref pd), some (.ref pm), some (.ref ph), some (.ref pf), some (.ref pk), none, none, none, none, none, none] H := by
  have hs := sz
  have ln := pl_len hh.good hh.many
  have ln : (plc ps cs).length <= 225 := ln
  have ppH := pp'.same sm
  refine comp_i (iterL_i (sm _ _ hp) (comp_prs (plF H λ a b => if cnt3 ps cs M a b = 0 then none else some (.int (cnt3 ps cs M a b))) (sm _ _ hp) (by rw [pp'.1]; omega) ?_ ?_))
  . intro i z hz G k B s hk1 hB
    obtain ⟨r, u, hr, rfl, hu⟩ := ppH.at hz
    rw [plF_at hu] at hk1 hB
    have hkG := s _ _ hk
    have huG := s _ _ hu
    refine dget_i hkG (dget2_at hkG huG ?_)
    rw [ck r.1 r.2]
    refine br_of (λ b => ?_) (λ b => hB ?_)
    . have b : (!(cnt3 ps cs M r.1 r.2 == 0)) = true := b
      have b : cnt3 ps cs M r.1 r.2 ≠ 0 := by simpa using b
      rw [if_neg b] at hk1
      exact getT_pl (.inl hkG) huG (ck.get b) ⟨few rfl, new_i λ p5 G5 n5 s5 t5 => hk1 _ rfl _ G5 s5 ⟨p5, u, rfl, t5, s5 _ _ huG⟩⟩
    . have b : (!(cnt3 ps cs M r.1 r.2 == 0)) = false := b
      have b : cnt3 ps cs M r.1 r.2 = 0 := by simpa using b
      rw [if_pos b]
      rfl
  intro pu zd G1 n1 s1 t1 pz
  rw [plF_all ppH] at pz
  have pz : PrsL G1 (kvL (cnt3 ps cs M) (plc ps cs)) zd := pz
  have S1 := sm.trans s1
  have tw1 := tw.same S1
  refine eq_i (rd_lstT 6 (S1 _ _ hh2) tw1) (rd_lstT 6 (S1 _ _ hm) tw1) (br_f (by rw [ltups_refl]; rfl) ?_)
  refine isi_i rfl (kind_dT (s1 _ _ hf)) (br_f rfl ?_)
  refine lstItems_i (s1 _ _ hf) λ p2 xs2 G2 s2 n2 t2 i2 => ?_
  refine prs_eq t2 (s2 _ _ t1) i2 (Nu.PrsL.same pz s2) (kvL_ints _ _) (br_f rfl ?_)
  exact r23_mid (S1.trans s2) nf hh hS hl pa hc hm tw isM ndM lM hd tz ((s1.trans s2) _ _ hf) (s2 _ _ t1) (Nu.PrsL.same pz s2) q
theorem r23_law {a : Addr} {ns : List Int} {H : Hp} {D : Ends} (hS : SqL K H a (ns.map V.int)) (q : ∀ H', D.rt (.bl true) H') : t23_law K cl D [some (.ref a), none, none, none, none, none, none, none, none, none, none, none, none, none, none, none] H := by
  have hs := sz
  refine ⟨a, ns, rfl, hS, λ pl xs ps G1 s1 n1 t1 pa g => ?_⟩
  refine ⟨a, ns, rfl, s1.seq hS, λ pc cs G2 s2 n2 t2 c1 c8 cn => ?_⟩
  have g2 := g.many
  intro x dx nx ndx _
  refine make_i g cn c1 c8 (s2 _ _ t1) (pa.same s2) t2 nx ndx λ G5 s5 hf => ⟨rfl, ?_⟩
  have hh := hf G5 λ _ _ _ e => e
  have S5 := (s1.trans s2).trans s5
  have ul := (s2.trans s5) _ _ t1
  have uc := s5 _ _ t2
  have pa5 := pa.same (s2.trans s5)
  clear hf
  refine ⟨pl, pc, xs, ps, cs, rfl, ul, pa5, g2, uc, c8, λ pp zp G6 s6 n6 t6 pp' => ?_⟩
  refine ⟨pl, pc, xs, ps, cs, rfl, s6 _ _ ul, pa5.same s6, g, s6 _ _ uc, c8, λ pd zs G7 s7 n7 t7 tz => ?_⟩
  rw [sumsL_enc] at tz
  have S7 := S5.trans (s6.trans s7)
  refine ⟨a, pd, ns, zs, smL ps cs, rfl, S7.seq hS, t7, tz, smL_nd g cn, smL_len g c8, λ pm ws M G8 s8 n8 t8 tw ndM isM lM => ?_⟩
  refine listL_i t8 (new_i λ ph G9 n9 s9 t9 => ?_)
  have s69 := s6.trans (s7.trans (s8.trans s9))
  have s79 := s7.trans (s8.trans s9)
  have s89 := s8.trans s9
  have hh9 := hh.same s69
  have S9 := S5.trans s69
  refine ⟨x, ph, ws, ps, cs, M, rfl, hh9, t9, tw.same s9, IsSm.all isM, lM, λ pf G10 s10 n10 t10 => ?_⟩
  have s6a := s69.trans s10
  refine ⟨pl, pc, pm, xs, ws, ps, cs, M, rfl, s6a _ _ ul, pa5.same s6a, g, s6a _ _ uc, cn, c8, (s9.trans s10) _ _ t8, tw.same (s9.trans s10), IsSm.all isM, lM, λ pk kvs G11 s11 n11 t11 ck => ?_⟩
  exact r23_due (H0 := G9) (s10.trans s11) n10 hh9 (S9.seq hS) (s69 _ _ ul) (pa5.same s69) (s69 _ _ uc) (s79 _ _ t6) (pp'.same s79) (s9 _ _ t8) (tw.same s9) isM ndM lM (s89 _ _ t7) (tz.same s89) t9 (s11 _ _ t10) t11 ck q
end
end S3
end Tv
namespace P23
open PySem PySem.Spec PyProof.Rows L2 Tv
noncomputable def top (i : Nat) : Stmt := PySem.Challenge.pw_tallyveil_k23_whole_sums_added_up.main.body.getD i (.Pass ⟨0, 0, 0, 0⟩)
noncomputable abbrev s_name : Stmt := top 6
theorem sc_name : FnScope ["thing"] ["thing"] (defScope s_name) := ⟨rfl, rfl, rfl, by decide +kernel, rfl, by decide +kernel, by decide +kernel⟩
noncomputable abbrev s_plain : Stmt := top 12
theorem sc_plain : FnScope ["text"] ["text"] (defScope s_plain) := ⟨rfl, rfl, rfl, by decide +kernel, rfl, by decide +kernel, by decide +kernel⟩
noncomputable abbrev s_cname : Stmt := top 10
theorem sc_cname : FnScope ["thing", "ahead", "name"] ["thing", "ahead"] (defScope s_cname) := ⟨rfl, rfl, rfl, by decide +kernel, rfl, by decide +kernel, by decide +kernel⟩
noncomputable abbrev s_cabove : Stmt := top 11
theorem sc_cabove : FnScope ["thing", "ahead", "above"] ["thing", "ahead"] (defScope s_cabove) := ⟨rfl, rfl, rfl, by decide +kernel, rfl, by decide +kernel, by decide +kernel⟩
noncomputable abbrev s_ccols : Stmt := top 9
theorem sc_ccols : FnScope ["columns", "names", "column"] ["columns"] (defScope s_ccols) := ⟨rfl, rfl, rfl, by decide +kernel, rfl, by decide +kernel, by decide +kernel⟩
noncomputable abbrev s_cparts : Stmt := top 8
theorem sc_cparts : FnScope ["parts", "above_of", "part", "name", "above"] ["parts"] (defScope s_cparts) := ⟨rfl, rfl, rfl, by decide +kernel, rfl, by decide +kernel, by decide +kernel⟩
noncomputable abbrev s_turned : Stmt := top 13
theorem sc_turned : FnScope ["above_of", "beneath_of", "part", "above"] ["above_of"] (defScope s_turned) := ⟨rfl, rfl, rfl, by decide +kernel, rfl, by decide +kernel, by decide +kernel⟩
noncomputable abbrev s_init : Stmt := inClass (top 7) 0
theorem sc_init : FnScope ["self", "parts", "columns"] ["self", "parts", "columns"] (defScope s_init) := ⟨rfl, rfl, rfl, by decide +kernel, rfl, by decide +kernel, by decide +kernel⟩
noncomputable abbrev s_mparts : Stmt := inClass (top 7) 1
theorem sc_mparts : FnScope ["self"] ["self"] (defScope s_mparts) := ⟨rfl, rfl, rfl, by decide +kernel, rfl, by decide +kernel, by decide +kernel⟩
noncomputable abbrev s_mcols : Stmt := inClass (top 7) 3
theorem sc_mcols : FnScope ["self"] ["self"] (defScope s_mcols) := ⟨rfl, rfl, rfl, by decide +kernel, rfl, by decide +kernel, by decide +kernel⟩
noncomputable abbrev s_mben : Stmt := inClass (top 7) 5
theorem sc_mben : FnScope ["self", "part"] ["self", "part"] (defScope s_mben) := ⟨rfl, rfl, rfl, by decide +kernel, rfl, by decide +kernel, by decide +kernel⟩
noncomputable abbrev s_paired : Stmt := top 14
theorem sc_paired : FnScope ["parts", "columns", "pairs", "part", "column"] ["parts", "columns"] (defScope s_paired) := ⟨rfl, rfl, rfl, by decide +kernel, rfl, by decide +kernel, by decide +kernel⟩
noncomputable abbrev s_mplaces : Stmt := inClass (top 7) 6
theorem sc_mplaces : FnScope ["self"] ["self"] (defScope s_mplaces) := ⟨rfl, rfl, rfl, by decide +kernel, rfl, by decide +kernel, by decide +kernel⟩
noncomputable abbrev s_whole : Stmt := top 17
theorem sc_whole : FnScope ["house", "one"] ["house", "one"] (defScope s_whole) := ⟨rfl, rfl, rfl, by decide +kernel, rfl, by decide +kernel, by decide +kernel⟩
noncomputable abbrev s_others : Stmt := top 18
theorem sc_others : FnScope ["house", "one"] ["house", "one"] (defScope s_others) := ⟨rfl, rfl, rfl, by decide +kernel, rfl, by decide +kernel, by decide +kernel⟩
noncomputable abbrev s_sign : Stmt := top 21
theorem sc_sign : FnScope ["one"] ["one"] (defScope s_sign) := ⟨rfl, rfl, rfl, by decide +kernel, rfl, by decide +kernel, by decide +kernel⟩
noncomputable abbrev s_given : Stmt := top 20
theorem sc_given : FnScope ["house", "one", "sign"] ["house", "one"] (defScope s_given) := ⟨rfl, rfl, rfl, by decide +kernel, rfl, by decide +kernel, by decide +kernel⟩
noncomputable abbrev s_added : Stmt := top 19
theorem sc_added : FnScope ["house", "sums", "counts", "one", "place", "count", "told"] ["house", "sums"] (defScope s_added) := ⟨rfl, rfl, rfl, by decide +kernel, rfl, by decide +kernel, by decide +kernel⟩
noncomputable abbrev s_cell : Stmt := top 23
theorem sc_cell : FnScope ["_law_script", "_law_k"] ["_law_script", "_law_k"] (defScope s_cell) := ⟨rfl, rfl, rfl, by decide +kernel, rfl, by decide +kernel, by decide +kernel⟩
noncomputable abbrev s_lnames : Stmt := top 24
theorem sc_lnames : FnScope ["_law_cell", "_law_many", "_law_letters", "_law_size", "_law_at", "_law_names_here", "_law_k", "_law_name", "_law_j", "_law_shift"] ["_law_cell", "_law_many"] (defScope s_lnames) := ⟨rfl, rfl, rfl, by decide +kernel, rfl, by decide +kernel, by decide +kernel⟩
noncomputable abbrev s_lparts : Stmt := top 25
theorem sc_lparts : FnScope ["_law_script", "_law_size", "_law_many", "_law_names_here", "_law_found", "_law_k", "_law_cell", "_law_above"] ["_law_script"] (defScope s_lparts) := ⟨rfl, rfl, rfl, by decide +kernel, rfl, by decide +kernel, by decide +kernel⟩
noncomputable abbrev s_lcols : Stmt := top 26
theorem sc_lcols : FnScope ["_law_script", "_law_size", "_law_many"] ["_law_script"] (defScope s_lcols) := ⟨rfl, rfl, rfl, by decide +kernel, rfl, by decide +kernel, by decide +kernel⟩
noncomputable abbrev s_lrows : Stmt := top 27
theorem sc_lrows : FnScope ["_law_parts_here", "_law_tops"] ["_law_parts_here"] (defScope s_lrows) := ⟨rfl, rfl, rfl, by decide +kernel, rfl, by decide +kernel, by decide +kernel⟩
noncomputable abbrev s_lplaces : Stmt := top 28
theorem sc_lplaces : FnScope ["_law_parts_here", "_law_columns_here", "_law_found", "_law_part", "_law_column"] ["_law_parts_here", "_law_columns_here"] (defScope s_lplaces) := ⟨rfl, rfl, rfl, by decide +kernel, rfl, by decide +kernel, by decide +kernel⟩
noncomputable abbrev s_lsums : Stmt := top 29
theorem sc_lsums : FnScope ["_law_parts_here", "_law_columns_here", "_law_rows_here", "_law_found", "_law_part", "_law_column"] ["_law_parts_here", "_law_columns_here"] (defScope s_lsums) := ⟨rfl, rfl, rfl, by decide +kernel, rfl, by decide +kernel, by decide +kernel⟩
noncomputable abbrev s_lgives : Stmt := top 30
theorem sc_lgives : FnScope ["_law_parts_here", "_law_columns_here", "_law_one", "_law_found", "_law_sign", "_law_name", "_law_above", "_law_column"] ["_law_parts_here", "_law_columns_here", "_law_one"] (defScope s_lgives) := ⟨rfl, rfl, rfl, by decide +kernel, rfl, by decide +kernel, by decide +kernel⟩
noncomputable abbrev s_lcounted : Stmt := top 31
theorem sc_lcounted : FnScope ["_law_script", "_law_at", "_law_many", "_law_wide", "_law_found", "_law_k", "_law_cell", "_law_turn"] ["_law_script", "_law_at", "_law_many"] (defScope s_lcounted) := ⟨rfl, rfl, rfl, by decide +kernel, rfl, by decide +kernel, by decide +kernel⟩
noncomputable abbrev s_lfilled : Stmt := top 32
theorem sc_lfilled : FnScope ["_law_parts_here", "_law_columns_here", "_law_counts", "_law_numbers", "_law_place", "_law_at", "_law_row", "_law_column", "_law_name", "_law_above", "_law_part"] ["_law_parts_here", "_law_columns_here", "_law_counts"] (defScope s_lfilled) := ⟨rfl, rfl, rfl, by decide +kernel, rfl, by decide +kernel, by decide +kernel⟩
noncomputable abbrev s_lsome : Stmt := top 33
theorem sc_lsome : FnScope ["_law_script", "_law_sums_here", "_law_some_here", "_law_k", "_law_cell"] ["_law_script", "_law_sums_here"] (defScope s_lsome) := ⟨rfl, rfl, rfl, by decide +kernel, rfl, by decide +kernel, by decide +kernel⟩
noncomputable abbrev s_ldue : Stmt := top 34
theorem sc_ldue : FnScope ["_law_parts_here", "_law_columns_here", "_law_some_here", "_law_counts", "_law_one", "_law_given", "_law_place"] ["_law_parts_here", "_law_columns_here", "_law_some_here"] (defScope s_ldue) := ⟨rfl, rfl, rfl, by decide +kernel, rfl, by decide +kernel, by decide +kernel⟩
noncomputable abbrev s_law : Stmt := top 35
theorem sc_law : FnScope ["_law_script", "_law_parts_here", "_law_columns_here", "_law_house", "_law_places_here", "_law_sums_here", "_law_some_here", "_law_handed", "_law_found", "_law_counts", "_law_due_here", "_law_total", "_law_many", "_law_numbers", "_law_place", "_law_count"] ["_law_script"] (defScope s_law) := ⟨rfl, rfl, rfl, by decide +kernel, rfl, by decide +kernel, by decide +kernel⟩
structure Txt (K : PySem.W.Frag) (mg : Str -> Option Value) (C : Addr) : Prop where
  cl : Cls K C
  mC : mg "House" = some (.ref C)
  f_above_of : NoAttr K C "above_of"
  f_column_names : NoAttr K C "column_names"
  f_beneath_of : NoAttr K C "beneath_of"
  n_isinstance : mg "isinstance" = none
  n_str : mg "str" = none
  n_list : mg "list" = none
  n_tuple : mg "tuple" = none
  n_len : mg "len" = none
  n_all : mg "all" = none
  n_range : mg "range" = none
  n_int : mg "int" = none
  n_reversed : mg "reversed" = none
  n_sum : mg "sum" = none
  n_dict : mg "dict" = none
  n_bool : mg "bool" = none
  g_ALL : ∃ t, mg "ALL" = some (.str "all" t)
  g_DOWN : ∃ t, mg "DOWN" = some (.str "down" t)
noncomputable def tabs (C : Addr) (fns : List (Str × Sp)) (mks mts : List (Str × Addr × Sp)) : Tabs := { fns := fns, mks := mks, mts := mts, fld := [("above_of", C), ("column_names", C), ("beneath_of", C)], glo := [("ALL", .str "all"), ("DOWN", .str "down")], nog := ["isinstance", "str", "list", "tuple", "len", "all", "range", "int", "reversed", "sum", "dict", "bool"], scr := ["_law_script"] }
section
variable {P : Program} {w : World} {K : PySem.W.Frag} {mg : Str -> Option Value} {base : Heap} {C : Addr}
theorem lib {k : Nat} {fns : List (Str × Sp)} {mks mts : List (Str × Addr × Sp)} (T : Txt K mg C) (h : Ents (FnE P w K mg base CX0 k) fns) (hm : Ents (MkE P w K mg base CX0 k) mks) (ht : Ents (λ m p => p.1 = C /\ MtE P w K mg base CX0 k m p) mts) : Lib P w K mg base CX0 k (tabs C fns mks mts) := by
  refine lib_cls T.cl h hm ht (.cons ⟨rfl, T.f_above_of⟩ (.cons ⟨rfl, T.f_column_names⟩ (.cons ⟨rfl, T.f_beneath_of⟩ (.nil)))) (λ x v e => ?_) (λ x hx => ?_)
  . have : Ents (λ x v => ∃ u, mg x = some u /\ RelV v u) [("ALL", V.str "all"), ("DOWN", V.str "down")] := .cons (by obtain ⟨t, h⟩ := T.g_ALL; exact ⟨_, h, _, rfl⟩) (.cons (by obtain ⟨t, h⟩ := T.g_DOWN; exact ⟨_, h, _, rfl⟩) (.nil))
    exact this.get x v e
  . simp only [tabs, List.mem_cons, List.not_mem_nil, or_false] at hx
    rcases hx with rfl | rfl | rfl | rfl | rfl | rfl | rfl | rfl | rfl | rfl | rfl | rfl
    . exact T.n_isinstance
    . exact T.n_str
    . exact T.n_list
    . exact T.n_tuple
    . exact T.n_len
    . exact T.n_all
    . exact T.n_range
    . exact T.n_int
    . exact T.n_reversed
    . exact T.n_sum
    . exact T.n_dict
    . exact T.n_bool
theorem w_name : wSs (wp 40) (cfg (tabs C [] [] []) K ["thing"] (defScope s_name).names E0) (defBody s_name) = t_is_name := by kernel_rfl
theorem ok_name {f : Addr} {fd : FuncData} (A : DefAt K mg "is_name" s_name ["thing"] f fd) (T : Txt K mg C) : FnE P w K mg base CX0 2 "is_name" (sp_is_name) :=
  A.ok (k := 0) 40 sc_name (lib T (.nil) (.nil) (.nil)) (λ vs H Q E h => by obtain ⟨x, S, rfl, _⟩ := h; rfl) w_name (λ vs H Q E h => by obtain ⟨x, S, rfl, hk, hz, q⟩ := h; exact r_is_name hk hz q)
theorem w_plain : wSs (wp 40) (cfg (tabs C [] [] []) K ["text"] (defScope s_plain).names E0) (defBody s_plain) = t_plain_text := by kernel_rfl
theorem ok_plain {f : Addr} {fd : FuncData} (A : DefAt K mg "plain_text" s_plain ["text"] f fd) (T : Txt K mg C) : FnE P w K mg base CX0 2 "plain_text" (sp_plain_text) :=
  A.ok (k := 0) 40 sc_plain (lib T (.nil) (.nil) (.nil)) (λ vs H Q E h => by obtain ⟨z, rfl, _⟩ := h; rfl) w_plain (λ vs H Q E h => by obtain ⟨z, rfl, hz, q⟩ := h; exact r_plain_text hz q)
theorem w_cname : wSs (wp 40) (cfg (tabs C [("is_name", sp_is_name), ("plain_text", sp_plain_text)] [] []) K ["thing", "ahead", "name"] (defScope s_cname).names E0) (defBody s_cname) = t_checked_name := by kernel_rfl
theorem ok_cname {f : Addr} {fd : FuncData} (A : DefAt K mg "checked_name" s_cname ["thing", "ahead"] f fd) (T : Txt K mg C) (hname : FnE P w K mg base CX0 2 "is_name" (sp_is_name)) (hplain : FnE P w K mg base CX0 2 "plain_text" (sp_plain_text)) : FnE P w K mg base CX0 4 "checked_name" (sp_checked_name) :=
  A.ok (k := 2) 40 sc_cname (lib T (.cons (hname.mono (by decide)) (.cons (hplain.mono (by decide)) (.nil))) (.nil) (.nil)) (λ vs H Q E h => by obtain ⟨z, l, ys, rfl, _⟩ := h; rfl) w_cname (λ vs H Q E h => by obtain ⟨z, l, ys, rfl, hl, hz, hn, q⟩ := h; exact r_checked_name hl hz hn q)
theorem w_cabove : wSs (wp 40) (cfg (tabs C [("plain_text", sp_plain_text)] [] []) K ["thing", "ahead", "above"] (defScope s_cabove).names E0) (defBody s_cabove) = t_checked_above := by kernel_rfl
theorem ok_cabove {f : Addr} {fd : FuncData} (A : DefAt K mg "checked_above" s_cabove ["thing", "ahead"] f fd) (T : Txt K mg C) (hplain : FnE P w K mg base CX0 2 "plain_text" (sp_plain_text)) : FnE P w K mg base CX0 4 "checked_above" (sp_checked_above) :=
  A.ok (k := 2) 40 sc_cabove (lib T (.cons (hplain.mono (by decide)) (.nil)) (.nil) (.nil)) (λ vs H Q E h => by obtain ⟨z, l, ys, rfl, _⟩ := h; rfl) w_cabove (λ vs H Q E h => by obtain ⟨z, l, ys, rfl, hl, hz, hn, q⟩ := h; exact r_checked_above hl hz hn q)
theorem w_ccols : wSs (wp 40) (cfg (tabs C [("checked_name", sp_checked_name)] [] []) K ["columns", "names", "column"] (defScope s_ccols).names E0) (defBody s_ccols) = t_checked_columns := by kernel_rfl
theorem ok_ccols {f : Addr} {fd : FuncData} (A : DefAt K mg "checked_columns" s_ccols ["columns"] f fd) (T : Txt K mg C) (hcname : FnE P w K mg base CX0 4 "checked_name" (sp_checked_name)) : FnE P w K mg base CX0 6 "checked_columns" (sp_checked_columns) :=
  A.ok (k := 4) 40 sc_ccols (lib T (.cons (hcname.mono (by decide)) (.nil)) (.nil) (.nil)) (λ vs H Q E h => by obtain ⟨c, cs, rfl, _⟩ := h; rfl) w_ccols (λ vs H Q E h => by obtain ⟨c, cs, rfl, hc, hn, h1, h8, q⟩ := h; exact r_checked_columns hc hn h1 h8 q)
theorem w_cparts : wSs (wp 40) (cfg (tabs C [("checked_name", sp_checked_name), ("checked_above", sp_checked_above)] [] []) K ["parts", "above_of", "part", "name", "above"] (defScope s_cparts).names E0) (defBody s_cparts) = t_checked_parts := by kernel_rfl
theorem ok_cparts {f : Addr} {fd : FuncData} (A : DefAt K mg "checked_parts" s_cparts ["parts"] f fd) (T : Txt K mg C) (hcname : FnE P w K mg base CX0 4 "checked_name" (sp_checked_name)) (hcabove : FnE P w K mg base CX0 4 "checked_above" (sp_checked_above)) : FnE P w K mg base CX0 6 "checked_parts" (sp_checked_parts) :=
  A.ok (k := 4) 40 sc_cparts (lib T (.cons (hcname.mono (by decide)) (.cons (hcabove.mono (by decide)) (.nil))) (.nil) (.nil)) (λ vs H Q E h => by obtain ⟨p, xs, ps, rfl, _⟩ := h; rfl) w_cparts (λ vs H Q E h => by obtain ⟨p, xs, ps, rfl, hp, pa, g, q⟩ := h; exact r_checked_parts hp pa g q)
theorem w_turned : wSs (wp 40) (cfg (tabs C [] [] []) K ["above_of", "beneath_of", "part", "above"] (defScope s_turned).names E0) (defBody s_turned) = t_turned_about := by kernel_rfl
theorem ok_turned {f : Addr} {fd : FuncData} (A : DefAt K mg "turned_about" s_turned ["above_of"] f fd) (T : Txt K mg C) : FnE P w K mg base CX0 2 "turned_about" (sp_turned_about) :=
  A.ok (k := 0) 40 sc_turned (lib T (.nil) (.nil) (.nil)) (λ vs H Q E h => by obtain ⟨a, ps, rfl, _⟩ := h; rfl) w_turned (λ vs H Q E h => by obtain ⟨a, ps, rfl, ha, g, q⟩ := h; exact r_turned_about ha g q)
theorem w_init : wSs (wp 40) (cfg (tabs C [("checked_parts", sp_checked_parts), ("checked_columns", sp_checked_columns), ("turned_about", sp_turned_about)] [] []) K ["self", "parts", "columns"] (defScope s_init).names E0) (defBody s_init) = t_House_init C := by kernel_rfl
theorem ok_init {f : Addr} {fd : FuncData} (M : Mk K C f) (F : Fun K "__init__" "House.__init__" s_init f fd) (b : Binds K fd ["self", "parts", "columns"] []) (T : Txt K mg C) (hcparts : FnE P w K mg base CX0 6 "checked_parts" (sp_checked_parts)) (hccols : FnE P w K mg base CX0 6 "checked_columns" (sp_checked_columns)) (hturned : FnE P w K mg base CX0 2 "turned_about" (sp_turned_about)) : MkE P w K mg base CX0 8 "House" (C, sp_House_init C) :=
  MkE.mk (k := 6) M T.mC F b 40 sc_init (lib T (.cons (hcparts.mono (by decide)) (.cons (hccols.mono (by decide)) (.cons (hturned.mono (by decide)) (.nil)))) (.nil) (.nil)) (λ vs H Q E h => by obtain ⟨x, dx, p, c, xs, ps, cs, rfl, _⟩ := h; rfl) w_init (λ vs H Q E h => by obtain ⟨x, dx, p, c, xs, ps, cs, rfl, hx, hp, pa, g, hc, hn, h1, h8, q⟩ := h; exact r_House_init hx hp pa g hc hn h1 h8 q)
theorem w_mparts : wSs (wp 40) (cfg (tabs C [] [] []) K ["self"] (defScope s_mparts).names E0) (defBody s_mparts) = t_House_parts C := by kernel_rfl
theorem ok_mparts {f : Addr} {fd : FuncData} (M : Meth K C "parts" f) (F : Fun K "parts" "House.parts" s_mparts f fd) (b : Binds K fd ["self"] []) (T : Txt K mg C) : MtE P w K mg base CX0 2 "parts" (C, sp_parts C) :=
  MtE.mk (k := 0) M F b 40 sc_mparts (lib T (.nil) (.nil) (.nil)) (λ vs H Q E h => by obtain ⟨x, ps, cs, rfl, _⟩ := h; rfl) w_mparts (λ vs H Q E h => by obtain ⟨x, ps, cs, rfl, hh, q⟩ := h; exact r_House_parts hh q)
theorem w_mcols : wSs (wp 40) (cfg (tabs C [] [] []) K ["self"] (defScope s_mcols).names E0) (defBody s_mcols) = t_House_columns C := by kernel_rfl
theorem ok_mcols {f : Addr} {fd : FuncData} (M : Meth K C "columns" f) (F : Fun K "columns" "House.columns" s_mcols f fd) (b : Binds K fd ["self"] []) (T : Txt K mg C) : MtE P w K mg base CX0 2 "columns" (C, sp_columns C) :=
  MtE.mk (k := 0) M F b 40 sc_mcols (lib T (.nil) (.nil) (.nil)) (λ vs H Q E h => by obtain ⟨x, ps, cs, rfl, _⟩ := h; rfl) w_mcols (λ vs H Q E h => by obtain ⟨x, ps, cs, rfl, hh, q⟩ := h; exact r_House_columns hh q)
theorem w_mben : wSs (wp 40) (cfg (tabs C [] [] []) K ["self", "part"] (defScope s_mben).names E0) (defBody s_mben) = t_House_beneath C := by kernel_rfl
theorem ok_mben {f : Addr} {fd : FuncData} (M : Meth K C "beneath" f) (F : Fun K "beneath" "House.beneath" s_mben f fd) (b : Binds K fd ["self", "part"] []) (T : Txt K mg C) : MtE P w K mg base CX0 2 "beneath" (C, sp_beneath C) :=
  MtE.mk (k := 0) M F b 40 sc_mben (lib T (.nil) (.nil) (.nil)) (λ vs H Q E h => by obtain ⟨x, ps, cs, k, rfl, _⟩ := h; rfl) w_mben (λ vs H Q E h => by obtain ⟨x, ps, cs, k, rfl, hh, hk, q⟩ := h; exact r_House_beneath hh hk q)
theorem w_paired : wSs (wp 40) (cfg (tabs C [] [] []) K ["parts", "columns", "pairs", "part", "column"] (defScope s_paired).names E0) (defBody s_paired) = t_paired := by kernel_rfl
theorem ok_paired {f : Addr} {fd : FuncData} (A : DefAt K mg "paired" s_paired ["parts", "columns"] f fd) (T : Txt K mg C) : FnE P w K mg base CX0 2 "paired" (sp_paired) :=
  A.ok (k := 0) 40 sc_paired (lib T (.nil) (.nil) (.nil)) (λ vs H Q E h => by obtain ⟨p, c, xs, ys, rfl, _⟩ := h; rfl) w_paired (λ vs H Q E h => by obtain ⟨p, c, xs, ys, rfl, hp, hc, h1, h2, q⟩ := h; exact r_paired hp hc h1 h2 q)
theorem w_mplaces : wSs (wp 40) (cfg (tabs C [("paired", sp_paired)] [] [("parts", C, sp_parts C)]) K ["self"] (defScope s_mplaces).names E0) (defBody s_mplaces) = t_House_places C := by kernel_rfl
theorem ok_mplaces {f : Addr} {fd : FuncData} (M : Meth K C "places" f) (F : Fun K "places" "House.places" s_mplaces f fd) (b : Binds K fd ["self"] []) (T : Txt K mg C) (hpaired : FnE P w K mg base CX0 2 "paired" (sp_paired)) (hmparts : MtE P w K mg base CX0 2 "parts" (C, sp_parts C)) : MtE P w K mg base CX0 4 "places" (C, sp_places C) :=
  MtE.mk (k := 2) M F b 40 sc_mplaces (lib T (.cons (hpaired.mono (by decide)) (.nil)) (.nil) (.cons (⟨rfl, hmparts.mono (by decide)⟩) (.nil))) (λ vs H Q E h => by obtain ⟨x, ps, cs, rfl, _⟩ := h; rfl) w_mplaces (λ vs H Q E h => by obtain ⟨x, ps, cs, rfl, hh, q⟩ := h; exact r_House_places hh q)
theorem w_whole : wSs (wp 40) (cfg (tabs C [] [] []) K ["house", "one"] (defScope s_whole).names E0) (defBody s_whole) = t_whole_of := by kernel_rfl
theorem ok_whole {f : Addr} {fd : FuncData} (A : DefAt K mg "whole_of" s_whole ["house", "one"] f fd) (T : Txt K mg C) : FnE P w K mg base CX0 2 "whole_of" (sp_whole_of) :=
  A.ok (k := 0) 40 sc_whole (lib T (.nil) (.nil) (.nil)) (λ vs H Q E h => by obtain ⟨x, t, ps, l, rfl, _⟩ := h; rfl) w_whole (λ vs H Q E h => by obtain ⟨x, t, ps, l, rfl, ht, hl, q⟩ := h; exact r_whole_of ht hl q)
theorem w_others : wSs (wp 40) (cfg (tabs C [] [] [("beneath", C, sp_beneath C), ("columns", C, sp_columns C)]) K ["house", "one"] (defScope s_others).names E0) (defBody s_others) = t_others_of C := by kernel_rfl
theorem ok_others {f : Addr} {fd : FuncData} (A : DefAt K mg "others_of" s_others ["house", "one"] f fd) (T : Txt K mg C) (hmben : MtE P w K mg base CX0 2 "beneath" (C, sp_beneath C)) (hmcols : MtE P w K mg base CX0 2 "columns" (C, sp_columns C)) : FnE P w K mg base CX0 4 "others_of" (sp_others_of C) :=
  A.ok (k := 2) 40 sc_others (lib T (.nil) (.nil) (.cons (⟨rfl, hmben.mono (by decide)⟩) (.cons (⟨rfl, hmcols.mono (by decide)⟩) (.nil)))) (λ vs H Q E h => by obtain ⟨x, t, ps, cs, l, rfl, _⟩ := h; rfl) w_others (λ vs H Q E h => by obtain ⟨x, t, ps, cs, l, rfl, hh, ht, hl, q⟩ := h; exact r_others_of hh ht hl q)
theorem w_sign : wSs (wp 40) (cfg (tabs C [] [] []) K ["one"] (defScope s_sign).names E0) (defBody s_sign) = S3.t_sign_of := by kernel_rfl
theorem ok_sign {f : Addr} {fd : FuncData} (A : DefAt K mg "sign_of" s_sign ["one"] f fd) (T : Txt K mg C) : FnE P w K mg base CX0 2 "sign_of" (S3.sp_sign_of) :=
  A.ok (k := 0) 40 sc_sign (lib T (.nil) (.nil) (.nil)) (λ vs H Q E h => by obtain ⟨t, one, rfl, _⟩ := h; rfl) w_sign (λ vs H Q E h => by obtain ⟨t, one, rfl, ht, q⟩ := h; exact S3.r_sign_of ht q)
theorem w_given : wSs (wp 40) (cfg (tabs C [("sign_of", S3.sp_sign_of), ("whole_of", sp_whole_of), ("others_of", sp_others_of C)] [] []) K ["house", "one", "sign"] (defScope s_given).names E0) (defBody s_given) = S3.t_given_by C := by kernel_rfl
theorem ok_given {f : Addr} {fd : FuncData} (A : DefAt K mg "given_by" s_given ["house", "one"] f fd) (T : Txt K mg C) (hsign : FnE P w K mg base CX0 2 "sign_of" (S3.sp_sign_of)) (hwhole : FnE P w K mg base CX0 2 "whole_of" (sp_whole_of)) (hothers : FnE P w K mg base CX0 4 "others_of" (sp_others_of C)) : FnE P w K mg base CX0 6 "given_by" (S3.sp_given_by C) :=
  A.ok (k := 4) 40 sc_given (lib T (.cons (hsign.mono (by decide)) (.cons (hwhole.mono (by decide)) (.cons (hothers.mono (by decide)) (.nil)))) (.nil) (.nil)) (λ vs H Q E h => by obtain ⟨x, t, ps, cs, one, rfl, _⟩ := h; rfl) w_given (λ vs H Q E h => by obtain ⟨x, t, ps, cs, one, rfl, hh, ht, h1, q⟩ := h; exact S3.r_given_by hh ht h1 q)
theorem w_added : wSs (wp 40) (cfg (tabs C [("given_by", S3.sp_given_by C)] [] [("places", C, sp_places C)]) K ["house", "sums", "counts", "one", "place", "count", "told"] (defScope s_added).names E0) (defBody s_added) = S3.t_added C := by kernel_rfl
theorem ok_added {f : Addr} {fd : FuncData} (A : DefAt K mg "added" s_added ["house", "sums"] f fd) (T : Txt K mg C) (hgiven : FnE P w K mg base CX0 6 "given_by" (S3.sp_given_by C)) (hmplaces : MtE P w K mg base CX0 4 "places" (C, sp_places C)) : FnE P w K mg base CX0 8 "added" (S3.sp_added C) :=
  A.ok (k := 6) 40 sc_added (lib T (.cons (hgiven.mono (by decide)) (.nil)) (.nil) (.cons (⟨rfl, hmplaces.mono (by decide)⟩) (.nil))) (λ vs H Q E h => by obtain ⟨x, l, zs, ps, cs, L, rfl, _⟩ := h; rfl) w_added (λ vs H Q E h => by obtain ⟨x, l, zs, ps, cs, L, rfl, hh, hl, tz, hL, hn, q⟩ := h; exact S3.r_added hh hl tz hL hn q)
theorem w_cell : wSs (wp 40) (cfg (tabs C [] [] []) K ["_law_script", "_law_k"] (defScope s_cell).names E0) (defBody s_cell) = t_law_cell_at K := by kernel_rfl
theorem ok_cell {f : Addr} {fd : FuncData} (A : DefAt K mg "_law_cell_at" s_cell ["_law_script", "_law_k"] f fd) (T : Txt K mg C) : FnE P w K mg base CX0 2 "_law_cell_at" (sp_law_cell_at K) :=
  A.ok (k := 0) 40 sc_cell (lib T (.nil) (.nil) (.nil)) (λ vs H Q E h => by obtain ⟨a, ns, k, rfl, _⟩ := h; rfl) w_cell (λ vs H Q E h => by obtain ⟨a, ns, k, rfl, hS, hk, q⟩ := h; exact r_law_cell_at hS hk q)
theorem w_lnames : wSs (wp 40) (cfg (tabs C [] [] []) K ["_law_cell", "_law_many", "_law_letters", "_law_size", "_law_at", "_law_names_here", "_law_k", "_law_name", "_law_j", "_law_shift"] (defScope s_lnames).names E0) (defBody s_lnames) = S.t_law_names := by kernel_rfl
theorem ok_lnames {f : Addr} {fd : FuncData} (A : DefAt K mg "_law_names" s_lnames ["_law_cell", "_law_many"] f fd) (T : Txt K mg C) : FnE P w K mg base CX0 2 "_law_names" (sp_law_names) :=
  A.ok (k := 0) 40 sc_lnames (lib T (.nil) (.nil) (.nil)) (λ vs H Q E h => by obtain ⟨c, m, rfl, _⟩ := h; rfl) w_lnames (λ vs H Q E h => by obtain ⟨c, m, rfl, h0, h24, q⟩ := h; exact S.r_law_names h0 h24 q)
theorem w_lparts : wSs (wp 40) (cfg (tabs C [("_law_cell_at", sp_law_cell_at K), ("_law_names", sp_law_names)] [] []) K ["_law_script", "_law_size", "_law_many", "_law_names_here", "_law_found", "_law_k", "_law_cell", "_law_above"] (defScope s_lparts).names E0) (defBody s_lparts) = S.t_law_parts K := by kernel_rfl
theorem ok_lparts {f : Addr} {fd : FuncData} (A : DefAt K mg "_law_parts" s_lparts ["_law_script"] f fd) (T : Txt K mg C) (hcell : FnE P w K mg base CX0 2 "_law_cell_at" (sp_law_cell_at K)) (hlnames : FnE P w K mg base CX0 2 "_law_names" (sp_law_names)) : FnE P w K mg base CX0 4 "_law_parts" (sp_law_parts K) :=
  A.ok (k := 2) 40 sc_lparts (lib T (.cons (hcell.mono (by decide)) (.cons (hlnames.mono (by decide)) (.nil))) (.nil) (.nil)) (λ vs H Q E h => by obtain ⟨a, ns, rfl, _⟩ := h; rfl) w_lparts (λ vs H Q E h => by obtain ⟨a, ns, rfl, hS, q⟩ := h; exact S.r_law_parts hS q)
theorem w_lcols : wSs (wp 40) (cfg (tabs C [("_law_cell_at", sp_law_cell_at K), ("_law_names", sp_law_names)] [] []) K ["_law_script", "_law_size", "_law_many"] (defScope s_lcols).names E0) (defBody s_lcols) = S.t_law_columns K := by kernel_rfl
theorem ok_lcols {f : Addr} {fd : FuncData} (A : DefAt K mg "_law_columns" s_lcols ["_law_script"] f fd) (T : Txt K mg C) (hcell : FnE P w K mg base CX0 2 "_law_cell_at" (sp_law_cell_at K)) (hlnames : FnE P w K mg base CX0 2 "_law_names" (sp_law_names)) : FnE P w K mg base CX0 4 "_law_columns" (sp_law_columns K) :=
  A.ok (k := 2) 40 sc_lcols (lib T (.cons (hcell.mono (by decide)) (.cons (hlnames.mono (by decide)) (.nil))) (.nil) (.nil)) (λ vs H Q E h => by obtain ⟨a, ns, rfl, _⟩ := h; rfl) w_lcols (λ vs H Q E h => by obtain ⟨a, ns, rfl, hS, q⟩ := h; exact S.r_law_columns hS q)
theorem w_lrows : wSs (wp 40) (cfg (tabs C [] [] []) K ["_law_parts_here", "_law_tops"] (defScope s_lrows).names E0) (defBody s_lrows) = S.t_law_rows := by kernel_rfl
theorem ok_lrows {f : Addr} {fd : FuncData} (A : DefAt K mg "_law_rows" s_lrows ["_law_parts_here"] f fd) (T : Txt K mg C) : FnE P w K mg base CX0 2 "_law_rows" (S.sp_law_rows) :=
  A.ok (k := 0) 40 sc_lrows (lib T (.nil) (.nil) (.nil)) (λ vs H Q E h => by obtain ⟨a, xs, ps, rfl, _⟩ := h; rfl) w_lrows (λ vs H Q E h => by obtain ⟨a, xs, ps, rfl, ha, pa, hl, q⟩ := h; exact S.r_law_rows ha pa hl q)
theorem w_lplaces : wSs (wp 40) (cfg (tabs C [] [] []) K ["_law_parts_here", "_law_columns_here", "_law_found", "_law_part", "_law_column"] (defScope s_lplaces).names E0) (defBody s_lplaces) = S3.t_law_places := by kernel_rfl
theorem ok_lplaces {f : Addr} {fd : FuncData} (A : DefAt K mg "_law_places" s_lplaces ["_law_parts_here", "_law_columns_here"] f fd) (T : Txt K mg C) : FnE P w K mg base CX0 2 "_law_places" (S3.sp_law_places) :=
  A.ok (k := 0) 40 sc_lplaces (lib T (.nil) (.nil) (.nil)) (λ vs H Q E h => by obtain ⟨a, c, xs, ps, cs, rfl, _⟩ := h; rfl) w_lplaces (λ vs H Q E h => by obtain ⟨a, c, xs, ps, cs, rfl, ha, pa, h24, hc, h8, q⟩ := h; exact S3.r_law_places ha pa h24 hc h8 q)
theorem w_lsums : wSs (wp 40) (cfg (tabs C [("_law_rows", S.sp_law_rows)] [] []) K ["_law_parts_here", "_law_columns_here", "_law_rows_here", "_law_found", "_law_part", "_law_column"] (defScope s_lsums).names E0) (defBody s_lsums) = S.t_law_sums := by kernel_rfl
theorem ok_lsums {f : Addr} {fd : FuncData} (A : DefAt K mg "_law_sums" s_lsums ["_law_parts_here", "_law_columns_here"] f fd) (T : Txt K mg C) (hlrows : FnE P w K mg base CX0 2 "_law_rows" (S.sp_law_rows)) : FnE P w K mg base CX0 4 "_law_sums" (S.sp_law_sums) :=
  A.ok (k := 2) 40 sc_lsums (lib T (.cons (hlrows.mono (by decide)) (.nil)) (.nil) (.nil)) (λ vs H Q E h => by obtain ⟨a, c, xs, ps, cs, rfl, _⟩ := h; rfl) w_lsums (λ vs H Q E h => by obtain ⟨a, c, xs, ps, cs, rfl, ha, pa, g, hc, h8, q⟩ := h; exact S.r_law_sums ha pa g hc h8 q)
theorem w_lgives : wSs (wp 40) (cfg (tabs C [] [] []) K ["_law_parts_here", "_law_columns_here", "_law_one", "_law_found", "_law_sign", "_law_name", "_law_above", "_law_column"] (defScope s_lgives).names E0) (defBody s_lgives) = S3.t_law_gives := by kernel_rfl
theorem ok_lgives {f : Addr} {fd : FuncData} (A : DefAt K mg "_law_gives" s_lgives ["_law_parts_here", "_law_columns_here", "_law_one"] f fd) (T : Txt K mg C) : FnE P w K mg base CX0 2 "_law_gives" (S3.sp_law_gives) :=
  A.ok (k := 0) 40 sc_lgives (lib T (.nil) (.nil) (.nil)) (λ vs H Q E h => by obtain ⟨a, c, t, xs, ps, cs, one, rfl, _⟩ := h; rfl) w_lgives (λ vs H Q E h => by obtain ⟨a, c, t, xs, ps, cs, one, rfl, ha, pa, g, hc, cn, h8, ht, _, q⟩ := h; exact S3.r_law_gives ha pa g hc cn h8 ht q)
theorem w_lcounted : wSs (wp 40) (cfg (tabs C [("_law_cell_at", sp_law_cell_at K)] [] []) K ["_law_script", "_law_at", "_law_many", "_law_wide", "_law_found", "_law_k", "_law_cell", "_law_turn"] (defScope s_lcounted).names E0) (defBody s_lcounted) = S3.t_law_counted K := by kernel_rfl
theorem ok_lcounted {f : Addr} {fd : FuncData} (A : DefAt K mg "_law_counted" s_lcounted ["_law_script", "_law_at", "_law_many"] f fd) (T : Txt K mg C) (hcell : FnE P w K mg base CX0 2 "_law_cell_at" (sp_law_cell_at K)) : FnE P w K mg base CX0 4 "_law_counted" (S3.sp_law_counted K) :=
  A.ok (k := 2) 40 sc_lcounted (lib T (.cons (hcell.mono (by decide)) (.nil)) (.nil) (.nil)) (λ vs H Q E h => by obtain ⟨a, ns, x, y, rfl, _⟩ := h; rfl) w_lcounted (λ vs H Q E h => by obtain ⟨a, ns, x, y, rfl, hS, h0, h1, h2, h3, q⟩ := h; exact S3.r_law_counted hS h0 h1 h2 h3 q)
theorem w_lfilled : wSs (wp 40) (cfg (tabs C [("_law_places", S3.sp_law_places), ("_law_rows", S.sp_law_rows)] [] []) K ["_law_parts_here", "_law_columns_here", "_law_counts", "_law_numbers", "_law_place", "_law_at", "_law_row", "_law_column", "_law_name", "_law_above", "_law_part"] (defScope s_lfilled).names E0) (defBody s_lfilled) = S3.t_law_filled := by kernel_rfl
theorem ok_lfilled {f : Addr} {fd : FuncData} (A : DefAt K mg "_law_filled" s_lfilled ["_law_parts_here", "_law_columns_here", "_law_counts"] f fd) (T : Txt K mg C) (hlplaces : FnE P w K mg base CX0 2 "_law_places" (S3.sp_law_places)) (hlrows : FnE P w K mg base CX0 2 "_law_rows" (S.sp_law_rows)) : FnE P w K mg base CX0 4 "_law_filled" (S3.sp_law_filled) :=
  A.ok (k := 2) 40 sc_lfilled (lib T (.cons (hlplaces.mono (by decide)) (.cons (hlrows.mono (by decide)) (.nil))) (.nil) (.nil)) (λ vs H Q E h => by obtain ⟨a, c, m, xs, ms, ps, cs, rfl, _⟩ := h; rfl) w_lfilled (λ vs H Q E h => by obtain ⟨a, c, m, xs, ms, ps, cs, rfl, ha, pa, g, hc, cn, h8, hm, lm, q⟩ := h; exact S3.r_law_filled ha pa g hc cn h8 hm lm q)
theorem w_lsome : wSs (wp 40) (cfg (tabs C [("_law_cell_at", sp_law_cell_at K)] [] []) K ["_law_script", "_law_sums_here", "_law_some_here", "_law_k", "_law_cell"] (defScope s_lsome).names E0) (defBody s_lsome) = S3.t_law_some K := by kernel_rfl
theorem ok_lsome {f : Addr} {fd : FuncData} (A : DefAt K mg "_law_some" s_lsome ["_law_script", "_law_sums_here"] f fd) (T : Txt K mg C) (hcell : FnE P w K mg base CX0 2 "_law_cell_at" (sp_law_cell_at K)) : FnE P w K mg base CX0 4 "_law_some" (S3.sp_law_some K) :=
  A.ok (k := 2) 40 sc_lsome (lib T (.cons (hcell.mono (by decide)) (.nil)) (.nil) (.nil)) (λ vs H Q E h => by obtain ⟨a, l, ns, zs, L, rfl, _⟩ := h; rfl) w_lsome (λ vs H Q E h => by obtain ⟨a, l, ns, zs, L, rfl, hS, hl, tz, nd, hn, q⟩ := h; exact S3.r_law_some hS hl tz nd hn q)
theorem w_ldue : wSs (wp 40) (cfg (tabs C [("_law_gives", S3.sp_law_gives)] [] []) K ["_law_parts_here", "_law_columns_here", "_law_some_here", "_law_counts", "_law_one", "_law_given", "_law_place"] (defScope s_ldue).names E0) (defBody s_ldue) = S3.t_law_due := by kernel_rfl
theorem ok_ldue {f : Addr} {fd : FuncData} (A : DefAt K mg "_law_due" s_ldue ["_law_parts_here", "_law_columns_here", "_law_some_here"] f fd) (T : Txt K mg C) (hlgives : FnE P w K mg base CX0 2 "_law_gives" (S3.sp_law_gives)) : FnE P w K mg base CX0 4 "_law_due" (S3.sp_law_due) :=
  A.ok (k := 2) 40 sc_ldue (lib T (.cons (hlgives.mono (by decide)) (.nil)) (.nil) (.nil)) (λ vs H Q E h => by obtain ⟨a, c, l, xs, zs, ps, cs, L, rfl, _⟩ := h; rfl) w_ldue (λ vs H Q E h => by obtain ⟨a, c, l, xs, zs, ps, cs, L, rfl, ha, pa, g, hc, cn, h8, hl, tz, hL, hn, q⟩ := h; exact S3.r_law_due ha pa g hc cn h8 hl tz hL hn q)
theorem w_law : wSs (wp 40) (cfg (tabs C [("_law_parts", sp_law_parts K), ("_law_columns", sp_law_columns K), ("_law_places", S3.sp_law_places), ("_law_sums", S.sp_law_sums), ("_law_some", S3.sp_law_some K), ("added", S3.sp_added C), ("_law_due", S3.sp_law_due), ("_law_rows", S.sp_law_rows), ("_law_filled", S3.sp_law_filled), ("_law_counted", S3.sp_law_counted K)] [("House", C, sp_House_init C)] []) K ["_law_script", "_law_parts_here", "_law_columns_here", "_law_house", "_law_places_here", "_law_sums_here", "_law_some_here", "_law_handed", "_law_found", "_law_counts", "_law_due_here", "_law_total", "_law_many", "_law_numbers", "_law_place", "_law_count"] (defScope s_law).names E0) (defBody s_law) = S3.t23_law K C := by kernel_rfl
theorem ok_law {f : Addr} {fd : FuncData} (F : Fun K "law" "law" s_law f fd) (T : Txt K mg C) (hlparts : FnE P w K mg base CX0 4 "_law_parts" (sp_law_parts K)) (hlcols : FnE P w K mg base CX0 4 "_law_columns" (sp_law_columns K)) (hinit : MkE P w K mg base CX0 8 "House" (C, sp_House_init C)) (hlplaces : FnE P w K mg base CX0 2 "_law_places" (S3.sp_law_places)) (hlsums : FnE P w K mg base CX0 4 "_law_sums" (S.sp_law_sums)) (hlsome : FnE P w K mg base CX0 4 "_law_some" (S3.sp_law_some K)) (hadded : FnE P w K mg base CX0 8 "added" (S3.sp_added C)) (hldue : FnE P w K mg base CX0 4 "_law_due" (S3.sp_law_due)) (hlrows : FnE P w K mg base CX0 2 "_law_rows" (S.sp_law_rows)) (hlfilled : FnE P w K mg base CX0 4 "_law_filled" (S3.sp_law_filled)) (hlcounted : FnE P w K mg base CX0 4 "_law_counted" (S3.sp_law_counted K)) : FnOk P w K mg base CX0 10 f fd ["_law_script"] (spLaw K) :=
  fn_wp (k := 8) 40 F sc_law (lib T (.cons (hlparts.mono (by decide)) (.cons (hlcols.mono (by decide)) (.cons (hlplaces.mono (by decide)) (.cons (hlsums.mono (by decide)) (.cons (hlsome.mono (by decide)) (.cons (hadded.mono (by decide)) (.cons (hldue.mono (by decide)) (.cons (hlrows.mono (by decide)) (.cons (hlfilled.mono (by decide)) (.cons (hlcounted.mono (by decide)) (.nil))))))))))) (.cons (hinit.mono (by decide)) (.nil)) (.nil)) (λ vs H Q E h => by obtain ⟨a, ns, rfl, _⟩ := h; rfl) w_law (λ vs H Q E h => by obtain ⟨a, ns, rfl, hS, hl, q⟩ := h; exact S3.r23_law hS q)
end
theorem all_mk {l : PySem.W.OpenLaw} {w : World} {K : PySem.W.Frag} {h : Heap} {mg : Str -> Option Value} {fa C : Addr} (X : K.In h) (G : h.Ns mainGlobals mg) (hfa : mg "law" = some (.ref fa))
    {fname : Addr} {ocname : Value} {odname anname : Option Addr} {slname : Array (Option Value)} {kVname dcname pmname cdname ctname : Value}
    {fplain : Addr} {ocplain : Value} {odplain anplain : Option Addr} {slplain : Array (Option Value)} {kVplain dcplain pmplain cdplain ctplain : Value}
    {fcname : Addr} {occname : Value} {odcname ancname : Option Addr} {slcname : Array (Option Value)} {kVcname dccname pmcname cdcname ctcname : Value}
    {fcabove : Addr} {occabove : Value} {odcabove ancabove : Option Addr} {slcabove : Array (Option Value)} {kVcabove dccabove pmcabove cdcabove ctcabove : Value}
    {fccols : Addr} {occcols : Value} {odccols anccols : Option Addr} {slccols : Array (Option Value)} {kVccols dcccols pmccols cdccols ctccols : Value}
    {fcparts : Addr} {occparts : Value} {odcparts ancparts : Option Addr} {slcparts : Array (Option Value)} {kVcparts dccparts pmcparts cdcparts ctcparts : Value}
    {fturned : Addr} {octurned : Value} {odturned anturned : Option Addr} {slturned : Array (Option Value)} {kVturned dcturned pmturned cdturned ctturned : Value}
    {finit : Addr} {ocinit : Value} {odinit aninit : Option Addr} {slinit : Array (Option Value)} {kVinit dcinit pminit cdinit ctinit : Value}
    {fmparts : Addr} {ocmparts : Value} {odmparts anmparts : Option Addr} {slmparts : Array (Option Value)} {kVmparts dcmparts pmmparts cdmparts ctmparts : Value}
    {fmcols : Addr} {ocmcols : Value} {odmcols anmcols : Option Addr} {slmcols : Array (Option Value)} {kVmcols dcmcols pmmcols cdmcols ctmcols : Value}
    {fmben : Addr} {ocmben : Value} {odmben anmben : Option Addr} {slmben : Array (Option Value)} {kVmben dcmben pmmben cdmben ctmben : Value}
    {fpaired : Addr} {ocpaired : Value} {odpaired anpaired : Option Addr} {slpaired : Array (Option Value)} {kVpaired dcpaired pmpaired cdpaired ctpaired : Value}
    {fmplaces : Addr} {ocmplaces : Value} {odmplaces anmplaces : Option Addr} {slmplaces : Array (Option Value)} {kVmplaces dcmplaces pmmplaces cdmplaces ctmplaces : Value}
    {fwhole : Addr} {ocwhole : Value} {odwhole anwhole : Option Addr} {slwhole : Array (Option Value)} {kVwhole dcwhole pmwhole cdwhole ctwhole : Value}
    {fothers : Addr} {ocothers : Value} {odothers anothers : Option Addr} {slothers : Array (Option Value)} {kVothers dcothers pmothers cdothers ctothers : Value}
    {fsign : Addr} {ocsign : Value} {odsign ansign : Option Addr} {slsign : Array (Option Value)} {kVsign dcsign pmsign cdsign ctsign : Value}
    {fgiven : Addr} {ocgiven : Value} {odgiven angiven : Option Addr} {slgiven : Array (Option Value)} {kVgiven dcgiven pmgiven cdgiven ctgiven : Value}
    {fadded : Addr} {ocadded : Value} {odadded anadded : Option Addr} {sladded : Array (Option Value)} {kVadded dcadded pmadded cdadded ctadded : Value}
    {fcell : Addr} {occell : Value} {odcell ancell : Option Addr} {slcell : Array (Option Value)} {kVcell dccell pmcell cdcell ctcell : Value}
    {flnames : Addr} {oclnames : Value} {odlnames anlnames : Option Addr} {sllnames : Array (Option Value)} {kVlnames dclnames pmlnames cdlnames ctlnames : Value}
    {flparts : Addr} {oclparts : Value} {odlparts anlparts : Option Addr} {sllparts : Array (Option Value)} {kVlparts dclparts pmlparts cdlparts ctlparts : Value}
    {flcols : Addr} {oclcols : Value} {odlcols anlcols : Option Addr} {sllcols : Array (Option Value)} {kVlcols dclcols pmlcols cdlcols ctlcols : Value}
    {flrows : Addr} {oclrows : Value} {odlrows anlrows : Option Addr} {sllrows : Array (Option Value)} {kVlrows dclrows pmlrows cdlrows ctlrows : Value}
    {flplaces : Addr} {oclplaces : Value} {odlplaces anlplaces : Option Addr} {sllplaces : Array (Option Value)} {kVlplaces dclplaces pmlplaces cdlplaces ctlplaces : Value}
    {flsums : Addr} {oclsums : Value} {odlsums anlsums : Option Addr} {sllsums : Array (Option Value)} {kVlsums dclsums pmlsums cdlsums ctlsums : Value}
    {flgives : Addr} {oclgives : Value} {odlgives anlgives : Option Addr} {sllgives : Array (Option Value)} {kVlgives dclgives pmlgives cdlgives ctlgives : Value}
    {flcounted : Addr} {oclcounted : Value} {odlcounted anlcounted : Option Addr} {sllcounted : Array (Option Value)} {kVlcounted dclcounted pmlcounted cdlcounted ctlcounted : Value}
    {flfilled : Addr} {oclfilled : Value} {odlfilled anlfilled : Option Addr} {sllfilled : Array (Option Value)} {kVlfilled dclfilled pmlfilled cdlfilled ctlfilled : Value}
    {flsome : Addr} {oclsome : Value} {odlsome anlsome : Option Addr} {sllsome : Array (Option Value)} {kVlsome dclsome pmlsome cdlsome ctlsome : Value}
    {fldue : Addr} {ocldue : Value} {odldue anldue : Option Addr} {slldue : Array (Option Value)} {kVldue dcldue pmldue cdldue ctldue : Value}
    {flaw : Addr} {oclaw : Value} {odlaw anlaw : Option Addr} {sllaw : Array (Option Value)} {kVlaw dclaw pmlaw cdlaw ctlaw : Value}
    (aC : PySem.W.nsIn K mainGlobals "House" = some (some (.ref C)))
    (aname : PySem.W.nsIn K mainGlobals "is_name" = some (some (.ref fname))) (lname : K.lookup fname = some ⟨ocname, odname, .func (PySem.W.fnOf "is_name" "is_name" (defArgs s_name) (defBody s_name) (defScope s_name) .none kVname dcname pmname anname cdname ctname), slname⟩) (cname : PySem.W.codeIn K cdname "is_name" = true) (kname : PySem.W.keepIn K (.ref fname) = true)
    (aplain : PySem.W.nsIn K mainGlobals "plain_text" = some (some (.ref fplain))) (lplain : K.lookup fplain = some ⟨ocplain, odplain, .func (PySem.W.fnOf "plain_text" "plain_text" (defArgs s_plain) (defBody s_plain) (defScope s_plain) .none kVplain dcplain pmplain anplain cdplain ctplain), slplain⟩) (cplain : PySem.W.codeIn K cdplain "plain_text" = true) (kplain : PySem.W.keepIn K (.ref fplain) = true)
    (acname : PySem.W.nsIn K mainGlobals "checked_name" = some (some (.ref fcname))) (lcname : K.lookup fcname = some ⟨occname, odcname, .func (PySem.W.fnOf "checked_name" "checked_name" (defArgs s_cname) (defBody s_cname) (defScope s_cname) .none kVcname dccname pmcname ancname cdcname ctcname), slcname⟩) (ccname : PySem.W.codeIn K cdcname "checked_name" = true) (kcname : PySem.W.keepIn K (.ref fcname) = true)
    (acabove : PySem.W.nsIn K mainGlobals "checked_above" = some (some (.ref fcabove))) (lcabove : K.lookup fcabove = some ⟨occabove, odcabove, .func (PySem.W.fnOf "checked_above" "checked_above" (defArgs s_cabove) (defBody s_cabove) (defScope s_cabove) .none kVcabove dccabove pmcabove ancabove cdcabove ctcabove), slcabove⟩) (ccabove : PySem.W.codeIn K cdcabove "checked_above" = true) (kcabove : PySem.W.keepIn K (.ref fcabove) = true)
    (accols : PySem.W.nsIn K mainGlobals "checked_columns" = some (some (.ref fccols))) (lccols : K.lookup fccols = some ⟨occcols, odccols, .func (PySem.W.fnOf "checked_columns" "checked_columns" (defArgs s_ccols) (defBody s_ccols) (defScope s_ccols) .none kVccols dcccols pmccols anccols cdccols ctccols), slccols⟩) (cccols : PySem.W.codeIn K cdccols "checked_columns" = true) (kccols : PySem.W.keepIn K (.ref fccols) = true)
    (acparts : PySem.W.nsIn K mainGlobals "checked_parts" = some (some (.ref fcparts))) (lcparts : K.lookup fcparts = some ⟨occparts, odcparts, .func (PySem.W.fnOf "checked_parts" "checked_parts" (defArgs s_cparts) (defBody s_cparts) (defScope s_cparts) .none kVcparts dccparts pmcparts ancparts cdcparts ctcparts), slcparts⟩) (ccparts : PySem.W.codeIn K cdcparts "checked_parts" = true) (kcparts : PySem.W.keepIn K (.ref fcparts) = true)
    (aturned : PySem.W.nsIn K mainGlobals "turned_about" = some (some (.ref fturned))) (lturned : K.lookup fturned = some ⟨octurned, odturned, .func (PySem.W.fnOf "turned_about" "turned_about" (defArgs s_turned) (defBody s_turned) (defScope s_turned) .none kVturned dcturned pmturned anturned cdturned ctturned), slturned⟩) (cturned : PySem.W.codeIn K cdturned "turned_about" = true) (kturned : PySem.W.keepIn K (.ref fturned) = true)
    (ainit : PySem.W.findIn K (.ref C) "__init__" = some (some (.ref finit))) (iinit : PySem.W.isFn K (.ref finit) = true) (linit : K.lookup finit = some ⟨ocinit, odinit, .func (PySem.W.fnOf "__init__" "House.__init__" (defArgs s_init) (defBody s_init) (defScope s_init) .none kVinit dcinit pminit aninit cdinit ctinit), slinit⟩) (cinit : PySem.W.codeIn K cdinit "House.__init__" = true) (kinit : PySem.W.keepIn K (.ref finit) = true)
    (amparts : PySem.W.findIn K (.ref C) "parts" = some (some (.ref fmparts))) (imparts : PySem.W.isFn K (.ref fmparts) = true) (lmparts : K.lookup fmparts = some ⟨ocmparts, odmparts, .func (PySem.W.fnOf "parts" "House.parts" (defArgs s_mparts) (defBody s_mparts) (defScope s_mparts) .none kVmparts dcmparts pmmparts anmparts cdmparts ctmparts), slmparts⟩) (cmparts : PySem.W.codeIn K cdmparts "House.parts" = true) (kmparts : PySem.W.keepIn K (.ref fmparts) = true)
    (amcols : PySem.W.findIn K (.ref C) "columns" = some (some (.ref fmcols))) (imcols : PySem.W.isFn K (.ref fmcols) = true) (lmcols : K.lookup fmcols = some ⟨ocmcols, odmcols, .func (PySem.W.fnOf "columns" "House.columns" (defArgs s_mcols) (defBody s_mcols) (defScope s_mcols) .none kVmcols dcmcols pmmcols anmcols cdmcols ctmcols), slmcols⟩) (cmcols : PySem.W.codeIn K cdmcols "House.columns" = true) (kmcols : PySem.W.keepIn K (.ref fmcols) = true)
    (amben : PySem.W.findIn K (.ref C) "beneath" = some (some (.ref fmben))) (imben : PySem.W.isFn K (.ref fmben) = true) (lmben : K.lookup fmben = some ⟨ocmben, odmben, .func (PySem.W.fnOf "beneath" "House.beneath" (defArgs s_mben) (defBody s_mben) (defScope s_mben) .none kVmben dcmben pmmben anmben cdmben ctmben), slmben⟩) (cmben : PySem.W.codeIn K cdmben "House.beneath" = true) (kmben : PySem.W.keepIn K (.ref fmben) = true)
    (apaired : PySem.W.nsIn K mainGlobals "paired" = some (some (.ref fpaired))) (lpaired : K.lookup fpaired = some ⟨ocpaired, odpaired, .func (PySem.W.fnOf "paired" "paired" (defArgs s_paired) (defBody s_paired) (defScope s_paired) .none kVpaired dcpaired pmpaired anpaired cdpaired ctpaired), slpaired⟩) (cpaired : PySem.W.codeIn K cdpaired "paired" = true) (kpaired : PySem.W.keepIn K (.ref fpaired) = true)
    (amplaces : PySem.W.findIn K (.ref C) "places" = some (some (.ref fmplaces))) (implaces : PySem.W.isFn K (.ref fmplaces) = true) (lmplaces : K.lookup fmplaces = some ⟨ocmplaces, odmplaces, .func (PySem.W.fnOf "places" "House.places" (defArgs s_mplaces) (defBody s_mplaces) (defScope s_mplaces) .none kVmplaces dcmplaces pmmplaces anmplaces cdmplaces ctmplaces), slmplaces⟩) (cmplaces : PySem.W.codeIn K cdmplaces "House.places" = true) (kmplaces : PySem.W.keepIn K (.ref fmplaces) = true)
    (awhole : PySem.W.nsIn K mainGlobals "whole_of" = some (some (.ref fwhole))) (lwhole : K.lookup fwhole = some ⟨ocwhole, odwhole, .func (PySem.W.fnOf "whole_of" "whole_of" (defArgs s_whole) (defBody s_whole) (defScope s_whole) .none kVwhole dcwhole pmwhole anwhole cdwhole ctwhole), slwhole⟩) (cwhole : PySem.W.codeIn K cdwhole "whole_of" = true) (kwhole : PySem.W.keepIn K (.ref fwhole) = true)
    (aothers : PySem.W.nsIn K mainGlobals "others_of" = some (some (.ref fothers))) (lothers : K.lookup fothers = some ⟨ocothers, odothers, .func (PySem.W.fnOf "others_of" "others_of" (defArgs s_others) (defBody s_others) (defScope s_others) .none kVothers dcothers pmothers anothers cdothers ctothers), slothers⟩) (cothers : PySem.W.codeIn K cdothers "others_of" = true) (kothers : PySem.W.keepIn K (.ref fothers) = true)
    (asign : PySem.W.nsIn K mainGlobals "sign_of" = some (some (.ref fsign))) (lsign : K.lookup fsign = some ⟨ocsign, odsign, .func (PySem.W.fnOf "sign_of" "sign_of" (defArgs s_sign) (defBody s_sign) (defScope s_sign) .none kVsign dcsign pmsign ansign cdsign ctsign), slsign⟩) (csign : PySem.W.codeIn K cdsign "sign_of" = true) (ksign : PySem.W.keepIn K (.ref fsign) = true)
    (agiven : PySem.W.nsIn K mainGlobals "given_by" = some (some (.ref fgiven))) (lgiven : K.lookup fgiven = some ⟨ocgiven, odgiven, .func (PySem.W.fnOf "given_by" "given_by" (defArgs s_given) (defBody s_given) (defScope s_given) .none kVgiven dcgiven pmgiven angiven cdgiven ctgiven), slgiven⟩) (cgiven : PySem.W.codeIn K cdgiven "given_by" = true) (kgiven : PySem.W.keepIn K (.ref fgiven) = true)
    (aadded : PySem.W.nsIn K mainGlobals "added" = some (some (.ref fadded))) (ladded : K.lookup fadded = some ⟨ocadded, odadded, .func (PySem.W.fnOf "added" "added" (defArgs s_added) (defBody s_added) (defScope s_added) .none kVadded dcadded pmadded anadded cdadded ctadded), sladded⟩) (cadded : PySem.W.codeIn K cdadded "added" = true) (kadded : PySem.W.keepIn K (.ref fadded) = true)
    (acell : PySem.W.nsIn K mainGlobals "_law_cell_at" = some (some (.ref fcell))) (lcell : K.lookup fcell = some ⟨occell, odcell, .func (PySem.W.fnOf "_law_cell_at" "_law_cell_at" (defArgs s_cell) (defBody s_cell) (defScope s_cell) .none kVcell dccell pmcell ancell cdcell ctcell), slcell⟩) (ccell : PySem.W.codeIn K cdcell "_law_cell_at" = true) (kcell : PySem.W.keepIn K (.ref fcell) = true)
    (alnames : PySem.W.nsIn K mainGlobals "_law_names" = some (some (.ref flnames))) (llnames : K.lookup flnames = some ⟨oclnames, odlnames, .func (PySem.W.fnOf "_law_names" "_law_names" (defArgs s_lnames) (defBody s_lnames) (defScope s_lnames) .none kVlnames dclnames pmlnames anlnames cdlnames ctlnames), sllnames⟩) (clnames : PySem.W.codeIn K cdlnames "_law_names" = true) (klnames : PySem.W.keepIn K (.ref flnames) = true)
    (alparts : PySem.W.nsIn K mainGlobals "_law_parts" = some (some (.ref flparts))) (llparts : K.lookup flparts = some ⟨oclparts, odlparts, .func (PySem.W.fnOf "_law_parts" "_law_parts" (defArgs s_lparts) (defBody s_lparts) (defScope s_lparts) .none kVlparts dclparts pmlparts anlparts cdlparts ctlparts), sllparts⟩) (clparts : PySem.W.codeIn K cdlparts "_law_parts" = true) (klparts : PySem.W.keepIn K (.ref flparts) = true)
    (alcols : PySem.W.nsIn K mainGlobals "_law_columns" = some (some (.ref flcols))) (llcols : K.lookup flcols = some ⟨oclcols, odlcols, .func (PySem.W.fnOf "_law_columns" "_law_columns" (defArgs s_lcols) (defBody s_lcols) (defScope s_lcols) .none kVlcols dclcols pmlcols anlcols cdlcols ctlcols), sllcols⟩) (clcols : PySem.W.codeIn K cdlcols "_law_columns" = true) (klcols : PySem.W.keepIn K (.ref flcols) = true)
    (alrows : PySem.W.nsIn K mainGlobals "_law_rows" = some (some (.ref flrows))) (llrows : K.lookup flrows = some ⟨oclrows, odlrows, .func (PySem.W.fnOf "_law_rows" "_law_rows" (defArgs s_lrows) (defBody s_lrows) (defScope s_lrows) .none kVlrows dclrows pmlrows anlrows cdlrows ctlrows), sllrows⟩) (clrows : PySem.W.codeIn K cdlrows "_law_rows" = true) (klrows : PySem.W.keepIn K (.ref flrows) = true)
    (alplaces : PySem.W.nsIn K mainGlobals "_law_places" = some (some (.ref flplaces))) (llplaces : K.lookup flplaces = some ⟨oclplaces, odlplaces, .func (PySem.W.fnOf "_law_places" "_law_places" (defArgs s_lplaces) (defBody s_lplaces) (defScope s_lplaces) .none kVlplaces dclplaces pmlplaces anlplaces cdlplaces ctlplaces), sllplaces⟩) (clplaces : PySem.W.codeIn K cdlplaces "_law_places" = true) (klplaces : PySem.W.keepIn K (.ref flplaces) = true)
    (alsums : PySem.W.nsIn K mainGlobals "_law_sums" = some (some (.ref flsums))) (llsums : K.lookup flsums = some ⟨oclsums, odlsums, .func (PySem.W.fnOf "_law_sums" "_law_sums" (defArgs s_lsums) (defBody s_lsums) (defScope s_lsums) .none kVlsums dclsums pmlsums anlsums cdlsums ctlsums), sllsums⟩) (clsums : PySem.W.codeIn K cdlsums "_law_sums" = true) (klsums : PySem.W.keepIn K (.ref flsums) = true)
    (algives : PySem.W.nsIn K mainGlobals "_law_gives" = some (some (.ref flgives))) (llgives : K.lookup flgives = some ⟨oclgives, odlgives, .func (PySem.W.fnOf "_law_gives" "_law_gives" (defArgs s_lgives) (defBody s_lgives) (defScope s_lgives) .none kVlgives dclgives pmlgives anlgives cdlgives ctlgives), sllgives⟩) (clgives : PySem.W.codeIn K cdlgives "_law_gives" = true) (klgives : PySem.W.keepIn K (.ref flgives) = true)
    (alcounted : PySem.W.nsIn K mainGlobals "_law_counted" = some (some (.ref flcounted))) (llcounted : K.lookup flcounted = some ⟨oclcounted, odlcounted, .func (PySem.W.fnOf "_law_counted" "_law_counted" (defArgs s_lcounted) (defBody s_lcounted) (defScope s_lcounted) .none kVlcounted dclcounted pmlcounted anlcounted cdlcounted ctlcounted), sllcounted⟩) (clcounted : PySem.W.codeIn K cdlcounted "_law_counted" = true) (klcounted : PySem.W.keepIn K (.ref flcounted) = true)
    (alfilled : PySem.W.nsIn K mainGlobals "_law_filled" = some (some (.ref flfilled))) (llfilled : K.lookup flfilled = some ⟨oclfilled, odlfilled, .func (PySem.W.fnOf "_law_filled" "_law_filled" (defArgs s_lfilled) (defBody s_lfilled) (defScope s_lfilled) .none kVlfilled dclfilled pmlfilled anlfilled cdlfilled ctlfilled), sllfilled⟩) (clfilled : PySem.W.codeIn K cdlfilled "_law_filled" = true) (klfilled : PySem.W.keepIn K (.ref flfilled) = true)
    (alsome : PySem.W.nsIn K mainGlobals "_law_some" = some (some (.ref flsome))) (llsome : K.lookup flsome = some ⟨oclsome, odlsome, .func (PySem.W.fnOf "_law_some" "_law_some" (defArgs s_lsome) (defBody s_lsome) (defScope s_lsome) .none kVlsome dclsome pmlsome anlsome cdlsome ctlsome), sllsome⟩) (clsome : PySem.W.codeIn K cdlsome "_law_some" = true) (klsome : PySem.W.keepIn K (.ref flsome) = true)
    (aldue : PySem.W.nsIn K mainGlobals "_law_due" = some (some (.ref fldue))) (lldue : K.lookup fldue = some ⟨ocldue, odldue, .func (PySem.W.fnOf "_law_due" "_law_due" (defArgs s_ldue) (defBody s_ldue) (defScope s_ldue) .none kVldue dcldue pmldue anldue cdldue ctldue), slldue⟩) (cldue : PySem.W.codeIn K cdldue "_law_due" = true) (kldue : PySem.W.keepIn K (.ref fldue) = true)
    (alaw : PySem.W.nsIn K mainGlobals "law" = some (some (.ref flaw))) (llaw : K.lookup flaw = some ⟨oclaw, odlaw, .func (PySem.W.fnOf "law" "law" (defArgs s_law) (defBody s_law) (defScope s_law) .none kVlaw dclaw pmlaw anlaw cdlaw ctlaw), sllaw⟩) (claw : PySem.W.codeIn K cdlaw "law" = true) (klaw : PySem.W.keepIn K (.ref flaw) = true)
    (pg : PySem.W.plainGet K C Str.empty = true) (hd : PySem.W.hasDictIn K C = true) (po : PySem.W.plainOver K C = true) (sa : PySem.W.findIn K (.ref C) "__setattr__" = some (some (.builtin "object.__setattr__"))) (mk : PySem.W.makesIn K C = true) (kc : PySem.W.keepIn K (.ref C) = true)
    (f_above_of : PySem.W.findIn K (.ref C) "above_of" = some none)
    (f_column_names : PySem.W.findIn K (.ref C) "column_names" = some none)
    (f_beneath_of : PySem.W.findIn K (.ref C) "beneath_of" = some none)
    (z_isinstance : PySem.W.nsIn K mainGlobals "isinstance" = some none)
    (z_str : PySem.W.nsIn K mainGlobals "str" = some none)
    (z_list : PySem.W.nsIn K mainGlobals "list" = some none)
    (z_tuple : PySem.W.nsIn K mainGlobals "tuple" = some none)
    (z_len : PySem.W.nsIn K mainGlobals "len" = some none)
    (z_all : PySem.W.nsIn K mainGlobals "all" = some none)
    (z_range : PySem.W.nsIn K mainGlobals "range" = some none)
    (z_int : PySem.W.nsIn K mainGlobals "int" = some none)
    (z_reversed : PySem.W.nsIn K mainGlobals "reversed" = some none)
    (z_sum : PySem.W.nsIn K mainGlobals "sum" = some none)
    (z_dict : PySem.W.nsIn K mainGlobals "dict" = some none)
    (z_bool : PySem.W.nsIn K mainGlobals "bool" = some none)
    {t_ALL : Tok} (g_ALL : PySem.W.nsIn K mainGlobals "ALL" = some (some (.str "all" t_ALL)))
    {t_DOWN : Tok} (g_DOWN : PySem.W.nsIn K mainGlobals "DOWN" = some (some (.str "down" t_DOWN)))
    : ∃ fd : FuncData, (∀ (s : Shared) (v : Value), BindsTo s fd ⟨[v], []⟩ [("_law_script", v)]) /\ ∀ base : Heap, K.In base -> base.Ns mainGlobals mg -> FnOk l.prog w K mg base CX0 10 fa fd ["_law_script"] (spLaw K) := by
  have e := hfa.symm.trans (PySem.W.mg_of X G alaw)
  cases e
  have T : Txt K mg C := ⟨⟨pg, hd, po, sa⟩, PySem.W.mg_of X G aC, f_above_of, f_column_names, f_beneath_of, PySem.W.mg_none_of X G z_isinstance, PySem.W.mg_none_of X G z_str, PySem.W.mg_none_of X G z_list, PySem.W.mg_none_of X G z_tuple, PySem.W.mg_none_of X G z_len, PySem.W.mg_none_of X G z_all, PySem.W.mg_none_of X G z_range, PySem.W.mg_none_of X G z_int, PySem.W.mg_none_of X G z_reversed, PySem.W.mg_none_of X G z_sum, PySem.W.mg_none_of X G z_dict, PySem.W.mg_none_of X G z_bool, ⟨_, PySem.W.mg_of X G g_ALL⟩, ⟨_, PySem.W.mg_of X G g_DOWN⟩⟩
  obtain ⟨fdname, Aname⟩ := defAt (ps := ["thing"]) X G aname lname cname kname λ _ _ _ _ _ _ us hl => (by obtain ⟨_, rfl⟩ := us1 hl; rfl)
  obtain ⟨fdplain, Aplain⟩ := defAt (ps := ["text"]) X G aplain lplain cplain kplain λ _ _ _ _ _ _ us hl => (by obtain ⟨_, rfl⟩ := us1 hl; rfl)
  obtain ⟨fdcname, Acname⟩ := defAt (ps := ["thing", "ahead"]) X G acname lcname ccname kcname λ _ _ _ _ _ _ us hl => (by obtain ⟨_, _, rfl⟩ := us2 hl; rfl)
  obtain ⟨fdcabove, Acabove⟩ := defAt (ps := ["thing", "ahead"]) X G acabove lcabove ccabove kcabove λ _ _ _ _ _ _ us hl => (by obtain ⟨_, _, rfl⟩ := us2 hl; rfl)
  obtain ⟨fdccols, Accols⟩ := defAt (ps := ["columns"]) X G accols lccols cccols kccols λ _ _ _ _ _ _ us hl => (by obtain ⟨_, rfl⟩ := us1 hl; rfl)
  obtain ⟨fdcparts, Acparts⟩ := defAt (ps := ["parts"]) X G acparts lcparts ccparts kcparts λ _ _ _ _ _ _ us hl => (by obtain ⟨_, rfl⟩ := us1 hl; rfl)
  obtain ⟨fdturned, Aturned⟩ := defAt (ps := ["above_of"]) X G aturned lturned cturned kturned λ _ _ _ _ _ _ us hl => (by obtain ⟨_, rfl⟩ := us1 hl; rfl)
  have Finit := fun_mk (st := s_init) linit cinit kinit
  have binit := Finit.binds (ps := ["self", "parts", "columns"]) λ _ _ _ _ _ _ us hl => (by obtain ⟨_, _, _, rfl⟩ := us3 hl; rfl)
  have Fmparts := fun_mk (st := s_mparts) lmparts cmparts kmparts
  have bmparts := Fmparts.binds (ps := ["self"]) λ _ _ _ _ _ _ us hl => (by obtain ⟨_, rfl⟩ := us1 hl; rfl)
  have Fmcols := fun_mk (st := s_mcols) lmcols cmcols kmcols
  have bmcols := Fmcols.binds (ps := ["self"]) λ _ _ _ _ _ _ us hl => (by obtain ⟨_, rfl⟩ := us1 hl; rfl)
  have Fmben := fun_mk (st := s_mben) lmben cmben kmben
  have bmben := Fmben.binds (ps := ["self", "part"]) λ _ _ _ _ _ _ us hl => (by obtain ⟨_, _, rfl⟩ := us2 hl; rfl)
  obtain ⟨fdpaired, Apaired⟩ := defAt (ps := ["parts", "columns"]) X G apaired lpaired cpaired kpaired λ _ _ _ _ _ _ us hl => (by obtain ⟨_, _, rfl⟩ := us2 hl; rfl)
  have Fmplaces := fun_mk (st := s_mplaces) lmplaces cmplaces kmplaces
  have bmplaces := Fmplaces.binds (ps := ["self"]) λ _ _ _ _ _ _ us hl => (by obtain ⟨_, rfl⟩ := us1 hl; rfl)
  obtain ⟨fdwhole, Awhole⟩ := defAt (ps := ["house", "one"]) X G awhole lwhole cwhole kwhole λ _ _ _ _ _ _ us hl => (by obtain ⟨_, _, rfl⟩ := us2 hl; rfl)
  obtain ⟨fdothers, Aothers⟩ := defAt (ps := ["house", "one"]) X G aothers lothers cothers kothers λ _ _ _ _ _ _ us hl => (by obtain ⟨_, _, rfl⟩ := us2 hl; rfl)
  obtain ⟨fdsign, Asign⟩ := defAt (ps := ["one"]) X G asign lsign csign ksign λ _ _ _ _ _ _ us hl => (by obtain ⟨_, rfl⟩ := us1 hl; rfl)
  obtain ⟨fdgiven, Agiven⟩ := defAt (ps := ["house", "one"]) X G agiven lgiven cgiven kgiven λ _ _ _ _ _ _ us hl => (by obtain ⟨_, _, rfl⟩ := us2 hl; rfl)
  obtain ⟨fdadded, Aadded⟩ := defAt (ps := ["house", "sums"]) X G aadded ladded cadded kadded λ _ _ _ _ _ _ us hl => (by obtain ⟨_, _, rfl⟩ := us2 hl; rfl)
  obtain ⟨fdcell, Acell⟩ := defAt (ps := ["_law_script", "_law_k"]) X G acell lcell ccell kcell λ _ _ _ _ _ _ us hl => (by obtain ⟨_, _, rfl⟩ := us2 hl; rfl)
  obtain ⟨fdlnames, Alnames⟩ := defAt (ps := ["_law_cell", "_law_many"]) X G alnames llnames clnames klnames λ _ _ _ _ _ _ us hl => (by obtain ⟨_, _, rfl⟩ := us2 hl; rfl)
  obtain ⟨fdlparts, Alparts⟩ := defAt (ps := ["_law_script"]) X G alparts llparts clparts klparts λ _ _ _ _ _ _ us hl => (by obtain ⟨_, rfl⟩ := us1 hl; rfl)
  obtain ⟨fdlcols, Alcols⟩ := defAt (ps := ["_law_script"]) X G alcols llcols clcols klcols λ _ _ _ _ _ _ us hl => (by obtain ⟨_, rfl⟩ := us1 hl; rfl)
  obtain ⟨fdlrows, Alrows⟩ := defAt (ps := ["_law_parts_here"]) X G alrows llrows clrows klrows λ _ _ _ _ _ _ us hl => (by obtain ⟨_, rfl⟩ := us1 hl; rfl)
  obtain ⟨fdlplaces, Alplaces⟩ := defAt (ps := ["_law_parts_here", "_law_columns_here"]) X G alplaces llplaces clplaces klplaces λ _ _ _ _ _ _ us hl => (by obtain ⟨_, _, rfl⟩ := us2 hl; rfl)
  obtain ⟨fdlsums, Alsums⟩ := defAt (ps := ["_law_parts_here", "_law_columns_here"]) X G alsums llsums clsums klsums λ _ _ _ _ _ _ us hl => (by obtain ⟨_, _, rfl⟩ := us2 hl; rfl)
  obtain ⟨fdlgives, Algives⟩ := defAt (ps := ["_law_parts_here", "_law_columns_here", "_law_one"]) X G algives llgives clgives klgives λ _ _ _ _ _ _ us hl => (by obtain ⟨_, _, _, rfl⟩ := us3 hl; rfl)
  obtain ⟨fdlcounted, Alcounted⟩ := defAt (ps := ["_law_script", "_law_at", "_law_many"]) X G alcounted llcounted clcounted klcounted λ _ _ _ _ _ _ us hl => (by obtain ⟨_, _, _, rfl⟩ := us3 hl; rfl)
  obtain ⟨fdlfilled, Alfilled⟩ := defAt (ps := ["_law_parts_here", "_law_columns_here", "_law_counts"]) X G alfilled llfilled clfilled klfilled λ _ _ _ _ _ _ us hl => (by obtain ⟨_, _, _, rfl⟩ := us3 hl; rfl)
  obtain ⟨fdlsome, Alsome⟩ := defAt (ps := ["_law_script", "_law_sums_here"]) X G alsome llsome clsome klsome λ _ _ _ _ _ _ us hl => (by obtain ⟨_, _, rfl⟩ := us2 hl; rfl)
  obtain ⟨fdldue, Aldue⟩ := defAt (ps := ["_law_parts_here", "_law_columns_here", "_law_some_here"]) X G aldue lldue cldue kldue λ _ _ _ _ _ _ us hl => (by obtain ⟨_, _, _, rfl⟩ := us3 hl; rfl)
  have F0 := fun_mk (st := s_law) llaw claw klaw
  refine ⟨PySem.W.fnOf "law" "law" (defArgs s_law) (defBody s_law) (defScope s_law) .none kVlaw dclaw pmlaw anlaw cdlaw ctlaw, λ s v => .of_eq rfl, λ base _ _ => ?_⟩
  have hname := ok_name (P := l.prog) (w := w) (base := base) Aname T
  have hplain := ok_plain (P := l.prog) (w := w) (base := base) Aplain T
  have hcname := ok_cname (P := l.prog) (w := w) (base := base) Acname T hname hplain
  have hcabove := ok_cabove (P := l.prog) (w := w) (base := base) Acabove T hplain
  have hccols := ok_ccols (P := l.prog) (w := w) (base := base) Accols T hcname
  have hcparts := ok_cparts (P := l.prog) (w := w) (base := base) Acparts T hcname hcabove
  have hturned := ok_turned (P := l.prog) (w := w) (base := base) Aturned T
  have hinit := ok_init (P := l.prog) (w := w) (base := base) ⟨mk, ainit, iinit, kc⟩ Finit binit T hcparts hccols hturned
  have hmparts := ok_mparts (P := l.prog) (w := w) (base := base) ⟨amparts, imparts, kmparts⟩ Fmparts bmparts T
  have hmcols := ok_mcols (P := l.prog) (w := w) (base := base) ⟨amcols, imcols, kmcols⟩ Fmcols bmcols T
  have hmben := ok_mben (P := l.prog) (w := w) (base := base) ⟨amben, imben, kmben⟩ Fmben bmben T
  have hpaired := ok_paired (P := l.prog) (w := w) (base := base) Apaired T
  have hmplaces := ok_mplaces (P := l.prog) (w := w) (base := base) ⟨amplaces, implaces, kmplaces⟩ Fmplaces bmplaces T hpaired hmparts
  have hwhole := ok_whole (P := l.prog) (w := w) (base := base) Awhole T
  have hothers := ok_others (P := l.prog) (w := w) (base := base) Aothers T hmben hmcols
  have hsign := ok_sign (P := l.prog) (w := w) (base := base) Asign T
  have hgiven := ok_given (P := l.prog) (w := w) (base := base) Agiven T hsign hwhole hothers
  have hadded := ok_added (P := l.prog) (w := w) (base := base) Aadded T hgiven hmplaces
  have hcell := ok_cell (P := l.prog) (w := w) (base := base) Acell T
  have hlnames := ok_lnames (P := l.prog) (w := w) (base := base) Alnames T
  have hlparts := ok_lparts (P := l.prog) (w := w) (base := base) Alparts T hcell hlnames
  have hlcols := ok_lcols (P := l.prog) (w := w) (base := base) Alcols T hcell hlnames
  have hlrows := ok_lrows (P := l.prog) (w := w) (base := base) Alrows T
  have hlplaces := ok_lplaces (P := l.prog) (w := w) (base := base) Alplaces T
  have hlsums := ok_lsums (P := l.prog) (w := w) (base := base) Alsums T hlrows
  have hlgives := ok_lgives (P := l.prog) (w := w) (base := base) Algives T
  have hlcounted := ok_lcounted (P := l.prog) (w := w) (base := base) Alcounted T hcell
  have hlfilled := ok_lfilled (P := l.prog) (w := w) (base := base) Alfilled T hlplaces hlrows
  have hlsome := ok_lsome (P := l.prog) (w := w) (base := base) Alsome T hcell
  have hldue := ok_ldue (P := l.prog) (w := w) (base := base) Aldue T hlgives
  exact ok_law F0 T hlparts hlcols hinit hlplaces hlsums hlsome hadded hldue hlrows hlfilled hlcounted
theorem walk {l : PySem.W.OpenLaw} {q : Program} {loose : List Str} {XP : (Str -> Option Value) -> Heap -> Prop} {YP : World -> Heap -> Prop} {d : DefRec} {K : Params -> PySem.W.Frag} (hn : l.most = some 63) (hdf : d.params.defaults = [])
    (hY : ∀ (w : World) (h : Heap), YP w h -> (K w.params).In h)
    (F : ∀ (w : World) (mg : Str -> Option Value) (fa : Addr) (h : Heap), (K w.params).In h -> h.Ns mainGlobals mg -> mg d.name = some (.ref fa) →
      ∃ fd : FuncData, (∀ (s : Shared) (u : Value), BindsTo s fd ⟨[u], []⟩ [("_law_script", u)]) /\ ∀ base : Heap, (K w.params).In base -> base.Ns mainGlobals mg -> FnOk l.prog w (K w.params) mg base CX0 10 fa fd ["_law_script"] (spLaw (K w.params))) :
    PySem.W.WalkO q loose XP YP l.row.toRowW d [] (λ f vs => PySem.call f vs) :=
  L2.walk_of (n := 63) (k := 10) (x := "_law_script") (CX := λ _ => CX0) (sp := λ w => spLaw (K w.params)) hn (by decide) hdf ⟨rfl, by decide, by decide⟩ hY F (λ _ _ a ns hl _ hS => ⟨a, ns, rfl, hS, hl, λ _ => rfl⟩) λ _ _ _ _ _ z => z
theorem walkX {q : Program} {loose : List Str} {XP : (Str -> Option Value) -> Heap -> Prop} {α : Type} {Yf : Shared -> α} {Ya : World -> α} {r : PySem.W.RowW} {d : DefRec} {kwd : List (Str × Expr)} {run : Value -> List Value -> Sem Value} {K : Params -> PySem.W.Frag}
    (hY : ∀ (w : World) (s : Shared), Yf s = Ya w -> PySem.W.InK K w s.heap) (h : PySem.W.WalkO q loose XP (λ w h => (K w.params).In h) r d kwd run) : PySem.W.WalkX q loose XP Yf Ya r d kwd run :=
  λ w s₀ s₁ mg mb G y a o pm cd doc dV kV h1 h2 h3 h4 h5 h6 args vals as L => h w s₀ s₁ mg mb G (PySem.W.InK.keeps w s₀.heap s₁.heap (hY w s₀ y) L.keeps) a o pm cd doc dV kV h1 h2 h3 h4 h5 h6 args vals as
end P23
open PySem PySem.W PyProof.Rows
set_option maxRecDepth 100000 in
set_option maxHeartbeats 0 in
theorem PySem.Challenge.cw_tallyveil_k23_whole_sums_added_up_holds : PySem.Challenge.rw_tallyveil_k23_whole_sums_added_up.Holds := by
  w_on; o_law; z_head; (case hw => w_witness2)
  k_fill
  refine P23.walkX (λ w s y => (PySem.W.X.z_facts (λ P => by kernel_rfl) y).2.1) (P23.walk (l := PySem.Challenge.rw_tallyveil_k23_whole_sums_added_up) rfl rfl (λ w h Y => Y) ?F)
  case F =>
    intro w mg fa h KX G hmg
    refine' P23.all_mk KX G hmg ?aC ?aname ?lname ?cname ?kname ?aplain ?lplain ?cplain ?kplain ?acname ?lcname ?ccname ?kcname ?acabove ?lcabove ?ccabove ?kcabove ?accols ?lccols ?cccols ?kccols ?acparts ?lcparts ?ccparts ?kcparts ?aturned ?lturned ?cturned ?kturned ?ainit ?iinit ?linit ?cinit ?kinit ?amparts ?imparts ?lmparts ?cmparts ?kmparts ?amcols ?imcols ?lmcols ?cmcols ?kmcols ?amben ?imben ?lmben ?cmben ?kmben ?apaired ?lpaired ?cpaired ?kpaired ?amplaces ?implaces ?lmplaces ?cmplaces ?kmplaces ?awhole ?lwhole ?cwhole ?kwhole ?aothers ?lothers ?cothers ?kothers ?asign ?lsign ?csign ?ksign ?agiven ?lgiven ?cgiven ?kgiven ?aadded ?ladded ?cadded ?kadded ?acell ?lcell ?ccell ?kcell ?alnames ?llnames ?clnames ?klnames ?alparts ?llparts ?clparts ?klparts ?alcols ?llcols ?clcols ?klcols ?alrows ?llrows ?clrows ?klrows ?alplaces ?llplaces ?clplaces ?klplaces ?alsums ?llsums ?clsums ?klsums ?algives ?llgives ?clgives ?klgives ?alcounted ?llcounted ?clcounted ?klcounted ?alfilled ?llfilled ?clfilled ?klfilled ?alsome ?llsome ?clsome ?klsome ?aldue ?lldue ?cldue ?kldue ?alaw ?llaw ?claw ?klaw ?pg ?hd ?po ?sa ?mk ?kc ?f_above_of ?f_column_names ?f_beneath_of ?z_isinstance ?z_str ?z_list ?z_tuple ?z_len ?z_all ?z_range ?z_int ?z_reversed ?z_sum ?z_dict ?z_bool ?g_ALL ?g_DOWN
    (case aC => k_is); (case aname => k_is); (case lname => k_is); (case cname => k_is); (case kname => k_is); (case aplain => k_is)
    (case lplain => k_is); (case cplain => k_is); (case kplain => k_is); (case acname => k_is); (case lcname => k_is); (case ccname => k_is)
    (case kcname => k_is); (case acabove => k_is); (case lcabove => k_is); (case ccabove => k_is); (case kcabove => k_is); (case accols => k_is)
    (case lccols => k_is); (case cccols => k_is); (case kccols => k_is); (case acparts => k_is); (case lcparts => k_is); (case ccparts => k_is)
    (case kcparts => k_is); (case aturned => k_is); (case lturned => k_is); (case cturned => k_is); (case kturned => k_is); (case ainit => k_is)
    (case iinit => k_is); (case linit => k_is); (case cinit => k_is); (case kinit => k_is); (case amparts => k_is); (case imparts => k_is)
    (case lmparts => k_is); (case cmparts => k_is); (case kmparts => k_is); (case amcols => k_is); (case imcols => k_is); (case lmcols => k_is)
    (case cmcols => k_is); (case kmcols => k_is); (case amben => k_is); (case imben => k_is); (case lmben => k_is); (case cmben => k_is)
    (case kmben => k_is); (case apaired => k_is); (case lpaired => k_is); (case cpaired => k_is); (case kpaired => k_is); (case amplaces => k_is)
    (case implaces => k_is); (case lmplaces => k_is); (case cmplaces => k_is); (case kmplaces => k_is); (case awhole => k_is); (case lwhole => k_is)
    (case cwhole => k_is); (case kwhole => k_is); (case aothers => k_is); (case lothers => k_is); (case cothers => k_is); (case kothers => k_is)
    (case asign => k_is); (case lsign => k_is); (case csign => k_is); (case ksign => k_is); (case agiven => k_is); (case lgiven => k_is)
    (case cgiven => k_is); (case kgiven => k_is); (case aadded => k_is); (case ladded => k_is); (case cadded => k_is); (case kadded => k_is)
    (case acell => k_is); (case lcell => k_is); (case ccell => k_is); (case kcell => k_is); (case alnames => k_is); (case llnames => k_is)
    (case clnames => k_is); (case klnames => k_is); (case alparts => k_is); (case llparts => k_is); (case clparts => k_is); (case klparts => k_is)
    (case alcols => k_is); (case llcols => k_is); (case clcols => k_is); (case klcols => k_is); (case alrows => k_is); (case llrows => k_is)
    (case clrows => k_is); (case klrows => k_is); (case alplaces => k_is); (case llplaces => k_is); (case clplaces => k_is); (case klplaces => k_is)
    (case alsums => k_is); (case llsums => k_is); (case clsums => k_is); (case klsums => k_is); (case algives => k_is); (case llgives => k_is)
    (case clgives => k_is); (case klgives => k_is); (case alcounted => k_is); (case llcounted => k_is); (case clcounted => k_is); (case klcounted => k_is)
    (case alfilled => k_is); (case llfilled => k_is); (case clfilled => k_is); (case klfilled => k_is); (case alsome => k_is); (case llsome => k_is)
    (case clsome => k_is); (case klsome => k_is); (case aldue => k_is); (case lldue => k_is); (case cldue => k_is); (case kldue => k_is)
    (case alaw => k_is); (case llaw => k_is); (case claw => k_is); (case klaw => k_is); (case pg => k_is); (case hd => k_is)
    (case po => k_is); (case sa => k_is); (case mk => k_is); (case kc => k_is); (case f_above_of => k_is); (case f_column_names => k_is)
    (case f_beneath_of => k_is); (case z_isinstance => k_is); (case z_str => k_is); (case z_list => k_is); (case z_tuple => k_is); (case z_len => k_is)
    (case z_all => k_is); (case z_range => k_is); (case z_int => k_is); (case z_reversed => k_is); (case z_sum => k_is); (case z_dict => k_is)
    (case z_bool => k_is); (case g_ALL => k_is); (case g_DOWN => k_is)
