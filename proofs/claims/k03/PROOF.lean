import PyProof.Rows.All
import Wide.All
import OpenK.AllK
import Wide.FinOn
import Lean
import PyProof.EqAt
import PyProof.EqKinds
import PyProof.TupleCall
import PySem.Challenge.RW_tallyveil_k03_no_house
set_option Elab.async false
set_option linter.all false
set_option maxRecDepth 100000
/-! THE HAND LAYER, for ints, bools, texts, own classes, DICTS (int and text keys), calls, loops. Paste it whole ahead of your own text; what your proof does not reach may be deleted. -/
namespace L2
open PySem PySem.Spec PyProof.Rows

/-- a key: an int or a str -/
abbrev Key := Sum Int Str
def keyIs : Key → Value → Bool
  | .inl k, v => Value.isInt k v
  | .inr x, v => Value.isStrOf x v
def keyH (w : World) : Key → Int
  | .inl k => hashInt k
  | .inr x => hashStr w x
theorem keyIs_shape : ∀ {k : Key} {v : Value}, keyIs k v = true → (∃ i t, k = Sum.inl i ∧ v = Value.int i t) ∨ (∃ x t, k = Sum.inr x ∧ v = Value.str x t)
  | .inl i, v, h => by
    obtain ⟨t, e⟩ := Value.isInt_shape (k := i) (v := v) h
    exact .inl ⟨i, t, rfl, e⟩
  | .inr x, v, h => by
    obtain ⟨t, e⟩ := Value.isStrOf_shape (x := x) (v := v) h
    exact .inr ⟨x, t, rfl, e⟩
theorem keyIs_int (i : Int) (t : Tok) : keyIs (.inl i) (.int i t) = true := by simp [keyIs, Value.isInt]
theorem keyIs_str (x : Str) (t : Tok) : keyIs (.inr x) (.str x t) = true := by simp [keyIs, Value.isStrOf]
theorem key_ll (a b : Int) : decide ((Sum.inl a : Key) = Sum.inl b) = (a == b) := by
  by_cases e : a = b
  · subst e; simp
  · have h : ¬ (Sum.inl a : Key) = Sum.inl b := fun q => e (Sum.inl.inj q)
    rw [decide_eq_false h]
    exact (beq_eq_false_iff_ne.mpr e).symm
theorem key_rr (a b : Str) : decide ((Sum.inr a : Key) = Sum.inr b) = decide (a = b) := by
  by_cases e : a = b
  · subst e; simp
  · have h : ¬ (Sum.inr a : Key) = Sum.inr b := fun q => e (Sum.inr.inj q)
    rw [decide_eq_false h, decide_eq_false e]
theorem key_lr (a : Int) (b : Str) : decide ((Sum.inl a : Key) = Sum.inr b) = false := decide_eq_false (fun q => nomatch q)
theorem key_rl (a : Str) (b : Int) : decide ((Sum.inr a : Key) = Sum.inl b) = false := decide_eq_false (fun q => nomatch q)

def mixKind (prog : Program) (w : World) : PySem.KeyKind prog w Key where
  is := keyIs
  hash := keyH w
  inj := fun v a b ha hb => by
    rcases keyIs_shape ha with ⟨i, t, rfl, rfl⟩ | ⟨x, t, rfl, rfl⟩
    · rcases keyIs_shape hb with ⟨j, u, rfl, e⟩ | ⟨y, u, rfl, e⟩
      · injection e with e1 _; rw [e1]
      · exact nomatch e
    · rcases keyIs_shape hb with ⟨j, u, rfl, e⟩ | ⟨y, u, rfl, e⟩
      · exact nomatch e
      · injection e with e1 _; rw [e1]
  byValue := fun k v h => by
    rcases keyIs_shape h with ⟨i, t, rfl, rfl⟩ | ⟨x, t, rfl, rfl⟩ <;> rfl
  pyHash := fun hv h => by
    rcases keyIs_shape hv with ⟨i, t, rfl, rfl⟩ | ⟨x, t, rfl, rfl⟩
    · exact wpAny_pyHash_int h
    · exact wpAny_pyHash_str h
  eqBool := fun hu hv h => by
    rcases keyIs_shape hu with ⟨i, t, rfl, rfl⟩ | ⟨x, t, rfl, rfl⟩
    · rcases keyIs_shape hv with ⟨j, u, rfl, rfl⟩ | ⟨y, u, rfl, rfl⟩
      · rw [key_ll] at h; exact wpAny_eqBool_int h
      · rw [key_lr] at h; exact SeqAt.EqAt.int_str i t y u _ _ _ _ h
    · rcases keyIs_shape hv with ⟨j, u, rfl, rfl⟩ | ⟨y, u, rfl, rfl⟩
      · rw [key_rl] at h; exact SeqAt.EqAt.str_int x t j u _ _ _ _ h
      · rw [key_rr] at h; exact wpAny_eqBool_str h
  «strs» := fun k x t v h => by
    rcases keyIs_shape h with ⟨i, u, rfl, e⟩ | ⟨y, u, rfl, e⟩
    · exact nomatch e
    · injection e with e1 _
      subst e1
      cases v <;> rfl

theorem mixKind_int (prog : Program) (w : World) (i : Int) (t : Tok) : (mixKind prog w).is (.inl i) (.int i t) = true := keyIs_int i t
theorem mixKind_str (prog : Program) (w : World) (x : Str) (t : Tok) : (mixKind prog w).is (.inr x) (.str x t) = true := keyIs_str x t
end L2

namespace L2
open PySem PySem.Spec PyProof.Rows

/-- a value, without the heap -/
inductive V where
  | non | bl (b : Bool) | int (i : Int) | str (x : Str) | byt (b : Array UInt8) | flt (b : UInt64) | ref (a : Addr) | ty (n : String)
  deriving DecidableEq

def RelV : V → Value → Prop
  | .non, u => u = Value.none
  | .bl b, u => u = Value.bool b
  | .int i, u => ∃ t, u = Value.int i t
  | .str x, u => ∃ t, u = Value.str x t
  | .byt b, u => ∃ t, u = Value.bytes b t
  | .flt b, u => ∃ t, u = Value.float b t
  | .ref a, u => u = Value.ref a
  | .ty n, u => u = Value.type n

abbrev Vals : List V → List Value → Prop := Paired RelV
theorem Vals.length {xs : List V} {us : List Value} (r : Vals xs us) : xs.length = us.length := Paired.length r
theorem Vals.get : ∀ {xs : List V} {us : List Value} {i : Nat} {x : V}, Vals xs us → xs[i]? = some x → ∃ u, us[i]? = some u ∧ RelV x u
  | _, _, _, _, .nil, e => by simp at e
  | _, _, 0, _, .cons r _, e => by simp at e; subst e; exact ⟨_, rfl, r⟩
  | _, _, i + 1, x, .cons _ t, e => by
    obtain ⟨u, h1, h2⟩ := Vals.get (i := i) (x := x) t (by simpa using e)
    exact ⟨u, by simpa using h1, h2⟩
theorem Vals.set {x : V} {u : Value} (r : RelV x u) : ∀ {xs : List V} {us : List Value} (i : Nat), Vals xs us → Vals (xs.set i x) (us.set i u)
  | _, _, _, .nil => .nil
  | _, _, 0, .cons _ t => .cons r t
  | _, _, i + 1, .cons q t => .cons q (Vals.set r i t)
theorem Vals.append : ∀ {xs ys : List V} {us ws : List Value}, Vals xs us → Vals ys ws → Vals (xs ++ ys) (us ++ ws)
  | _, _, _, _, .nil, s => s
  | _, _, _, _, .cons r t, s => .cons r (Vals.append t s)
theorem Vals.take : ∀ {xs : List V} {us : List Value} (n : Nat), Vals xs us → Vals (xs.take n) (us.take n)
  | _, _, 0, _ => .nil
  | _, _, _ + 1, .nil => .nil
  | _, _, n + 1, .cons r t => .cons r (Vals.take n t)
theorem Vals.drop : ∀ {xs : List V} {us : List Value} (n : Nat), Vals xs us → Vals (xs.drop n) (us.drop n)
  | _, _, 0, r => r
  | _, _, _ + 1, .nil => .nil
  | _, _, n + 1, .cons _ t => Vals.drop n t
def RelO : Option V → Option Value → Prop
  | some v, some u => RelV v u
  | none, none => True
  | _, _ => False
def KV {κ : Type} : List (κ × V) → List (κ × Value) → Prop := Paired fun (p : κ × V) (q : κ × Value) => p.1 = q.1 ∧ RelV p.2 q.2

/-- a key of a dict (00_mix): an int or a text -/
def kV : Key → V
  | .inl i => .int i
  | .inr x => .str x

/-- what stands at a tracked address -/
inductive HO where
  /-- a list -/
  | lst (xs : List V)
  /-- a tuple (never changes) -/
  | tup (xs : List V)
  /-- a dict whose keys are ints and texts; one whose keys are tuples of ints and texts (the empty one is both) -/
  | dK (kvs : List (Key × V)) | dT (kvs : List (List Key × V))
  /-- a set of ints: its members, its size -/
  | set (S : Int → Bool) (n : Nat)
  /-- an instance of the class at C, its dict at dx, its attributes -/
  | ins (C dx : Addr) (fs : List (Str × V))
  /-- the dict of the instance at x -/
  | own (x : Addr)
  /-- the dict of an exception -/
  | xd (fs : List (Str × V))
  /-- a bound method, f of x -/
  | met (f x : Addr)
  /-- a range object lo, lo + 1, .. below hi -/
  | rng (lo hi : Int)
  /-- a thing that is known to the object (the script; a dict while a loop walks it): read, never written while it is so -/
  | frz (o : Obj) (u : HO)
  /-- a code object's table -/
  | tbl (ps : Array Value)
  /-- any other thing, by what is true of its one object (a def of one's own: SetO a S n := HO.ext fun h => ..) -/
  | ext (φ : Heap → Prop)

abbrev Hp := Addr → Option HO
def upd (H : Hp) (a : Addr) (o : HO) : Hp := fun b => if b = a then some o else H b
theorem upd_same {H : Hp} {a : Addr} {o : HO} : upd H a o a = some o := by unfold upd; rw [if_pos rfl]
theorem upd_ne {H : Hp} {a b : Addr} {o : HO} (h : b ≠ a) : upd H a o b = H b := by unfold upd; rw [if_neg h]
theorem upd_upd {H : Hp} {a : Addr} {o u : HO} : upd (upd H a o) a u = upd H a u := by
  funext b; unfold upd; split <;> rfl
/-- two objects of different content stand apart -/
theorem ne_of {H : Hp} {a b : Addr} {o u : HO} (h : H a = some o) (h' : H b = some u) (d : o ≠ u) : a ≠ b := by
  intro e; subst e; rw [h] at h'; exact d (Option.some.inj h')
theorem ne_of_none {H : Hp} {a b : Addr} {o : HO} (h : H a = some o) (h' : H b = none) : a ≠ b := by
  intro e; subst e; rw [h] at h'; cases h'

section
variable (P : Program) (w : World)
def ObjOk (H : Hp) (h : Heap) (a : Addr) : HO → Prop
  | .lst xs => xs.length ≤ sizeLine ∧ ∃ (its : List Value) (n : Nat), Vals xs its ∧ h.get? a = some { cls := .type "list", data := .seq its.toArray n }
  | .tup xs => xs.length ≤ sizeLine ∧ ∃ its : List Value, Vals xs its ∧ IsTup h a its.toArray
  | .dK kvs => kvs.length ≤ sizeLine ∧ (a == sysModules) = false ∧ ∃ vs, KV kvs vs ∧ h.DictOf (mixKind P w) a vs
  | .dT kvs => kvs.length ≤ sizeLine ∧ (a == sysModules) = false ∧ ∃ xs : List (List Key × Addr × Value),
      Paired (fun (p : List Key × V) (q : List Key × Addr × Value) => p.1 = q.1 ∧ H q.2.1 = some (.tup (p.1.map kV)) ∧ RelV p.2 q.2.2) kvs xs ∧
      ∃ o es ep, h.get? a = some o ∧ o.ExactDict ∧ o.data = .dict es ep ∧ es.toList = xs.map (entryOfKey (tupleKind (mixKind P w))) ∧ (xs.map (·.1)).Nodup
  | .set S n => h.SetOf (intKind P w) a S n
  | .ins C dx fs => H dx = some (.own a) ∧ fs.length ≤ 1000 ∧ dx ≠ a ∧ h.get? a = some (PySem.W.instObj C dx) ∧
      ∃ mA, h.Ns1 dx mA ∧ (∀ f, RelO (fs.lookup f) (mA f)) ∧ PySem.Within mA (fs.map (·.1))
  | .own _ => ∃ o, h.get? a = some o
  | .xd fs => ∃ mA, h.Ns1 a mA ∧ ∀ f, RelO (fs.lookup f) (mA f)
  | .rng lo hi => ∃ t u v, h.get? a = some { cls := .type "range", data := .fields #[.int lo t, .int hi u, .int 1 v] }
  | .frz o u => h.get? a = some o ∧ ObjOk H h a u
  | .tbl ps => h.get? a = some { cls := .none, data := .fields ps }
  | .met f x => h.get? a = some (PySem.W.methodObj (.ref f) (.ref x))
  | .ext φ => φ h ∧ (∃ o, h.get? a = some o) ∧ ∀ h1 h2 : Heap, φ h1 → (∀ o, h1.get? a = some o → h2.get? a = some o) → φ h2
/-- the abstract heap is held -/
def HOk (H : Hp) (h : Heap) : Prop := ∀ a o, H a = some o → ObjOk P w H h a o
end

section
variable {P : Program} {w : World} {H H' : Hp} {h h' : Heap} {a : Addr} {o : HO}
theorem ObjOk.lt (x : ObjOk P w H h a o) : a < h.objs.size := by
  cases o with
  | lst xs => obtain ⟨_, _, _, _, e⟩ := x; exact Heap.lt_size e
  | tup xs => obtain ⟨_, _, _, p⟩ := x; exact p.lt
  | dK kvs => obtain ⟨_, _, _, _, o, _, _, e, _⟩ := x; exact Heap.lt_size e
  | dT kvs => obtain ⟨_, _, _, _, o, _, _, e, _⟩ := x; exact Heap.lt_size e
  | set S n => obtain ⟨o, _, _, _, e, _⟩ := x; exact Heap.lt_size e
  | ins C dx fs => obtain ⟨_, _, _, e, _⟩ := x; exact Heap.lt_size e
  | own y => obtain ⟨_, e⟩ := x; exact Heap.lt_size e
  | xd fs => obtain ⟨_, ⟨_, _, _, e, _⟩, _⟩ := x; exact Heap.lt_size e
  | rng lo hi => obtain ⟨_, _, _, e⟩ := x; exact Heap.lt_size e
  | frz ob u => obtain ⟨e, _⟩ := x; exact Heap.lt_size e
  | tbl ps => exact Heap.lt_size (show h.get? a = some _ from x)
  | met f y => exact Heap.lt_size (show h.get? a = some _ from x)
  | ext φ => obtain ⟨_, ⟨_, e⟩, _⟩ := x; exact Heap.lt_size e
theorem Paired.mapP {α β : Type} {F G : α → β → Prop} : ∀ {l₁ : List α} {l₂ : List β}, Paired F l₁ l₂ → (∀ a b, F a b → G a b) → Paired G l₁ l₂
  | _, _, .nil, _ => .nil
  | _, _, .cons r t, f => .cons (f _ _ r) (Paired.mapP t f)
/-- what an object's description leans on: its own object, its own dict, the tuples -/
theorem ObjOk.stay (x : ObjOk P w H h a o) (k : ∀ b u, (b = a ∨ H b = some (.own a)) → h.get? b = some u → h'.get? b = some u)
    (ho : ∀ b, H b = some (.own a) → H' b = some (.own a)) (ht : ∀ b xs, H b = some (.tup xs) → H' b = some (.tup xs)) : ObjOk P w H' h' a o := by
  induction o with
  | lst xs => obtain ⟨z, its, n, r, e⟩ := x; exact ⟨z, its, n, r, k _ _ (.inl rfl) e⟩
  | tup xs => obtain ⟨z, its, r, ob, e, c⟩ := x; exact ⟨z, its, r, ob, k _ _ (.inl rfl) e, c⟩
  | dK kvs => obtain ⟨z, y, vs, r, ob, es, ep, e, c⟩ := x; exact ⟨z, y, vs, r, ob, es, ep, k _ _ (.inl rfl) e, c⟩
  | dT kvs =>
    obtain ⟨z, y, xs, r, ob, es, ep, e, c⟩ := x
    exact ⟨z, y, xs, Paired.mapP r fun p q z => ⟨z.1, ht _ _ z.2.1, z.2.2⟩, ob, es, ep, k _ _ (.inl rfl) e, c⟩
  | set S n => obtain ⟨ob, es, ep, t, e, c⟩ := x; exact ⟨ob, es, ep, t, k _ _ (.inl rfl) e, c⟩
  | ins C dx fs =>
    obtain ⟨d, z, ne, e, mA, ⟨od, es, ep, e2, c⟩, r⟩ := x
    exact ⟨ho _ d, z, ne, k _ _ (.inl rfl) e, mA, ⟨od, es, ep, k _ _ (.inr d) e2, c⟩, r⟩
  | own y => obtain ⟨ob, e⟩ := x; exact ⟨ob, k _ _ (.inl rfl) e⟩
  | xd fs => obtain ⟨mA, ⟨od, es, ep, e, c⟩, r⟩ := x; exact ⟨mA, ⟨od, es, ep, k _ _ (.inl rfl) e, c⟩, r⟩
  | rng lo hi => obtain ⟨t, u, v, e⟩ := x; exact ⟨t, u, v, k _ _ (.inl rfl) e⟩
  | frz ob u ih => obtain ⟨e, q⟩ := x; exact ⟨k _ _ (.inl rfl) e, ih q⟩
  | tbl ps =>
    have e : h.get? a = some { cls := .none, data := .fields ps } := x
    show h'.get? a = some { cls := .none, data := .fields ps }
    exact k a _ (.inl rfl) e
  | met f y =>
    have e : h.get? a = some (PySem.W.methodObj (.ref f) (.ref y)) := x
    show h'.get? a = some (PySem.W.methodObj (.ref f) (.ref y))
    exact k a _ (.inl rfl) e
  | ext φ => obtain ⟨p, ⟨o, e⟩, st⟩ := x; exact ⟨st _ _ p fun o q => k _ _ (.inl rfl) q, ⟨o, k _ _ (.inl rfl) e⟩, st⟩
theorem HOk.lt (x : HOk P w H h) (e : H a = some o) : a < h.objs.size := (x a o e).lt
theorem HOk.fresh (x : HOk P w H h) (e : h.objs.size ≤ a) : H a = none := by
  cases q : H a with
  | none => rfl
  | some u => exact absurd (Nat.lt_of_lt_of_le (x.lt q) e) (Nat.lt_irrefl _)
/-- every object of the heap is kept -/
theorem HOk.kept (x : HOk P w H h) (k : ∀ b u, h.get? b = some u → h'.get? b = some u) : HOk P w H h' := fun a o e =>
  (x a o e).stay (fun b u _ q => k b u q) (fun _ q => q) fun _ _ q => q
/-- a new object is laid and tracked -/
theorem HOk.laid (x : HOk P w H h) (k : ∀ b u, h.get? b = some u → h'.get? b = some u) (hp : h.objs.size ≤ a) (new : ObjOk P w (upd H a o) h' a o) : HOk P w (upd H a o) h' := fun b u e => by
  have hn := x.fresh hp
  by_cases hb : b = a
  · subst hb; rw [upd_same] at e; cases e; exact new
  · rw [upd_ne hb] at e
    exact (x b u e).stay (fun c v _ q => k c v q) (fun c q => by rw [upd_ne (ne_of_none q hn)]; exact q) fun c xs q => by rw [upd_ne (ne_of_none q hn)]; exact q
end

/-- what may be read as u: it is u, or a known u -/
def Rd (H : Hp) (a : Addr) (u : HO) : Prop := H a = some u ∨ ∃ o, H a = some (.frz o u)
theorem Rd.ok {P : Program} {w : World} {H : Hp} {h : Heap} {a : Addr} {u : HO} (r : Rd H a u) (x : HOk P w H h) : ObjOk P w H h a u := by
  rcases r with r | ⟨o, r⟩
  · exact x a u r
  · obtain ⟨_, q⟩ := x a _ r
    exact q
/-- what may be written -/
def Mut : Option HO → Prop
  | some (.lst _) => True
  | some (.dK _) => True
  | some (.dT _) => True
  | some (.set _ _) => True
  | some (.ins _ _ _) => True
  | some (.ext _) => True
  | _ => False
section
variable {P : Program} {w : World} {H : Hp} {h h' : Heap} {x e : Addr} {o' : HO}
/-- the object at e is changed: x itself, or the dict of the instance x -/
theorem HOk.write (ok : HOk P w H h) (mu : Mut (H x)) (he : e = x ∨ H e = some (.own x)) (k : ∀ b u, b ≠ e → h.get? b = some u → h'.get? b = some u) (heo : ∃ u, h'.get? e = some u)
    (new : ObjOk P w (upd H x o') h' x o') : HOk P w (upd H x o') h' := fun b u q => by
  have nown : ∀ c y, H c = some (.own y) → c ≠ x := fun c y r z => by subst z; rw [r] at mu; exact mu
  have ntup : ∀ c xs, H c = some (.tup xs) → c ≠ x := fun c xs r z => by subst z; rw [r] at mu; exact mu
  by_cases hb : b = x
  · subst hb; rw [upd_same] at q; cases q; exact new
  · rw [upd_ne hb] at q
    by_cases hbe : b = e
    · have q' : H b = some (.own x) := by
        rcases he with z | z
        · exact absurd (hbe.trans z) hb
        · rw [hbe]; exact z
      rw [q] at q'; cases q'
      obtain ⟨v, hv⟩ := heo
      exact ⟨v, by rw [hbe]; exact hv⟩
    · refine (ok b u q).stay (fun c v hc r => k c v ?_ r) (fun c r => by rw [upd_ne (nown c b r)]; exact r) fun c xs r => by rw [upd_ne (ntup c xs r)]; exact r
      rcases hc with rfl | hc
      · exact hbe
      · rintro rfl
        rcases he with z | z
        · exact nown c b hc z
        · rw [hc] at z; cases z; exact hb rfl
end

/-! ### kept unless tracked; of the frames at fs (the callers') the slots may change (an exception that passes writes there); of the records at ex (iterators) nothing is said -/
structure Un (fs ex : List Addr) (H H' : Hp) (h h' : Heap) : Prop where
  keep : ∀ b o, h.get? b = some o → H b = none → b ∉ fs → b ∉ ex → h'.get? b = some o
  slot : ∀ b o, h.get? b = some o → H b = none → b ∈ fs → b ∉ ex → ∃ sl, h'.get? b = some { o with slots := sl }
  free : ∀ b o, h.get? b = some o → H b = none → b ∉ ex → H' b = none
  there : ∀ b o, h.get? b = some o → b ∉ ex → ∃ o', h'.get? b = some o'
  tups : ∀ b xs, H b = some (.tup xs) → H' b = some (.tup xs)
  frzs : ∀ b o u, H b = some (.frz o u) → H' b = some (.frz o u)
  tbls : ∀ b ps, H b = some (.tbl ps) → ∃ more, H' b = some (.tbl (ps ++ more))
section
variable {fs fs' ex ex' : List Addr} {H H1 H2 : Hp} {h h1 h2 h' : Heap} {a x e : Addr} {o : HO}
theorem Un.any (u : Un fs ex H H1 h h1) {b : Addr} {ob : Obj} (q : h.get? b = some ob) (n : H b = none) (hx : b ∉ ex) : ∃ sl, h1.get? b = some { ob with slots := sl } := by
  by_cases hb : b ∈ fs
  · exact u.slot b ob q n hb hx
  · exact ⟨ob.slots, u.keep b ob q n hb hx⟩
theorem Un.kept (k : ∀ b u, h.get? b = some u → h'.get? b = some u) : Un fs ex H H h h' :=
  ⟨fun b ob q _ _ _ => k b ob q, fun b ob q _ _ _ => ⟨ob.slots, k b ob q⟩, fun _ _ _ n _ => n, fun b ob q _ => ⟨ob, k b ob q⟩, fun _ _ q => q, fun _ _ _ q => q, fun _ ps q => ⟨#[], by rw [q]; simp⟩⟩
theorem Un.refl : Un fs ex H H h h := Un.kept fun _ _ q => q
theorem Un.laid (k : ∀ b u, h.get? b = some u → h'.get? b = some u) (hp : h.objs.size ≤ a) (hn : H a = none) : Un fs ex H (upd H a o) h h' where
  keep := fun b u q _ _ _ => k b u q
  slot := fun b u q _ _ _ => ⟨u.slots, k b u q⟩
  free := fun b u q n _ => by rw [upd_ne (Nat.ne_of_lt (Nat.lt_of_lt_of_le (Heap.lt_size q) hp))]; exact n
  there := fun b u q _ => ⟨u, k b u q⟩
  tups := fun b xs q => by rw [upd_ne (ne_of_none q hn)]; exact q
  frzs := fun b u xs q => by rw [upd_ne (ne_of_none q hn)]; exact q
  tbls := fun b ps q => ⟨#[], by rw [upd_ne (ne_of_none q hn), q]; simp⟩
theorem Un.write (mu : Mut (H x)) (he : e = x ∨ H e = some (.own x)) (k : ∀ b u, b ≠ e → h.get? b = some u → h'.get? b = some u) (heo : ∃ u, h'.get? e = some u) : Un fs ex H (upd H x o) h h' := by
  have hx : ∀ b, H b = none → b ≠ x := fun b n z => by subst z; rw [n] at mu; exact mu
  have hb : ∀ b, H b = none → b ≠ e := fun b n z => by
    subst z
    rcases he with r | r
    · exact hx b n r
    · rw [n] at r; cases r
  have hm : ∀ b u, H b = some u → ¬ Mut (some u) → b ≠ x := fun b u q nm z => by subst z; rw [q] at mu; exact nm mu
  refine ⟨fun b u q n _ _ => k b u (hb b n) q, fun b u q n _ _ => ⟨u.slots, k b u (hb b n) q⟩, fun b u q n _ => by rw [upd_ne (hx b n)]; exact n, fun b u q _ => ?_,
    fun b xs q => by rw [upd_ne (hm b _ q fun z => z)]; exact q, fun b u xs q => by rw [upd_ne (hm b _ q fun z => z)]; exact q, fun b ps q => ⟨#[], by rw [upd_ne (hm b _ q fun z => z), q]; simp⟩⟩
  by_cases hbe : b = e
  · subst hbe; exact heo
  · exact ⟨u, k b u hbe q⟩
end

/-! ### the heap without what is tracked -/
def trk (h : Heap) (H : Hp) : List Addr := (List.range h.objs.size).filter fun a => (H a).isSome
def hidT (h : Heap) (H : Hp) : Heap := PySem.W.hideAll h (trk h H)
theorem hidT_size (h : Heap) (H : Hp) : (hidT h H).objs.size = h.objs.size := PySem.W.hideAll_size _ _
theorem hidT_get {h : Heap} {H : Hp} {b : Addr} {o : Obj} (e : h.get? b = some o) (n : H b = none) : (hidT h H).get? b = some o :=
  PySem.W.hideAll_get _ e fun hm => by
    have q : (H b).isSome = true := (List.mem_filter.mp hm).2
    rw [n] at q; simp at q
theorem of_hidT {h : Heap} {H : Hp} {b : Addr} {o : Obj} (e : (hidT h H).get? b = some o) : h.get? b = some o ∧ H b = none := by
  have e' : h.get? b = some o := PySem.W.of_hideAll (trk h H) e
  refine ⟨e', ?_⟩
  cases q : H b with
  | none => rfl
  | some x =>
    have hm : b ∈ trk h H := List.mem_filter.mpr ⟨List.mem_range.mpr (Heap.lt_size e'), by simp [q]⟩
    have z : (hidT h H).get? b = none := PySem.W.hideAll_none (trk h H) hm
    rw [z] at e; cases e

/-! ### OpenK's ledger, filled with every new object but one -/
end L2

namespace L2
open PySem PySem.Spec PyProof.Rows

/-- the module's facts, over the base: the heap at the law's entry without what is tracked there -/
structure Mod (K : PySem.W.Frag) (mg : Str → Option Value) (base : Heap) : Prop where
  kin : K.In base
  glob : base.Ns mainGlobals mg
  blt : ∃ mb, base.Ns builtinsNs mb ∧ ∀ x : Str, x ≠ "__name__" → mb x = bootBuiltins x
  nolimit : base.NoLimit

/-- the context: a def's body (or a comprehension's block) running. base: fixed through the whole law; s₀, H₀: the entry; outer: the frames whose slots others may change (a def's callers); stack: all frames that run;
   ex: iterators that were made ahead of the entry and are walked here (a comprehension's); fn: the names whose cells were made at the entry (a def: all; a comprehension's block: its own); calm: not within an except suite; pn: pins that every state bears; xe: what is wanted of an exception that leaves the code -/
structure Cx where
  prog : Program
  w : World
  K : PySem.W.Frag
  mg : Str → Option Value
  base : Heap
  A : Around
  N : List Str
  s₀ : Shared
  H₀ : Hp
  env : Env
  outer : List Env
  stack : List Env
  ex : List Addr
  fn : Str → Bool
  calm : Bool
  pn : List (Addr × Obj)
  xe : Value → Shared → Prop
/-- the callers' frames -/
def frs (l : List Env) : List Addr := l.filterMap (·.frame)
abbrev Cx.fs (X : Cx) : List Addr := frs X.outer

def Vis (sc : Scope) (x : Str) : Prop := sc.names.lookup x = some .local ∨ sc.names.lookup x = some .cell ∨ sc.names.lookup x = some .free
def Loc (sc : Scope) (x : Str) : Prop := sc.names.lookup x = some .local ∨ sc.names.lookup x = some .cell
def Look (env : Env) (h : Heap) (m : Str → Option Value) (x : Str) (u : Value) : Prop :=
  (env.kindOf x = some .local ∧ m x = some u) ∨ ((env.kindOf x = some .cell ∨ env.kindOf x = some .free) ∧ ∃ c, env.cells.lookup x = some c ∧ h.IsCell c (some u))

structure Cx.Ok (X : Cx) : Prop where
  mod : Mod X.K X.mg X.base
  kind : X.env.scope.kind = .function
  glob : X.env.globals = mainGlobals
  blt : X.env.builtins = builtinsNs
  above : X.s₀.heap.objs.size ≤ X.env.locals
  inj : ∀ x y c, X.env.cells.lookup x = some c → X.env.cells.lookup y = some c → x = y
  has : ∀ x, (X.env.kindOf x = some .cell ∨ X.env.kindOf x = some .free) → ∃ c, X.env.cells.lookup x = some c
  cab : ∀ x c, X.fn x = true → X.env.cells.lookup x = some c → X.s₀.heap.objs.size ≤ c
  hd : X.calm = true → X.A.handled = none
  frames : X.A.frames = some X.stack
  stk : X.stack = X.outer ∨ (X.stack = X.env :: X.outer ∧ X.env.frame = some X.env.locals)
  exf : ∀ b ∈ X.ex, b ≠ X.env.locals ∧ ∀ x c, X.env.cells.lookup x = some c → c ≠ b
  bs : ∀ b o, X.base.get? b = some o → X.s₀.heap.get? b = some o ∧ X.H₀ b = none
  bsz : X.base.objs.size ≤ X.s₀.heap.objs.size
  noex : ∀ b o, X.base.get? b = some o → b ∉ X.ex
  exfs : ∀ b ∈ X.ex, b ∉ X.fs
  funs : X.s₀.heap.FunFrames X.base X.outer
  frf : ∀ b ∈ X.fs, X.H₀ b = none

structure Inv (X : Cx) (pins : List (Addr × Obj)) (σ : List (Option V)) (H : Hp) (s : Shared) : Prop where
  ok : X.Ok
  os : s.os = X.s₀.os
  bare : AllBare s.gens
  base : Un X.fs X.ex X.H₀ H X.s₀.heap s.heap
  loc : ∃ m, s.heap.Ns X.env.locals m ∧ ∀ (i : Nat) (x : Str) (v : V), X.N[i]? = some x → σ[i]? = some (some v) → Vis X.env.scope x → ∃ u, RelV v u ∧ Look X.env s.heap m x u
  cell : ∀ x c, X.env.cells.lookup x = some c → ∃ v, s.heap.IsCell c v
  free : H X.env.locals = none
  freeC : ∀ x c, X.env.cells.lookup x = some c → H c = none
  pin : ∀ p ∈ X.pn ++ pins, s.heap.get? p.1 = some p.2 ∧ H p.1 = none ∧ p.1 ≠ X.env.locals ∧ p.1 ∉ X.fs ∧ ∀ v, p.2.data ≠ .cell v
  hok : HOk X.prog X.w H s.heap
  len : σ.length = X.N.length

section
variable {X : Cx} {pins : List (Addr × Obj)} {σ : List (Option V)} {H H' : Hp} {s : Shared} {h' : Heap}

theorem Cx.Ok.nofr (ok : X.Ok) {b : Addr} {o : Obj} (e : X.base.get? b = some o) : b ∉ X.fs := fun hb => by
  have := (ok.funs.mem hb).1
  rw [e] at this; cases this
theorem Inv.bs (I : Inv X pins σ H s) : ∀ b o, X.base.get? b = some o → s.heap.get? b = some o ∧ H b = none := fun b o e =>
  ⟨I.base.keep b o (I.ok.bs b o e).1 (I.ok.bs b o e).2 (I.ok.nofr e) (I.ok.noex b o e), I.base.free b o (I.ok.bs b o e).1 (I.ok.bs b o e).2 (I.ok.noex b o e)⟩
theorem Inv.bk (I : Inv X pins σ H s) : ∀ b o, X.base.get? b = some o → s.heap.get? b = some o := fun b o e => (I.bs b o e).1
theorem Inv.mod (I : Inv X pins σ H s) : Mod X.K X.mg X.base := I.ok.mod
theorem Inv.kIn (I : Inv X pins σ H s) : X.K.In s.heap := I.ok.mod.kin.keeps I.bk
theorem Inv.lt (I : Inv X pins σ H s) : X.env.locals < s.heap.objs.size := let ⟨_, hn, _⟩ := I.loc; hn.lt
theorem Inv.sz (I : Inv X pins σ H s) : X.s₀.heap.objs.size ≤ s.heap.objs.size := Nat.le_trans I.ok.above (Nat.le_of_lt I.lt)
theorem Inv.nofs (I : Inv X pins σ H s) {a : Addr} (h : s.heap.objs.size ≤ a) : a ∉ X.fs := fun hb => by
  obtain ⟨_, o, ho, _⟩ := I.ok.funs.mem hb
  exact absurd (Nat.lt_of_lt_of_le (Heap.lt_size ho) (Nat.le_trans I.sz h)) (Nat.lt_irrefl _)
theorem Inv.cne (I : Inv X pins σ H s) : ∀ x c, X.env.cells.lookup x = some c → c ≠ X.env.locals := fun x c e z => by
  obtain ⟨v, o, ho, hd⟩ := I.cell x c e
  obtain ⟨m, ⟨o', es, ep, ho', hd', _⟩, _⟩ := I.loc
  rw [z, ho'] at ho; cases ho; rw [hd'] at hd; cases hd
theorem Inv.funs (I : Inv X pins σ H s) : s.heap.FunFrames X.base X.outer := by
  have all : ∀ (l : List Env), (∀ b ∈ frs l, b ∈ X.fs) → X.s₀.heap.FunFrames X.base l → s.heap.FunFrames X.base l := by
    intro l
    induction l with
    | nil => intro _ _; trivial
    | cons env r ih =>
      intro hs hl
      obtain ⟨hk, ⟨L, o, hf, hn, ho, hd⟩, hr⟩ := hl
      have hL : L ∈ X.fs := hs L (by unfold frs; rw [List.filterMap_cons, hf]; exact List.mem_cons_self)
      obtain ⟨sl, e⟩ := I.base.slot L o ho (I.ok.frf L hL) hL fun z => I.ok.exfs L z hL
      exact ⟨hk, ⟨L, _, hf, hn, e, hd⟩, ih (fun b hb => hs b (by unfold frs; rw [List.filterMap_cons, hf]; exact List.mem_cons_of_mem _ hb)) hr⟩
  exact all X.outer (fun _ hb => hb) I.ok.funs

/-- the frames that run, for a call -/
theorem Inv.stack (I : Inv X pins σ H s) : s.heap.FunFrames X.base X.stack := by
  rcases I.ok.stk with e | ⟨e, hf⟩
  · rw [e]; exact I.funs
  · rw [e]
    obtain ⟨m, hn, _⟩ := I.loc
    refine .cons (by rw [I.ok.kind]; decide) hf hn ?_ I.funs
    exact Heap.get?_none_of_le (Nat.le_trans I.ok.bsz I.ok.above)
theorem Inv.stkSub (I : Inv X pins σ H s) : ∀ b ∈ frs X.stack, b ∈ X.env.locals :: X.fs := fun b hb => by
  rcases I.ok.stk with e | ⟨e, hf⟩
  · rw [e] at hb; exact List.mem_cons_of_mem _ hb
  · rw [e] at hb
    unfold frs at hb
    rw [List.filterMap_cons, hf] at hb
    exact hb
theorem Inv.stkFree (I : Inv X pins σ H s) : ∀ b ∈ frs X.stack, H b = none := fun b hb => by
  rcases List.mem_cons.mp (I.stkSub b hb) with e | hb
  · rw [e]; exact I.free
  · obtain ⟨_, o, ho, _⟩ := I.ok.funs.mem hb
    exact I.base.free b o ho (I.ok.frf b hb) fun z => I.ok.exfs b z hb

/-- THE STEP: the untracked objects but the frame and the records at ch are kept (the callers' frames up to slots), the frame's map is kept, the new abstract heap is held -/
theorem Inv.step {g' : Array GenState} {t' : Nat} {d' : Drawn} {ch : List Addr} (I : Inv X pins σ H s)
    (hch : ∀ b ∈ ch, (b ∈ X.ex ∨ X.s₀.heap.objs.size ≤ b) ∧ b ≠ X.env.locals ∧ (∀ x c, X.env.cells.lookup x = some c → c ≠ b) ∧ ∀ p ∈ X.pn ++ pins, p.1 ≠ b)
    (keep : ∀ b o, b ≠ X.env.locals → b ∉ X.fs → b ∉ ch → s.heap.get? b = some o → H b = none → h'.get? b = some o)
    (slot : ∀ b o, b ≠ X.env.locals → b ∈ X.fs → b ∉ ch → s.heap.get? b = some o → H b = none → ∃ sl, h'.get? b = some { o with slots := sl }) (free : ∀ b o, b ∉ ch → s.heap.get? b = some o → H b = none → H' b = none)
    (there : ∀ b o, b ∉ ch → s.heap.get? b = some o → ∃ o', h'.get? b = some o')
    (tups : ∀ b xs, H b = some (.tup xs) → H' b = some (.tup xs)) (frzs : ∀ b o u, H b = some (.frz o u) → H' b = some (.frz o u)) (tbls : ∀ b ps, H b = some (.tbl ps) → ∃ more, H' b = some (.tbl (ps ++ more)))
    (ns : ∀ m, s.heap.Ns X.env.locals m → h'.Ns X.env.locals m) (hok : HOk X.prog X.w H' h') (hg : AllBare g') :
    Inv X pins σ H' { s with heap := h', gens := g', drawn := d', toks := t' } := by
  have neL : ∀ b o, X.s₀.heap.get? b = some o → b ≠ X.env.locals := fun b o e => Nat.ne_of_lt (Nat.lt_of_lt_of_le (Heap.lt_size e) I.ok.above)
  have neC : ∀ b o, X.s₀.heap.get? b = some o → b ∉ X.ex → b ∉ ch := fun b o e hx hb => by
    rcases (hch b hb).1 with z | z
    · exact hx z
    · exact absurd (Nat.lt_of_lt_of_le (Heap.lt_size e) z) (Nat.lt_irrefl _)
  have cellK : ∀ x c, X.env.cells.lookup x = some c → ∀ v, s.heap.IsCell c v → h'.IsCell c v := fun x c e v ⟨o, ho, hd⟩ => by
    have nch : c ∉ ch := fun z => (hch c z).2.2.1 x c e rfl
    by_cases hc : c ∈ X.fs
    · obtain ⟨sl, q⟩ := slot c o (I.cne x c e) hc nch ho (I.freeC x c e)
      exact ⟨_, q, hd⟩
    · exact ⟨o, keep c o (I.cne x c e) hc nch ho (I.freeC x c e), hd⟩
  refine ⟨I.ok, I.os, hg, ⟨fun b o e n hb hx => ?_, fun b o e n hb hx => ?_, fun b o e n hx => ?_, fun b o e hx => ?_, fun b xs e => tups b xs (I.base.tups b xs e), fun b o xs e => frzs b o xs (I.base.frzs b o xs e), fun b ps e => ?_⟩, ?_, fun x c e => ?_, ?_, fun x c e => ?_, fun p hp => ?_, hok, I.len⟩
  · exact keep b o (neL b o e) hb (neC b o e hx) (I.base.keep b o e n hb hx) (I.base.free b o e n hx)
  · obtain ⟨sl, e1⟩ := I.base.slot b o e n hb hx
    obtain ⟨sl', e2⟩ := slot b _ (neL b o e) hb (neC b o e hx) e1 (I.base.free b o e n hx)
    exact ⟨sl', e2⟩
  · obtain ⟨o', e1⟩ := I.base.there b o e hx
    exact free b o' (neC b o e hx) e1 (I.base.free b o e n hx)
  · obtain ⟨o', e1⟩ := I.base.there b o e hx
    exact there b o' (neC b o e hx) e1
  · obtain ⟨m1, e1⟩ := I.base.tbls b ps e
    obtain ⟨m2, e2⟩ := tbls b _ e1
    exact ⟨m1 ++ m2, by rw [e2, Array.append_assoc]⟩
  · obtain ⟨m, hn, hl⟩ := I.loc
    refine ⟨m, ns m hn, fun i x v e1 e2 e3 => ?_⟩
    obtain ⟨u, r, l⟩ := hl i x v e1 e2 e3
    refine ⟨u, r, ?_⟩
    rcases l with l | ⟨k, c, e, z⟩
    · exact .inl l
    · exact .inr ⟨k, c, e, cellK x c e _ z⟩
  · obtain ⟨v, z⟩ := I.cell x c e
    exact ⟨v, cellK x c e v z⟩
  · obtain ⟨m, ⟨o, _, _, ho, _⟩, _⟩ := I.loc
    exact free _ o (fun z => (hch _ z).2.1 rfl) ho I.free
  · obtain ⟨v, o, ho, hd⟩ := I.cell x c e
    exact free c o (fun z => (hch c z).2.2.1 x c e rfl) ho (I.freeC x c e)
  · obtain ⟨e, n, ne, nf, d⟩ := I.pin p hp
    have nch : p.1 ∉ ch := fun z => (hch p.1 z).2.2.2 p hp rfl
    exact ⟨keep p.1 p.2 ne nf nch e n, free p.1 p.2 nch e n, ne, nf, d⟩
/-- .. where the frame's own object is kept too -/
theorem Inv.un {t' : Nat} (I : Inv X pins σ H s) (u : Un X.fs [] H H' s.heap h') (hok : HOk X.prog X.w H' h') : Inv X pins σ H' { s with heap := h', toks := t' } := by
  obtain ⟨m, ⟨o, es, ep, ho, r⟩, _⟩ := id I.loc
  obtain ⟨sl, hL⟩ := u.any ho I.free (by simp)
  exact I.step (g' := s.gens) (d' := s.drawn) (ch := []) (fun _ z => nomatch z) (fun b o _ hb _ e n => u.keep b o e n hb (by simp)) (fun b o _ hb _ e n => u.slot b o e n hb (by simp)) (fun b o _ e n => u.free b o e n (by simp)) (fun b o _ e => u.there b o e (by simp)) u.tups u.frzs u.tbls (fun m' hm => by
    obtain ⟨o', es', ep', ho', r'⟩ := hm
    rw [ho] at ho'; cases ho'
    exact ⟨_, es', ep', hL, r'⟩) hok I.bare
/-- behind a call (or a comprehension's block): the slots of this frame may have changed too, the records at ch may have turned -/
theorem Inv.call {g' : Array GenState} {t' : Nat} {d' : Drawn} {ch : List Addr} (I : Inv X pins σ H s) (u : Un (frs X.stack) ch H H' s.heap h') (hok : HOk X.prog X.w H' h') (hg : AllBare g')
    (hch : ∀ b ∈ ch, (b ∈ X.ex ∨ X.s₀.heap.objs.size ≤ b) ∧ b ≠ X.env.locals ∧ (∀ x c, X.env.cells.lookup x = some c → c ≠ b) ∧ ∀ p ∈ X.pn ++ pins, p.1 ≠ b) :
    Inv X pins σ H' { s with heap := h', gens := g', drawn := d', toks := t' } := by
  obtain ⟨m, ⟨o, es, ep, ho, r⟩, _⟩ := id I.loc
  obtain ⟨sl, hL⟩ := u.any ho I.free fun z => (hch _ z).2.1 rfl
  exact I.step (ch := ch) hch (fun b o hL hb hc e n => u.keep b o e n (fun z => (List.mem_cons.mp (I.stkSub b z)).elim hL hb) hc) (fun b o _ _ hc e n => u.any e n hc) (fun b o hc e n => u.free b o e n hc) (fun b o hc e => u.there b o e hc) u.tups u.frzs u.tbls (fun m' hm => by
    obtain ⟨o', es', ep', ho', r'⟩ := hm
    rw [ho] at ho'; cases ho'
    exact ⟨_, es', ep', hL, r'⟩) hok hg
/-- an untracked record of ours (an iterator) has turned -/
theorem Inv.turned {t' : Nat} {it : Addr} (I : Inv X pins σ H s) (k : ∀ b o, b ≠ it → s.heap.get? b = some o → h'.get? b = some o) (hn : H it = none) (hL : it ≠ X.env.locals)
    (h1 : it ∈ X.ex ∨ X.s₀.heap.objs.size ≤ it) (h2 : ∀ x c, X.env.cells.lookup x = some c → c ≠ it) (h3 : ∀ p ∈ X.pn ++ pins, p.1 ≠ it) : Inv X pins σ H { s with heap := h', toks := t' } := by
  have nit : ∀ b u, H b = some u → b ≠ it := fun b u e z => by rw [z, hn] at e; cases e
  refine I.step (g' := s.gens) (d' := s.drawn) (ch := [it]) (fun b hb => ?_) (fun b o _ _ hc e _ => k b o (fun z => hc (by simp [z])) e) (fun b o _ _ hc e _ => ⟨o.slots, k b o (fun z => hc (by simp [z])) e⟩) (fun _ _ _ _ n => n)
    (fun b o hc e => ⟨o, k b o (fun z => hc (by simp [z])) e⟩) (fun _ _ e => e) (fun _ _ _ e => e) (fun b ps e => ⟨#[], by rw [e]; simp⟩) (fun m hm => ?_) (fun b u e => ?_) I.bare
  · have e : b = it := by simpa using hb
    subst e
    exact ⟨h1, hL, h2, h3⟩
  · obtain ⟨o, es, ep, ho, r⟩ := hm
    exact ⟨o, es, ep, k _ o (Ne.symm hL) ho, r⟩
  · refine (I.hok b u e).stay (fun c v hc q => k c v ?_ q) (fun _ q => q) fun _ _ q => q
    rcases hc with z | z
    · rw [z]; exact nit b u e
    · exact nit c _ z
theorem Inv.tok (I : Inv X pins σ H s) (t : Nat) : Inv X pins σ H { s with toks := t } := I.un (h' := s.heap) (t' := t) Un.refl I.hok
/-- all objects kept -/
theorem Inv.kept {t' : Nat} (I : Inv X pins σ H s) (k : ∀ b u, s.heap.get? b = some u → h'.get? b = some u) : Inv X pins σ H { s with heap := h', toks := t' } := I.un (Un.kept k) (I.hok.kept k)
/-- a new object laid and tracked -/
theorem Inv.laid {a : Addr} {o : HO} {t' : Nat} (I : Inv X pins σ H s) (k : ∀ b u, s.heap.get? b = some u → h'.get? b = some u) (hp : s.heap.objs.size ≤ a) (new : ObjOk X.prog X.w (upd H a o) h' a o) :
    Inv X pins σ (upd H a o) { s with heap := h', toks := t' } := I.un (Un.laid k hp (I.hok.fresh hp)) (I.hok.laid k hp new)
/-- an object written -/
theorem Inv.write {x e : Addr} {o : HO} {t' : Nat} (I : Inv X pins σ H s) (mu : Mut (H x)) (he : e = x ∨ H e = some (.own x)) (k : ∀ b u, b ≠ e → s.heap.get? b = some u → h'.get? b = some u) (heo : ∃ u, h'.get? e = some u)
    (new : ObjOk X.prog X.w (upd H x o) h' x o) : Inv X pins σ (upd H x o) { s with heap := h', toks := t' } := I.un (Un.write mu he k heo) (I.hok.write mu he k heo new)
/-- forgetting slots, pins -/
theorem Inv.weak {σ' : List (Option V)} (I : Inv X pins σ H s) (hl : σ'.length = σ.length) (w : ∀ (i : Nat) v, σ'[i]? = some (some v) → σ[i]? = some (some v)) : Inv X pins σ' H s :=
  ⟨I.ok, I.os, I.bare, I.base, let ⟨m, hn, hl'⟩ := I.loc; ⟨m, hn, fun i x v e1 e2 e3 => hl' i x v e1 (w i v e2) e3⟩, I.cell, I.free, I.freeC, I.pin, I.hok, hl.trans I.len⟩
theorem Inv.pins_of {pins' : List (Addr × Obj)} (I : Inv X pins σ H s) (h : ∀ p ∈ pins', s.heap.get? p.1 = some p.2 ∧ H p.1 = none ∧ p.1 ≠ X.env.locals ∧ p.1 ∉ X.fs ∧ ∀ v, p.2.data ≠ .cell v) : Inv X pins' σ H s :=
  ⟨I.ok, I.os, I.bare, I.base, I.loc, I.cell, I.free, I.freeC, fun p hp => (List.mem_append.mp hp).elim (fun z => I.pin p (List.mem_append_left _ z)) (h p), I.hok, I.len⟩

theorem nodup_ix {N : List Str} (hN : N.Nodup) {i j : Nat} {x : Str} (a : N[i]? = some x) (b : N[j]? = some x) : i = j := by
  obtain ⟨h1, e1⟩ := List.getElem?_eq_some_iff.mp a
  obtain ⟨h2, e2⟩ := List.getElem?_eq_some_iff.mp b
  exact (List.getElem_inj hN).mp (e1.trans e2.symm)

/-- a name is stored; what changed -/
theorem store_ok2 {M : Model} {A : Around} {E : Value → Shared → Prop} {i : Nat} {x : Str} {v : V} {u : Value} {Q : Unit → Shared → Prop} (I : Inv X pins σ H s) (hN : X.N.Nodup) (hi : X.N[i]? = some x) (hx : Loc X.env.scope x) (r : RelV v u)
    (h : ∀ s', Inv X pins (σ.set i (some v)) H s' → (∃ a, Heap.SameBut a s.heap s'.heap ∧ (a = X.env.locals ∨ X.env.cells.lookup x = some a)) → Q () s') (hf : X.fn x = true ∨ X.env.scope.names.lookup x = some .local := by first | exact .inl rfl | exact .inr rfl | assumption) : wpAny M A (storeName X.env x u) Q E s := by
  obtain ⟨m, hn, hl⟩ := id I.loc
  have hcls : (X.env.scope.kind == .class || (X.env.scope.kind == .module && X.env.locals != X.env.globals)) = false := by rw [I.ok.kind]; rfl
  have hiσ : i < σ.length := by rw [I.len]; exact (List.getElem?_eq_some_iff.mp hi).1
  have cne := I.cne
  have tracked : ∀ {a : Addr} {h' : Heap}, (∃ o, s.heap.get? a = some o ∧ H a = none) → Heap.SameBut a s.heap h' → HOk X.prog X.w H h' := fun {a h'} ha hs b ob e => by
    obtain ⟨_, _, hfree⟩ := ha
    refine (I.hok b ob e).stay (fun c w' hc q => (hs.2 c ?_).trans q) (fun _ q => q) fun _ _ q => q
    rintro rfl
    rcases hc with rfl | hc
    · rw [hfree] at e; cases e
    · rw [hfree] at hc; cases hc
  rcases hx with hk | hk
  · refine wpAny_storeName_local hk hn (fun h' hn' hs => ?_) hcls
    obtain ⟨oL, _, _, hoL, _⟩ := id hn
    refine h _ ⟨I.ok, I.os, I.bare, ⟨fun b o e n hb hx => ?_, fun b o e n hb hx => ?_, I.base.free, fun b o e hx => ?_, I.base.tups, I.base.frzs, I.base.tbls⟩, ⟨_, hn', fun j y v' e1 e2 e3 => ?_⟩, fun y c e => ?_, I.free, I.freeC, fun p hp => ?_, tracked ⟨oL, hoL, I.free⟩ hs, by simpa using I.len⟩ ⟨_, hs, .inl rfl⟩
    · exact (hs.2 b (Nat.ne_of_lt (Nat.lt_of_lt_of_le (Heap.lt_size e) I.ok.above))).trans (I.base.keep b o e n hb hx)
    · obtain ⟨sl, e1⟩ := I.base.slot b o e n hb hx
      exact ⟨sl, (hs.2 b (Nat.ne_of_lt (Nat.lt_of_lt_of_le (Heap.lt_size e) I.ok.above))).trans e1⟩
    · obtain ⟨o', e1⟩ := I.base.there b o e hx
      exact ⟨o', (hs.2 b (Nat.ne_of_lt (Nat.lt_of_lt_of_le (Heap.lt_size e) I.ok.above))).trans e1⟩
    · by_cases hj : j = i
      · subst hj
        rw [hi] at e1; cases e1
        rw [List.getElem?_set_self hiσ] at e2
        cases e2
        exact ⟨u, r, .inl ⟨hk, by simp⟩⟩
      · rw [List.getElem?_set_ne (Ne.symm hj)] at e2
        obtain ⟨u', r', q⟩ := hl j y v' e1 e2 e3
        refine ⟨u', r', ?_⟩
        rcases q with ⟨k, e⟩ | ⟨k, c, e, z⟩
        · refine .inl ⟨k, ?_⟩
          have : y ≠ x := fun e => hj (nodup_ix hN e1 (e ▸ hi))
          simp [this, e]
        · exact .inr ⟨k, c, e, z.sameBut hs (cne y c e)⟩
    · obtain ⟨w', z⟩ := I.cell y c e
      exact ⟨w', z.sameBut hs (cne y c e)⟩
    · obtain ⟨e, n, ne, nf, d⟩ := I.pin p hp
      exact ⟨(hs.2 p.1 ne).trans e, n, ne, nf, d⟩
  · have hfn : X.fn x = true := by
      rcases hf with z | z
      · exact z
      · rw [z] at hk; cases hk
    obtain ⟨c, hc⟩ := I.ok.has x (.inl hk)
    obtain ⟨w', z⟩ := I.cell x c hc
    refine wpAny_storeName_cell I.ok.kind hk hc z (fun h' hc' hs => ?_)
    obtain ⟨oc, hoc, hocd⟩ := id z
    refine h { s with heap := h' } ⟨I.ok, I.os, I.bare, ⟨fun b o e n hb hx => ?_, fun b o e n hb hx => ?_, I.base.free, fun b o e hx => ?_, I.base.tups, I.base.frzs, I.base.tbls⟩, ⟨m, hn.sameBut hs (Ne.symm (cne x c hc)), fun j y v' e1 e2 e3 => ?_⟩, fun y c' e => ?_, I.free, I.freeC, fun p hp => ?_, tracked ⟨oc, hoc, I.freeC x c hc⟩ hs, by simpa using I.len⟩ ⟨c, hs, .inr hc⟩
    · exact (hs.2 b (Nat.ne_of_lt (Nat.lt_of_lt_of_le (Heap.lt_size e) (I.ok.cab x c hfn hc)))).trans (I.base.keep b o e n hb hx)
    · obtain ⟨sl, e1⟩ := I.base.slot b o e n hb hx
      exact ⟨sl, (hs.2 b (Nat.ne_of_lt (Nat.lt_of_lt_of_le (Heap.lt_size e) (I.ok.cab x c hfn hc)))).trans e1⟩
    · obtain ⟨o', e1⟩ := I.base.there b o e hx
      exact ⟨o', (hs.2 b (Nat.ne_of_lt (Nat.lt_of_lt_of_le (Heap.lt_size e) (I.ok.cab x c hfn hc)))).trans e1⟩
    · by_cases hj : j = i
      · subst hj
        rw [hi] at e1; cases e1
        rw [List.getElem?_set_self hiσ] at e2
        cases e2
        exact ⟨u, r, .inr ⟨.inl hk, c, hc, hc'⟩⟩
      · rw [List.getElem?_set_ne (Ne.symm hj)] at e2
        obtain ⟨u', r', q⟩ := hl j y v' e1 e2 e3
        refine ⟨u', r', ?_⟩
        rcases q with q | ⟨k, c', e, z'⟩
        · exact .inl q
        · refine .inr ⟨k, c', e, z'.sameBut hs ?_⟩
          rintro rfl
          exact hj (nodup_ix hN e1 (I.ok.inj _ _ _ e hc ▸ hi))
    · by_cases hcc : c' = c
      · subst hcc; exact ⟨_, hc'⟩
      · obtain ⟨w2, z2⟩ := I.cell y c' e
        exact ⟨w2, z2.sameBut hs hcc⟩
    · obtain ⟨e, n, ne, nf, d⟩ := I.pin p hp
      refine ⟨(hs.2 p.1 ?_).trans e, n, ne, nf, d⟩
      intro q
      rw [q, hoc] at e
      have q' : oc = p.2 := Option.some.inj e
      exact d w' (by rw [← q']; exact hocd)
theorem store_ok {M : Model} {A : Around} {E : Value → Shared → Prop} {i : Nat} {x : Str} {v : V} {u : Value} {Q : Unit → Shared → Prop} (I : Inv X pins σ H s) (hN : X.N.Nodup) (hi : X.N[i]? = some x) (hx : Loc X.env.scope x) (r : RelV v u)
    (h : ∀ s', Inv X pins (σ.set i (some v)) H s' → Q () s') (hf : X.fn x = true ∨ X.env.scope.names.lookup x = some .local := by first | exact .inl rfl | exact .inr rfl | assumption) : wpAny M A (storeName X.env x u) Q E s :=
  store_ok2 I hN hi hx r (fun s' I' _ => h s' I') hf
/-- behind a call or a block, the state as it is -/
theorem Inv.call' {s' : Shared} {ch : List Addr} (I : Inv X pins σ H s) (ho : s'.os = s.os) (u : Un (frs X.stack) ch H H' s.heap s'.heap) (hok : HOk X.prog X.w H' s'.heap) (hg : AllBare s'.gens)
    (hch : ∀ b ∈ ch, (b ∈ X.ex ∨ X.s₀.heap.objs.size ≤ b) ∧ b ≠ X.env.locals ∧ (∀ x c, X.env.cells.lookup x = some c → c ≠ b) ∧ ∀ p ∈ X.pn ++ pins, p.1 ≠ b) : Inv X pins σ H' s' := by
  obtain ⟨h', g', d', t', o'⟩ := s'
  have e : o' = s.os := ho
  subst e
  exact I.call (g' := g') (t' := t') (d' := d') u hok hg hch
end

/-! ### the judgements -/
/-- an exception: its class, its own dict's address (where it has one), the abstract heap behind it -/
abbrev XK := Value → Option Addr → Hp → Prop
abbrev St := List (Option V)
abbrev VK := V → Hp → Prop
/-- an expression's reading; a test's; an argument list's -/
abbrev TE := St → Hp → VK → Prop
abbrev TT := St → Hp → (Bool → Hp → Prop) → Prop
abbrev TA := St → Hp → (List V → Hp → Prop) → Prop
/-- what is wanted behind a statement -/
structure Ends where
  nx : St → Hp → Prop
  rt : VK
  bk : St → Hp → Prop := fun _ _ => False
  ct : St → Hp → Prop := fun _ _ => False
abbrev TS := Ends → St → Hp → Prop

def EP (X : Cx) (pins : List (Addr × Obj)) (σ : St) (Q : VK) (u : Value) (s' : Shared) : Prop := ∃ v H', Inv X pins σ H' s' ∧ RelV v u ∧ Q v H'
def TP (X : Cx) (pins : List (Addr × Obj)) (σ : St) (Q : Bool → Hp → Prop) (b : Bool) (s' : Shared) : Prop := ∃ H', Inv X pins σ H' s' ∧ Q b H'
def AP (X : Cx) (pins : List (Addr × Obj)) (σ : St) (Q : List V → Hp → Prop) (us : List Value) (s' : Shared) : Prop := ∃ vs H', Inv X pins σ H' s' ∧ Vals vs us ∧ Q vs H'
def SP (X : Cx) (pins : List (Addr × Obj)) (D : Ends) (f : Flow) (s' : Shared) : Prop :=
  match f with
  | .next => ∃ σ' H', Inv X pins σ' H' s' ∧ D.nx σ' H'
  | .brk => ∃ σ' H', Inv X pins σ' H' s' ∧ D.bk σ' H'
  | .cont => ∃ σ' H', Inv X pins σ' H' s' ∧ D.ct σ' H'
  | .ret u => ∃ v σ' H', Inv X pins σ' H' s' ∧ RelV v u ∧ D.rt v H'

def PE (X : Cx) (e : Expr) (t : TE) : Prop :=
  ∀ (pins : List (Addr × Obj)) (s : Shared) (σ : St) (H : Hp) (Q : VK), Inv X pins σ H s → t σ H Q → wpAny (model X.prog X.w) X.A (eval e X.env) (EP X pins σ Q) X.xe s
def PT (X : Cx) (e : Expr) (t : TT) : Prop :=
  ∀ (pins : List (Addr × Obj)) (s : Shared) (σ : St) (H : Hp) (Q : Bool → Hp → Prop), Inv X pins σ H s → t σ H Q → wpAny (model X.prog X.w) X.A (isTrue e X.env (eval e X.env)) (TP X pins σ Q) X.xe s
/-- a test whatever its 'whole' is (and, or) -/
def PW (X : Cx) (e : Expr) (t : TT) : Prop :=
  ∀ (whole : Sem Value) (pins : List (Addr × Obj)) (s : Shared) (σ : St) (H : Hp) (Q : Bool → Hp → Prop), Inv X pins σ H s → t σ H Q → wpAny (model X.prog X.w) X.A (isTrue e X.env whole) (TP X pins σ Q) X.xe s
theorem PW.pt {X : Cx} {e : Expr} {t : TT} (h : PW X e t) : PT X e t := h _
/-- an argument list (no star), from the left -/
def PA (X : Cx) (es : List Expr) (t : TA) : Prop :=
  ∀ (pos : Pos) (pins : List (Addr × Obj)) (s : Shared) (σ : St) (H : Hp) (Q : List V → Hp → Prop), Inv X pins σ H s → t σ H Q → wpAny (model X.prog X.w) X.A (spliced (backTo pos (starEach es X.env))) (AP X pins σ Q) X.xe s
def PS (X : Cx) (st : Stmt) (t : TS) : Prop :=
  ∀ (pins : List (Addr × Obj)) (s : Shared) (σ : St) (H : Hp) (D : Ends), Inv X pins σ H s → t D σ H → wpAny (model X.prog X.w) X.A (exec st X.env) (SP X pins D) X.xe s
def PSs (X : Cx) (st : List Stmt) (t : TS) : Prop :=
  ∀ (pins : List (Addr × Obj)) (s : Shared) (σ : St) (H : Hp) (D : Ends), Inv X pins σ H s → t D σ H → wpAny (model X.prog X.w) X.A (execs st X.env) (SP X pins D) X.xe s
/-- weaken the end -/
theorem thn {α : Type} {t : Sem α} {Q Q' : α → Shared → Prop} {M : Model} {A : Around} {E : Value → Shared → Prop} {s : Shared} (h : wpAny M A t Q E s) (hQ : ∀ a s, Q a s → Q' a s) : wpAny M A t Q' E s := wpAny_mono h hQ fun _ _ x => x
end L2

namespace L2
open PySem PySem.Spec PyProof.Rows
section
variable {X : Cx}

/-! ### names and constants -/
def tVar (i : Nat) : TE := fun σ H Q => ∃ v, σ[i]? = some (some v) ∧ Q v H
def tC (v : V) : TE := fun _ H Q => Q v H
theorem pe_var {i : Nat} {x : Str} {pos : Pos} (hN : X.N[i]? = some x) (hv : Vis X.env.scope x) (hd : (x == ("__debug__" : Str)) = false := by decide) (hcd : (x == ("__classdict__" : Str)) = false := by decide) : PE X (.Name x pos) (tVar i) := by
  intro pins s σ H Q I h
  obtain ⟨v, e, h⟩ := h
  obtain ⟨m, hn, hl⟩ := I.loc
  obtain ⟨u, r, l⟩ := hl i x v hN e hv
  have fin : EP X pins σ Q u s := ⟨v, H, I, r, h⟩
  rcases l with ⟨hk, hm⟩ | ⟨hk, c, hc, hcell⟩
  · exact wpAny_Name (wpAny_loadName_local I.ok.kind hk hn hm fin) hd
  · rcases hk with hk | hk
    · exact wpAny_Name (wpAny_loadName_cell I.ok.kind hk hc hcell fin) hd
    · exact wpAny_Name (wpAny_loadName_free I.ok.kind hk hc hcell fin hcd) hd
theorem pe_int {i j pos} : PE X (.Constant (.int i) j pos) (tC (.int i)) := fun _ _ _ H _ I h => wpAny_Constant_int ⟨.int i, H, I.tok _, ⟨_, rfl⟩, h⟩
theorem pe_bl {b j pos} : PE X (.Constant (.bool b) j pos) (tC (.bl b)) := fun _ _ _ H _ I h => Constant_bool ⟨.bl b, H, I, rfl, h⟩
theorem pe_non {j pos} : PE X (.Constant .none j pos) (tC .non) := fun _ _ _ H _ I h => Constant_none ⟨.non, H, I, rfl, h⟩
theorem pe_str {x j pos} : PE X (.Constant (.str x) j pos) (tC (.str x)) := fun _ _ _ H _ I h => Calls.Constant_str ⟨.str x, H, I.tok _, ⟨_, rfl⟩, h⟩

/-- a global name of the def -/
def Gl (X : Cx) (x : Str) : Prop := X.env.kindOf x = some .globalImplicit
theorem ld_glob {E : Value → Shared → Prop} {pins : List (Addr × Obj)} {s : Shared} {σ : St} {H : Hp} {x : Str} {u : Value} {pos : Pos} {Q : Value → Shared → Prop} (I : Inv X pins σ H s) (hg : Gl X x) (hm : X.mg x = some u) (h : Q u s)
    (hd : (x == ("__debug__" : Str)) = false := by decide) : wpAny (model X.prog X.w) X.A (eval (.Name x pos) X.env) Q E s :=
  Calls.Name_function_global I.ok.kind hg (Calls.loadGlobal_global (by rw [I.ok.glob]; exact I.mod.glob.keeps I.bk) hm h) hd
theorem ld_blt {E : Value → Shared → Prop} {pins : List (Addr × Obj)} {s : Shared} {σ : St} {H : Hp} {x : Str} {u : Value} {pos : Pos} {Q : Value → Shared → Prop} (I : Inv X pins σ H s) (hg : Gl X x) (hm : X.mg x = none) (hv : bootBuiltins x = some u) (h : Q u s)
    (hn : x ≠ "__name__" := by decide) (hd : (x == ("__debug__" : Str)) = false := by decide) : wpAny (model X.prog X.w) X.A (eval (.Name x pos) X.env) Q E s := by
  obtain ⟨mb, h1, h2⟩ := I.mod.blt
  exact Calls.Name_function_global I.ok.kind hg (Calls.loadGlobal_builtin (by rw [I.ok.glob]; exact I.mod.glob.keeps I.bk) hm (by rw [I.ok.blt]; exact h1.keeps I.bk) ((h2 x hn).trans hv) h) hd
/-- a module's constant, a class, a function, as a value -/
theorem pe_glob {x : Str} {v : V} {u : Value} {pos : Pos} (hg : Gl X x) (hm : X.mg x = some u) (r : RelV v u) (hd : (x == ("__debug__" : Str)) = false := by decide) : PE X (.Name x pos) (tC v) :=
  fun _ _ _ H _ I h => ld_glob I hg hm ⟨v, H, I, r, h⟩ hd
theorem pe_bltn {x : Str} {v : V} {u : Value} {pos : Pos} (hg : Gl X x) (hm : X.mg x = none) (hv : bootBuiltins x = some u) (r : RelV v u) (hn : x ≠ "__name__" := by decide) (hd : (x == ("__debug__" : Str)) = false := by decide) : PE X (.Name x pos) (tC v) :=
  fun _ _ _ H _ I h => ld_blt I hg hm hv ⟨v, H, I, r, h⟩ hn hd

/-! ### arithmetic -/
variable {a b : Expr} {ta tb : TE} {pos : Pos}
/-! ### comparisons -/
/-! ### and, or, not -/
variable {tA tB' : TT} {rest : List Expr}
def tAnd (t u : TT) : TT := fun σ H Q => t σ H fun c H1 => if c = true then u σ H1 Q else Q false H1
def tOr (t u : TT) : TT := fun σ H Q => t σ H fun c H1 => if c = true then Q true H1 else u σ H1 Q
def tNot (t : TT) : TT := fun σ H Q => t σ H fun c H1 => Q (!c) H1
theorem pw_and1 (ha : PT X a tA) : PW X (.BoolOp .And [a] pos) tA := by
  intro wh pins s σ H Q I h
  refine isTrue_and (thn (ha pins s σ H Q I h) fun c s1 e => ?_)
  cases c with
  | true => exact isTrue_and_nil e
  | false => exact e
theorem pw_or1 (ha : PT X a tA) : PW X (.BoolOp .Or [a] pos) tA := by
  intro wh pins s σ H Q I h
  refine isTrue_or (thn (ha pins s σ H Q I h) fun c s1 e => ?_)
  cases c with
  | false => exact isTrue_or_nil e
  | true => exact e
theorem pw_and (ha : PT X a tA) (hb : PW X (.BoolOp .And (b :: rest) pos) tB') : PW X (.BoolOp .And (a :: b :: rest) pos) (tAnd tA tB') := by
  intro wh pins s σ H Q I h
  refine isTrue_and (thn (ha pins s σ H _ I h) fun c s1 ⟨H1, I1, q1⟩ => ?_)
  cases c with
  | true => exact hb wh pins s1 σ H1 Q I1 q1
  | false => exact ⟨H1, I1, q1⟩
theorem pw_or (ha : PT X a tA) (hb : PW X (.BoolOp .Or (b :: rest) pos) tB') : PW X (.BoolOp .Or (a :: b :: rest) pos) (tOr tA tB') := by
  intro wh pins s σ H Q I h
  refine isTrue_or (thn (ha pins s σ H _ I h) fun c s1 ⟨H1, I1, q1⟩ => ?_)
  cases c with
  | true => exact ⟨H1, I1, q1⟩
  | false => exact hb wh pins s1 σ H1 Q I1 q1
theorem pt_not (ha : PT X a tA) : PT X (.UnaryOp .Not a pos) (tNot tA) := by
  intro pins s σ H Q I h
  exact isTrue_not (ha pins s σ H (fun c H1 => Q (!c) H1) I h)
/-- .. as values (bools) -/
def tAndV (ta tb : TE) : TE := fun σ H Q => ta σ H fun x H1 => ∃ c, x = .bl c ∧ if c = true then tb σ H1 Q else Q (.bl false) H1
def tOrV (ta tb : TE) : TE := fun σ H Q => ta σ H fun x H1 => ∃ c, x = .bl c ∧ if c = true then Q (.bl true) H1 else tb σ H1 Q
def tNotV (ta : TE) : TE := fun σ H Q => ta σ H fun x H1 => ∃ c, x = .bl c ∧ Q (.bl (!c)) H1
theorem pe_one {op} {t : TE} (h : PE X a t) : PE X (.BoolOp op [a] pos) t := fun pins s σ H Q I hw => BoolOp_one (h pins s σ H Q I hw)
theorem pe_and (ha : PE X a ta) (hb : PE X (.BoolOp .And (b :: rest) pos) tb) : PE X (.BoolOp .And (a :: b :: rest) pos) (tAndV ta tb) := by
  intro pins s σ H Q I h
  refine BoolOp_and (thn (ha pins s σ H _ I h) fun v s1 ⟨x, H1, I1, r1, q1⟩ => ?_)
  obtain ⟨c, rfl, q1⟩ := q1
  cases r1
  refine wpAny_truthy_bool ?_
  cases c with
  | true => exact hb pins s1 σ H1 Q I1 q1
  | false => exact ⟨.bl false, H1, I1, rfl, q1⟩
theorem pe_or (ha : PE X a ta) (hb : PE X (.BoolOp .Or (b :: rest) pos) tb) : PE X (.BoolOp .Or (a :: b :: rest) pos) (tOrV ta tb) := by
  intro pins s σ H Q I h
  refine BoolOp_or (thn (ha pins s σ H _ I h) fun v s1 ⟨x, H1, I1, r1, q1⟩ => ?_)
  obtain ⟨c, rfl, q1⟩ := q1
  cases r1
  refine wpAny_truthy_bool ?_
  cases c with
  | false => exact hb pins s1 σ H1 Q I1 q1
  | true => exact ⟨.bl true, H1, I1, rfl, q1⟩
theorem pe_not (ha : PE X a ta) : PE X (.UnaryOp .Not a pos) (tNotV ta) := by
  intro pins s σ H Q I h
  refine UnaryOp_ (thn (ha pins s σ H _ I h) fun v s1 ⟨x, H1, I1, r1, q1⟩ => ?_)
  obtain ⟨c, rfl, q1⟩ := q1
  cases r1
  exact not_of (wpAny_truthy_bool ⟨.bl (!c), H1, I1, rfl, q1⟩)
/-- a if t else b -/
def tIf (t : TT) (ta tb : TE) : TE := fun σ H Q => t σ H fun c H1 => if c = true then ta σ H1 Q else tb σ H1 Q
theorem pe_ifExp {c : Expr} (hc : PT X c tA) (ha : PE X a ta) (hb : PE X b tb) : PE X (.IfExp c a b pos) (tIf tA ta tb) := by
  intro pins s σ H Q I h
  refine wpAny_IfExp (thn (hc pins s σ H _ I h) fun d s1 ⟨H1, I1, q1⟩ => ?_)
  cases d with
  | true => exact ha pins s1 σ H1 Q I1 q1
  | false => exact hb pins s1 σ H1 Q I1 q1
end
end L2

namespace L2
open PySem PySem.Spec PyProof.Rows

/-! ### a list, a tuple that is read: tracked, frozen, or an object of the module -/
def SqL (K : PySem.W.Frag) (H : Hp) (a : Addr) (xs : List V) : Prop :=
  Rd H a (.lst xs) ∨
    ∃ (o : Obj) (its : Array Value) (n : Nat), K.lookup a = some o ∧ o.cls = .type "list" ∧ o.dict = none ∧ o.data = .seq its n ∧ its.size ≤ sizeLine ∧ Vals xs its.toList
def SqT (K : PySem.W.Frag) (H : Hp) (a : Addr) (xs : List V) : Prop :=
  Rd H a (.tup xs) ∨
    ∃ (o : Obj) (its : Array Value) (n : Nat), K.lookup a = some o ∧ o.cls = .type "tuple" ∧ o.data = .seq its n ∧ its.size ≤ sizeLine ∧ Vals xs its.toList
def absV : Value → Option V
  | .none => some .non
  | .bool b => some (.bl b)
  | .int i _ => some (.int i)
  | .str x _ => some (.str x)
  | .bytes b _ => some (.byt b)
  | .float b _ => some (.flt b)
  | .ref a => some (.ref a)
  | .type n => some (.ty n)
  | _ => none
theorem RelV.abs {x : V} {u : Value} (r : RelV x u) : absV u = some x := by
  cases x with
  | non => cases r; rfl
  | bl _ => cases r; rfl
  | int _ => obtain ⟨t, rfl⟩ := r; rfl
  | str _ => obtain ⟨t, rfl⟩ := r; rfl
  | byt _ => obtain ⟨t, rfl⟩ := r; rfl
  | flt _ => obtain ⟨t, rfl⟩ := r; rfl
  | ref _ => cases r; rfl
  | ty _ => cases r; rfl
theorem RelV.inj {x y : V} {u : Value} (r : RelV x u) (q : RelV y u) : x = y := Option.some.inj (r.abs.symm.trans q.abs)
theorem Vals.inj : ∀ {xs ys : List V} {us : List Value}, Vals xs us → Vals ys us → xs = ys
  | _, _, _, .nil, .nil => rfl
  | _, _, _, .cons r t, .cons r' t' => by rw [r.inj r', Vals.inj t t']
section
variable {X : Cx} {pins : List (Addr × Obj)} {σ : St} {H : Hp} {s : Shared} {a : Addr} {xs ys : List V}
theorem Inv.list (I : Inv X pins σ H s) (h : SqL X.K H a xs) : ∃ its : List Value, Vals xs its ∧ PlainL s.heap a its.toArray ∧ xs.length ≤ sizeLine := by
  rcases h with h | ⟨o, its, n, hk, hc, hd, hs, hz, r⟩
  · obtain ⟨z, its, n, r, e⟩ := h.ok I.hok
    exact ⟨its, r, ⟨_, n, e, rfl, rfl, rfl⟩, z⟩
  · refine ⟨its.toList, r, ⟨o, n, I.kIn a o hk, hc, hd, by simpa using hs⟩, ?_⟩
    have e := r.length
    simp only [Array.length_toList] at e
    omega
theorem Inv.tuple (I : Inv X pins σ H s) (h : SqT X.K H a xs) : ∃ its : List Value, Vals xs its ∧ IsTup s.heap a its.toArray ∧ xs.length ≤ sizeLine := by
  rcases h with h | ⟨o, its, n, hk, hc, hs, hz, r⟩
  · obtain ⟨z, its, r, p⟩ := h.ok I.hok
    exact ⟨its, r, p, z⟩
  · refine ⟨its.toList, r, ⟨o, I.kIn a o hk, hc, n, by simpa using hs⟩, ?_⟩
    have e := r.length
    simp only [Array.length_toList] at e
    omega
theorem Inv.list_inj (I : Inv X pins σ H s) (h : SqL X.K H a xs) (h' : SqL X.K H a ys) : xs = ys := by
  obtain ⟨its, r, ⟨o, n, e, _, _, d⟩, _⟩ := I.list h
  obtain ⟨its', r', ⟨o', n', e', _, _, d'⟩, _⟩ := I.list h'
  rw [e] at e'; cases e'
  rw [d] at d'
  injection d' with d1 _
  have : its = its' := by simpa using congrArg Array.toList d1
  subst this
  exact r.inj r'
theorem Inv.tuple_inj (I : Inv X pins σ H s) (h : SqT X.K H a xs) (h' : SqT X.K H a ys) : xs = ys := by
  obtain ⟨its, r, ⟨o, e, _, n, d⟩, _⟩ := I.tuple h
  obtain ⟨its', r', ⟨o', e', _, n', d'⟩, _⟩ := I.tuple h'
  rw [e] at e'; cases e'
  rw [d] at d'
  injection d' with d1 _
  have : its = its' := by simpa using congrArg Array.toList d1
  subst this
  exact r.inj r'
end

/-! ### another wish about exceptions -/
abbrev Cx.wish (X : Cx) (E : Value → Shared → Prop) : Cx := { X with xe := E }
/-- no exception leaves -/
abbrev Cx.nox (X : Cx) : Cx := X.wish fun _ _ => False
theorem Cx.Ok.wish {X : Cx} (ok : X.Ok) (E : Value → Shared → Prop) : (X.wish E).Ok :=
  ⟨ok.mod, ok.kind, ok.glob, ok.blt, ok.above, ok.inj, ok.has, ok.cab, ok.hd, ok.frames, ok.stk, ok.exf, ok.bs, ok.bsz, ok.noex, ok.exfs, ok.funs, ok.frf⟩
theorem Cx.Ok.unwish {X : Cx} {E : Value → Shared → Prop} (ok : (X.wish E).Ok) : X.Ok :=
  ⟨ok.mod, ok.kind, ok.glob, ok.blt, ok.above, ok.inj, ok.has, ok.cab, ok.hd, ok.frames, ok.stk, ok.exf, ok.bs, ok.bsz, ok.noex, ok.exfs, ok.funs, ok.frf⟩
section
variable {X : Cx} {pins : List (Addr × Obj)} {σ : St} {H : Hp} {s : Shared} {E : Value → Shared → Prop}
theorem Inv.wish (I : Inv X pins σ H s) (E : Value → Shared → Prop) : Inv (X.wish E) pins σ H s := ⟨I.ok.wish E, I.os, I.bare, I.base, I.loc, I.cell, I.free, I.freeC, I.pin, I.hok, I.len⟩
theorem Inv.unwish (I : Inv (X.wish E) pins σ H s) : Inv X pins σ H s := ⟨I.ok.unwish, I.os, I.bare, I.base, I.loc, I.cell, I.free, I.freeC, I.pin, I.hok, I.len⟩
theorem SP.unwish {D : Ends} {f : Flow} {s' : Shared} (h : SP (X.wish E) pins D f s') : SP X pins D f s' := by
  cases f with
  | next => obtain ⟨σ', H', I, q⟩ := h; exact ⟨σ', H', I.unwish, q⟩
  | brk => obtain ⟨σ', H', I, q⟩ := h; exact ⟨σ', H', I.unwish, q⟩
  | cont => obtain ⟨σ', H', I, q⟩ := h; exact ⟨σ', H', I.unwish, q⟩
  | ret u => obtain ⟨v, σ', H', I, r, q⟩ := h; exact ⟨v, σ', H', I.unwish, r, q⟩
theorem PSs.nox {st : List Stmt} {t : TS} (h : PSs X.nox st t) : PSs X st t := fun pins s σ H D I hw =>
  wpAny_mono (h pins s σ H D (I.wish _) hw) (fun _ _ q => q.unwish) fun _ _ z => False.elim z
end

/-! ### blocks and small statements -/
section
variable {X : Cx} {st : Stmt} {rest : List Stmt} {t u : TS} {e : Expr} {te : TE} {pos : Pos}
def tNext : TS := fun D σ H => D.nx σ H
def tSeq (t u : TS) : TS := fun D σ H => t { D with nx := u D } σ H
theorem pss_nil : PSs X [] tNext := fun _ _ σ H _ I h => wpAny_execs_nil ⟨σ, H, I, h⟩
theorem pss_cons (h1 : PS X st t) (h2 : PSs X rest u) : PSs X (st :: rest) (tSeq t u) := by
  intro pins s σ H D I h
  refine wpAny_execs_cons (thn (h1 pins s σ H { D with nx := u D } I h) fun f s1 q => ?_)
  cases f with
  | next =>
    obtain ⟨σ', H', I', q⟩ := q
    exact h2 pins s1 σ' H' D I' q
  | ret v => exact q
  | brk => exact q
  | cont => exact q
theorem pss_one (h1 : PS X st t) : PSs X [st] t := by
  intro pins s σ H D I h
  refine wpAny_execs_cons (thn (h1 pins s σ H D I h) fun f s1 q => ?_)
  cases f with
  | next => exact wpAny_execs_nil q
  | ret v => exact q
  | brk => exact q
  | cont => exact q
theorem ps_pass : PS X (.Pass pos) tNext := fun _ _ σ H _ I h => wpAny_Pass ⟨σ, H, I, h⟩
/-- in a def's body nothing is shown -/
theorem Inv.quiet {pins : List (Addr × Obj)} {σ : St} {H : Hp} {s : Shared} (I : Inv X pins σ H s) : interactive X.env = false := by simp [interactive, I.ok.kind]
/-- a docstring -/
theorem ps_doc {x j pos pos'} : PS X (.Expr (.Constant (.str x) j pos) pos') tNext := fun _ s σ H _ I h => wpAny_Expr (Calls.Constant_str (show SP X _ _ .next { s with toks := s.toks + 1 } from ⟨σ, H, I.tok _, h⟩)) I.quiet
/-- an expression whose value is dropped -/
def tDrop (te : TE) : TS := fun D σ H => te σ H fun _ H1 => D.nx σ H1
theorem ps_expr (he : PE X e te) (hs : swapsWith e none pos.line X.env = pure false := by rfl) : PS X (.Expr e pos) (tDrop te) := by
  intro pins s σ H D I h
  exact wpAny_Expr_any (thn (he pins s σ H _ I h) fun v s1 ⟨x, H1, I1, r1, q1⟩ => ⟨σ, H1, I1, q1⟩) I.quiet hs
def tRet (te : TE) : TS := fun D σ H => te σ H D.rt
theorem ps_ret (he : PE X e te) : PS X (.Return (some e) pos) (tRet te) := by
  intro pins s σ H D I h
  exact wpAny_Return_some (thn (he pins s σ H _ I h) fun v s1 ⟨x, H1, I1, r1, q1⟩ => ⟨x, σ, H1, I1, r1, q1⟩)
def tRetN : TS := fun D _ H => D.rt .non H
theorem ps_retN : PS X (.Return none pos) tRetN := fun _ _ σ H _ I h => wpAny_Return_none ⟨.non, σ, H, I, rfl, h⟩
def tIfS (c : TT) (t u : TS) : TS := fun D σ H => c σ H fun b H1 => if b = true then t D σ H1 else u D σ H1
theorem ps_if {c : Expr} {a b : List Stmt} {tc : TT} (hc : PT X c tc) (ha : PSs X a t) (hb : PSs X b u) : PS X (.If c a b pos) (tIfS tc t u) := by
  intro pins s σ H D I h
  refine wpAny_If (thn (hc pins s σ H _ I h) fun d s1 ⟨H1, I1, q1⟩ => ?_)
  cases d with
  | true => exact ha pins s1 σ H1 D I1 q1
  | false => exact hb pins s1 σ H1 D I1 q1
end

/-! ### targets -/
abbrev TG := V → St → Hp → (St → Hp → Prop) → Prop
abbrev TGs := List V → St → Hp → (St → Hp → Prop) → Prop
def PG (X : Cx) (target : Expr) (t : TG) : Prop :=
  ∀ (pins : List (Addr × Obj)) (s : Shared) (σ : St) (H : Hp) (v : V) (u : Value) (Q : St → Hp → Prop), Inv X pins σ H s → RelV v u → t v σ H Q →
    wpAny (model X.prog X.w) X.A (assign target X.env u) (fun _ s' => ∃ σ' H', Inv X pins σ' H' s' ∧ Q σ' H') X.xe s
/-- several targets, one after another -/
def PGs (X : Cx) (ts : List Expr) (t : TGs) : Prop :=
  ∀ (pins : List (Addr × Obj)) (s : Shared) (σ : St) (H : Hp) (vs : List V) (us : List Value) (Q : St → Hp → Prop), Inv X pins σ H s → Vals vs us → t vs σ H Q →
    wpAny (model X.prog X.w) X.A (assignInOrder ((assignEach ts X.env).map (·.2)) us) (fun _ s' => ∃ σ' H', Inv X pins σ' H' s' ∧ Q σ' H') X.xe s
/-- o[i] = v, by values -/
abbrev TSet := V → V → V → Hp → (Hp → Prop) → Prop
def PSet (X : Cx) (t : TSet) : Prop :=
  ∀ (pins : List (Addr × Obj)) (s : Shared) (σ : St) (H : Hp) (o i v : V) (ov iv u : Value) (Q : Hp → Prop), Inv X pins σ H s → RelV o ov → RelV i iv → RelV v u → t o i v H Q →
    wpAny (model X.prog X.w) X.A (setItem ov iv u) (fun _ s' => ∃ H', Inv X pins σ H' s' ∧ Q H') X.xe s
section
variable {X : Cx} {pos : Pos}
def gName (i : Nat) : TG := fun v σ H Q => Q (σ.set i (some v)) H
theorem pg_name {i : Nat} {x : Str} (hN : X.N.Nodup) (hi : X.N[i]? = some x) (hx : Loc X.env.scope x) (hf : X.fn x = true ∨ X.env.scope.names.lookup x = some .local := by first | exact .inl rfl | exact .inr rfl | assumption) : PG X (.Name x pos) (gName i) := by
  intro pins s σ H v u Q I r h
  exact wpAny_assign_Name (store_ok I hN hi hx r (fun s' I' => ⟨_, H, I', h⟩) hf)
def gNil : TGs := fun vs σ H Q => vs = [] ∧ Q σ H
def gCons (t : TG) (u : TGs) : TGs := fun vs σ H Q => ∃ v r, vs = v :: r ∧ t v σ H fun σ' H' => u r σ' H' Q
theorem pgs_nil : PGs X [] gNil := by
  intro pins s σ H vs us Q I r h
  obtain ⟨e, h⟩ := h
  subst e
  cases r
  exact assignInOrder_nil ⟨σ, H, I, h⟩
theorem pgs_cons {e : Expr} {es : List Expr} {t : TG} {u : TGs} (h1 : PG X e t) (h2 : PGs X es u)
    (hs : (assignEach (e :: es) X.env).map (·.2) = assign e X.env :: (assignEach es X.env).map (·.2) := by rfl) : PGs X (e :: es) (gCons t u) := by
  intro pins s σ H vs us Q I r h
  obtain ⟨v, vr, e1, h⟩ := h
  subst e1
  cases r with
  | cons r rr =>
    rw [hs]
    refine assignInOrder_cons (thn (h1 pins s σ H _ _ _ I r h) fun _ s1 ⟨σ1, H1, I1, q1⟩ => ?_)
    exact h2 pins s1 σ1 H1 _ _ Q I1 rr q1
/-- (a, b, ..) = a tuple of that length -/
def gTup (K : PySem.W.Frag) (n : Nat) (t : TGs) : TG := fun v σ H Q => ∃ a xs, v = .ref a ∧ SqT K H a xs ∧ xs.length = n ∧ t xs σ H Q
theorem pg_tup {es : List Expr} {k : Nat} {t : TGs} {n : Nat} (hc : X.calm = true) (h : PGs X es t)
    (hn : (assignEach es X.env).length = n := by rfl) (hst : (assignEach es X.env).findIdx? (·.1) = none := by rfl) : PG X (.Tuple es k pos) (gTup X.K n t) := by
  intro pins s σ H v u Q I r hw
  obtain ⟨a, xs, e1, hq, hl, hw⟩ := hw
  subst e1
  cases r
  obtain ⟨its, rv, ht, hz⟩ := I.tuple hq
  refine assign_Tuple_tuple (I.ok.hd hc) ht (by simp [hn, ← hl, rv.length]) hst fun h' hx => ?_
  have I1 : Inv X pins σ H { s with heap := h' } := I.kept (t' := s.toks) fun b o e => hx b o (Nat.ne_of_lt (Heap.lt_size e)) e
  exact h pins _ σ H xs _ Q I1 (by simpa using rv) hw
/-- o[i] = .. -/
def gSub (to ti : TE) (t : TSet) : TG := fun v σ H Q => to σ H fun o H1 => ti σ H1 fun i H2 => t o i v H2 fun H3 => Q σ H3
theorem pg_sub {o i : Expr} {to ti : TE} {t : TSet} (ho : PE X o to) (hi : PE X i ti) (hs : PSet X t)
    (ha : ∀ v, assign (.Subscript o i pos) X.env v = (do
      let ov ← holding [v] (eval o X.env)
      let iv ← holding [v, ov] (eval i X.env)
      standAt pos
      holding [v, ov, iv] (setItem ov iv v)
      release [v, ov, iv] []) := by intro _; rfl) : PG X (.Subscript o i pos) (gSub to ti t) := by
  intro pins s σ H v u Q I r h
  rw [ha]
  refine wpAny_bind (wpAny_holding (thn (ho pins s σ H _ I h) fun ov s1 ⟨x, H1, I1, r1, q1⟩ => ?_))
  refine wpAny_bind (wpAny_holding (thn (hi pins s1 σ H1 _ I1 q1) fun iv s2 ⟨y, H2, I2, r2, q2⟩ => ?_))
  refine wpAny_bind (wpAny_standAt (wpAny_bind (wpAny_holding (thn (hs pins s2 σ H2 x y v ov iv u _ I2 r1 r2 r q2) fun _ s3 ⟨H3, I3, q3⟩ => ?_))))
  exact wpAny_release ⟨σ, H3, I3, q3⟩
/-- target = value -/
def tAsg (te : TE) (g : TG) : TS := fun D σ H => te σ H fun x H1 => g x σ H1 D.nx
theorem ps_asg {tg e : Expr} {te : TE} {g : TG} (he : PE X e te) (hg : PG X tg g) (hs : swapsWithSole [tg] e pos.line X.env = pure false := by rfl) (hw : swappedStores [tg] e X.env = pure none := by rfl)
    (h1 : (assignEach [tg] X.env).map (·.2) = [assign tg X.env] := by rfl) : PS X (.Assign [tg] e pos) (tAsg te g) := by
  intro pins s σ H D I h
  refine wpAny_Assign_stores (thn (he pins s σ H _ I h) fun v s1 ⟨x, H1, I1, r1, q1⟩ => ?_) hs hw
  rw [h1]
  exact thn (hg pins s1 σ H1 x v _ I1 r1 q1) fun _ s2 q => q
/-- name = value -/
theorem ps_set {i : Nat} {x : Str} {e : Expr} {te : TE} {pos' : Pos} (hN : X.N.Nodup) (hi : X.N[i]? = some x) (hx : Loc X.env.scope x) (he : PE X e te) (hs : swapsWith e (some (.Name x pos')) pos.line X.env = pure false := by rfl) (hf : X.fn x = true ∨ X.env.scope.names.lookup x = some .local := by first | exact .inl rfl | exact .inr rfl | assumption) :
    PS X (.Assign [.Name x pos'] e pos) (tAsg te (gName i)) := by
  intro pins s σ H D I h
  refine wpAny_Assign_Name (thn (he pins s σ H _ I h) fun v s1 ⟨y, H1, I1, r1, q1⟩ => ?_) hs
  exact store_ok I1 hN hi hx r1 (fun s2 I2 => ⟨_, H1, I2, q1⟩) hf
end

/-! ### while -/
section
variable {X : Cx} {pos : Pos}
end

/-! ### what a loop or a comprehension walks -/
/-- at turn i: it yields x (the heap may grow), or it stops -/
structure It where
  go : Nat → Hp → Prop
  yld : Nat → Hp → V → Hp → Prop
  stop : Nat → Hp → Prop
/-- the iterator's own objects may turn: they are not the frame's, not pinned, younger than the entry (or a comprehension's own) -/
def FpOk (X : Cx) (pins : List (Addr × Obj)) (H : Hp) (b : Addr) : Prop :=
  H b = none ∧ b ≠ X.env.locals ∧ b ∉ X.fs ∧ (b ∈ X.ex ∨ X.s₀.heap.objs.size ≤ b) ∧ (∀ x c, X.env.cells.lookup x = some c → c ≠ b) ∧ ∀ p ∈ X.pn ++ pins, p.1 ≠ b
theorem Inv.fpOk {X : Cx} {pins : List (Addr × Obj)} {σ : St} {H H' : Hp} {s : Shared} {b : Addr} (I : Inv X pins σ H s) (hb : s.heap.objs.size ≤ b) (hn : H' b = none) : FpOk X pins H' b := by
  refine ⟨hn, Nat.ne_of_gt (Nat.lt_of_lt_of_le I.lt hb), I.nofs hb, .inr (Nat.le_trans I.sz hb), fun x c e z => ?_, fun p hp z => ?_⟩
  · obtain ⟨v, q⟩ := I.cell x c e
    exact absurd (Nat.lt_of_lt_of_le q.lt (by rw [z]; exact hb)) (Nat.lt_irrefl _)
  · exact absurd (Nat.lt_of_lt_of_le (Heap.lt_size (I.pin p hp).1) (by rw [z]; exact hb)) (Nat.lt_irrefl _)
structure Turn (P : Program) (w : World) (K : PySem.W.Frag) (tg : Expr) (J : It) (fp : List Addr) (it : Addr) (tn : Nat → Heap → Prop) : Prop where
  mem : it ∈ fp
  obj : ∀ i h, tn i h → ∀ b ∈ fp, ∃ o, h.get? b = some o ∧ ∀ v, o.data ≠ .cell v
  keep : ∀ i h h', tn i h → (∀ b ∈ fp, ∀ o, h.get? b = some o → h'.get? b = some o) → tn i h'
  item : ∀ (X : Cx), X.prog = P → X.w = w → X.K = K → X.calm = true → ∀ (i : Nat) (pins : List (Addr × Obj)) (s : Shared) (σ : St) (H : Hp) (E : Value → Shared → Prop), Inv X pins σ H s → (∀ b ∈ fp, FpOk X pins H b) → tn i s.heap → J.go i H →
    wpAny (model P w) X.A (pyNext (.ref it)) (fun r s1 => ∃ u, r = some u ∧
      wpAny (model P w) X.A (letOwnedTupleGo tg (.ref it) u) (fun _ s2 => ∃ x H', Inv X pins σ H' s2 ∧ RelV x u ∧ J.yld i H x H' ∧ tn (i + 1) s2.heap ∧ ∀ b ∈ fp, H' b = none) E s1) E s
  done : ∀ (X : Cx), X.prog = P → X.w = w → X.K = K → X.calm = true → ∀ (i : Nat) (pins : List (Addr × Obj)) (s : Shared) (σ : St) (H : Hp) (E : Value → Shared → Prop), Inv X pins σ H s → (∀ b ∈ fp, FpOk X pins H b) → tn i s.heap → J.stop i H →
    wpAny (model P w) X.A (pyNext (.ref it)) (fun r s1 => r = none ∧ Inv X pins σ H s1) E s
  self : ∀ (A : Around) (i : Nat) (s : Shared) (Q : Value → Shared → Prop) (E : Value → Shared → Prop), tn i s.heap → Q (.ref it) s → wpAny (model P w) A (pyIter (.ref it)) Q E s
abbrev TI := St → Hp → (It → Hp → Prop) → Prop
/-- an iterator has come -/
def PIE (X : Cx) (pins : List (Addr × Obj)) (σ : St) (tg : Expr) (R : It → Hp → Prop) (itv : Value) (s2 : Shared) : Prop :=
  ∃ (it : Addr) (fp : List Addr) (tn : Nat → Heap → Prop) (J : It) (H' : Hp), itv = .ref it ∧ Inv X pins σ H' s2 ∧ Turn X.prog X.w X.K tg J fp it tn ∧ tn 0 s2.heap ∧ (∀ b ∈ fp, FpOk X pins H' b) ∧ R J H'
def PI (X : Cx) (tg iter : Expr) (wi : TI) : Prop :=
  ∀ (pins : List (Addr × Obj)) (s : Shared) (σ : St) (H : Hp) (R : It → Hp → Prop), Inv X pins σ H s → wi σ H R →
    wpAny (model X.prog X.w) X.A (eval iter X.env) (fun v s1 => wpAny (model X.prog X.w) X.A (pyIter v) (PIE X pins σ tg R) X.xe s1) X.xe s

/-- the step ahead of the store is nothing for an iterator that keeps no tuple -/
theorem go_of {M : Model} {A : Around} {E : Value → Shared → Prop} {s : Shared} {tg : Expr} {it : Addr} {u : Value} {o : Obj} {n : String} {vs : Array Value} {Q : Unit → Shared → Prop} (ho : s.heap.get? it = some o) (hc : o.cls = .type n) (hd : o.data = .fields vs)
    (hn : ["enumerate", "zip", "dict_itemiterator", "dict_reverseitemiterator", "odict_iterator", "itertools.zip_longest", "itertools.pairwise"].contains n = false) (hQ : Q () s) : wpAny M A (letOwnedTupleGo tg (.ref it) u) Q E s := by
  unfold letOwnedTupleGo
  cases tg <;> first
    | exact wpAny_pure hQ
    | (cases u <;> first
        | exact wpAny_pure hQ
        | (refine wpAny_bind (wpAny_load ho ?_)
           rw [hc, hd]
           show wpAny M A (if (["enumerate", "zip", "dict_itemiterator", "dict_reverseitemiterator", "odict_iterator", "itertools.zip_longest", "itertools.pairwise"].contains n && vs[0]? == some (rawInt _)) = true then _ else _) Q E s
           rw [if_neg (by intro h; rw [hn, Bool.false_and] at h; cases h)]
           exact wpAny_pure hQ))

/-- the list at a, as it stands at each turn (a loop may append to it) -/
def Itl (K : PySem.W.Frag) (a : Addr) : It :=
  ⟨fun i H => ∃ xs x, SqL K H a xs ∧ xs[i]? = some x, fun i H x H' => H' = H ∧ ∀ xs, SqL K H a xs → xs[i]? = some x, fun i H => ∃ xs, SqL K H a xs ∧ xs.length ≤ i⟩
def Itt (K : PySem.W.Frag) (a : Addr) : It :=
  ⟨fun i H => ∃ xs x, SqT K H a xs ∧ xs[i]? = some x, fun i H x H' => H' = H ∧ ∀ xs, SqT K H a xs → xs[i]? = some x, fun i H => ∃ xs, SqT K H a xs ∧ xs.length ≤ i⟩
/-- lo, lo + 1, .. (n of them) -/
def Itr (lo : Int) (n : Nat) : It := ⟨fun i _ => i < n, fun i H x H' => H' = H ∧ x = .int (lo + i), fun i _ => n ≤ i⟩
theorem turn_list {P : Program} {w : World} {K : PySem.W.Frag} {tg : Expr} (a it : Addr) : Turn P w K tg (Itl K a) [it] it (fun i h => h.IsListIter it a i) where
  mem := by simp
  obj := fun i h st b hb => by
    have e : b = it := by simpa using hb
    subst e
    obtain ⟨o, e, c, d⟩ := st
    exact ⟨o, e, fun v z => by rw [d] at z; cases z⟩
  keep := fun i h h' st k => st.at fun o e => k it (by simp) o e
  item := by
    intro X hP hw hK hc i pins s σ H E I hf st hg
    subst hP hw hK
    obtain ⟨xs, x, hq, hx⟩ := hg
    obtain ⟨its, rv, p, hz⟩ := I.list hq
    obtain ⟨u, hu, ru⟩ := rv.get hx
    obtain ⟨f0, f1, f2, f3, f4, f5⟩ := hf it (by simp)
    refine wpAny_pyNext_list_item st p.isList (x := u) (by simpa using hu) fun h' st' sb => ?_
    have I1 : Inv X pins σ H { s with heap := h' } := I.turned (t' := s.toks) (fun b o hb e => (sb.2 b hb).trans e) f0 f1 f3 f4 f5
    obtain ⟨o, e, c, d⟩ := id st'
    exact ⟨u, rfl, go_of (s := { s with heap := h' }) e c d (by decide) ⟨x, H, I1, ru, ⟨rfl, fun ys hy => by rw [I.list_inj hy hq]; exact hx⟩, st', fun b hb => (hf b hb).1⟩⟩
  done := by
    intro X hP hw hK hc i pins s σ H E I hf st hg
    subst hP hw hK
    obtain ⟨xs, hq, hx⟩ := hg
    obtain ⟨its, rv, p, hz⟩ := I.list hq
    obtain ⟨f0, f1, f2, f3, f4, f5⟩ := hf it (by simp)
    have hl := rv.length
    exact wpAny_pyNext_list_end (I.ok.hd hc) st p.isList (by simp; omega) fun h' eb => ⟨rfl, I.turned (t' := s.toks) (fun b o hb e => eb b o hb e) f0 f1 f3 f4 f5⟩
  self := fun _ _ _ _ _ st h => wpAny_pyIter_listiter st h
theorem turn_tuple {P : Program} {w : World} {K : PySem.W.Frag} {tg : Expr} (a it : Addr) : Turn P w K tg (Itt K a) [it] it (fun i h => h.IsTupleIter it a i) where
  mem := by simp
  obj := fun i h st b hb => by
    have e : b = it := by simpa using hb
    subst e
    obtain ⟨o, e, c, d⟩ := st
    exact ⟨o, e, fun v z => by rw [d] at z; cases z⟩
  keep := fun i h h' st k => st.at fun o e => k it (by simp) o e
  item := by
    intro X hP hw hK hc i pins s σ H E I hf st hg
    subst hP hw hK
    obtain ⟨xs, x, hq, hx⟩ := hg
    obtain ⟨its, rv, p, hz⟩ := I.tuple hq
    obtain ⟨u, hu, ru⟩ := rv.get hx
    obtain ⟨f0, f1, f2, f3, f4, f5⟩ := hf it (by simp)
    refine wpAny_pyNext_tuple_item st (show s.heap.IsTuple a its.toArray from p) (x := u) (by simpa using hu) fun h' st' sb => ?_
    have I1 : Inv X pins σ H { s with heap := h' } := I.turned (t' := s.toks) (fun b o hb e => (sb.2 b hb).trans e) f0 f1 f3 f4 f5
    obtain ⟨o, e, c, d⟩ := id st'
    exact ⟨u, rfl, go_of (s := { s with heap := h' }) e c d (by decide) ⟨x, H, I1, ru, ⟨rfl, fun ys hy => by rw [I.tuple_inj hy hq]; exact hx⟩, st', fun b hb => (hf b hb).1⟩⟩
  done := by
    intro X hP hw hK hc i pins s σ H E I hf st hg
    subst hP hw hK
    obtain ⟨xs, hq, hx⟩ := hg
    obtain ⟨its, rv, p, hz⟩ := I.tuple hq
    obtain ⟨f0, f1, f2, f3, f4, f5⟩ := hf it (by simp)
    have hl := rv.length
    exact wpAny_pyNext_tuple_end (I.ok.hd hc) st (show s.heap.IsTuple a its.toArray from p) (by simp; omega) fun h' eb => ⟨rfl, I.turned (t' := s.toks) (fun b o hb e => eb b o hb e) f0 f1 f3 f4 f5⟩
  self := fun _ _ _ _ _ st h => wpAny_pyIter_tupleiter st h
theorem turn_range {P : Program} {w : World} {K : PySem.W.Frag} {tg : Expr} (it : Addr) (lo : Int) (n : Nat) : Turn P w K tg (Itr lo n) [it] it (fun i h => IsRangeIter h it (lo + (i : Nat) * 1) ((n : Int) - (i : Nat)) 1) where
  mem := by simp
  obj := fun i h st b hb => by
    have e : b = it := by simpa using hb
    subst e
    exact ⟨_, st, fun v z => by
      have z' : Data.fields _ = Data.cell v := z
      cases z'⟩
  keep := fun i h h' st k => k it (by simp) _ st
  item := by
    intro X hP hw hK hc i pins s σ H E I hf st hg
    subst hP hw hK
    obtain ⟨f0, f1, f2, f3, f4, f5⟩ := hf it (by simp)
    have W := Walks.range (prog := X.prog) (w := X.w) (I.ok.hd hc) it lo 1 n
    refine W.item i s _ _ hg st fun v h' tk hv st' kk => ?_
    obtain ⟨t, rfl⟩ := hv
    have I1 : Inv X pins σ H { s with heap := h', toks := tk } := I.turned (fun b o hb e => kk b o (by simpa using hb) e) f0 f1 f3 f4 f5
    refine ⟨_, rfl, go_of (s := { s with heap := h', toks := tk }) (n := "range_iterator") st' rfl rfl (by decide) ⟨.int (lo + i), H, I1, ⟨t, ?_⟩, ⟨rfl, rfl⟩, st', fun b hb => (hf b hb).1⟩⟩
    rw [Int.mul_one]
  done := by
    intro X hP hw hK hc i pins s σ H E I hf st hg
    subst hP hw hK
    obtain ⟨f0, f1, f2, f3, f4, f5⟩ := hf it (by simp)
    exact wpAny_pyNext_range_end (I.ok.hd hc) st (by have : n ≤ i := hg; omega) fun h' eb => ⟨rfl, I.turned (t' := s.toks) (fun b o hb e => eb b o hb e) f0 f1 f3 f4 f5⟩
  self := fun _ _ _ _ _ st h => wpAny_pyIter_rangeiter st h
end L2

namespace L2
open PySem PySem.Spec PyProof.Rows
section
variable {X : Cx} {tg : Expr}
/-- a range object just made, walked -/
theorem range_it {pins : List (Addr × Obj)} {σ : St} {H : Hp} {s : Shared} {R : It → Hp → Prop} {E : Value → Shared → Prop} {lo hi : Int} {t u v : Tok} {tk : Nat} (I : Inv X pins σ H s) (h1 : -(2 ^ 62) ≤ lo) (h2 : lo < 2 ^ 62) (h3 : -(2 ^ 62) ≤ hi) (h4 : hi < 2 ^ 62)
    (q : R (Itr lo (hi - lo).toNat) H) : wpAny (model X.prog X.w) X.A (pyIter (.ref s.heap.objs.size)) (PIE X pins σ tg R) E { s with heap := s.heap.push { cls := .type "range", data := .fields #[.int lo t, .int hi u, .int 1 v] }, toks := tk } := by
  refine wpAny_pyIter_range (IsRange.new ..) (small_one h1 h2 h3 h4) ?_
  have I1 : Inv X pins σ H { s with heap := s.heap.push { cls := .type "range", data := .fields #[.int lo t, .int hi u, .int 1 v] }, toks := tk } := I.kept fun b o e => Heap.get?_push_of_some _ e
  refine ⟨(s.heap.push { cls := .type "range", data := .fields #[.int lo t, .int hi u, .int 1 v] }).objs.size, [(s.heap.push { cls := .type "range", data := .fields #[.int lo t, .int hi u, .int 1 v] }).objs.size], _, _, H, rfl,
    I1.kept (t' := tk) fun b o e => Heap.get?_push_of_some _ e, turn_range _ lo (hi - lo).toNat, ?_, fun b hb => ?_, q⟩
  · have e1 : lo + ((0 : Nat) : Int) * 1 = lo := by simp
    have e2 : (((hi - lo).toNat : Nat) : Int) - ((0 : Nat) : Int) = Builtin.Range.rangeSize lo hi 1 := by rw [rangeSize_one]; split <;> omega
    show IsRangeIter _ _ (lo + ((0 : Nat) : Int) * 1) ((((hi - lo).toNat : Nat) : Int) - ((0 : Nat) : Int)) 1
    rw [e1, e2]
    exact Heap.get?_push_size _ rfl
  · have e : b = (s.heap.push { cls := .type "range", data := .fields #[.int lo t, .int hi u, .int 1 v] }).objs.size := by simpa using hb
    subst e
    exact I1.fpOk (Nat.le_refl _) (I1.hok.fresh (Nat.le_refl _))
/-! ### for -/
/-- W: the invariant by the turn and a measure; N: what the body is to reach -/
def tFor (wi : TI) (g : TG) (tb : TS) : TS := fun D σ H => wi σ H fun J H1 => ∃ W : Nat → Nat → St → Hp → Prop, (∃ m, W 0 m σ H1) ∧ ∀ i m σ H, W i m σ H →
  (J.stop i H ∧ D.nx σ H) ∨ (J.go i H ∧ ∃ N : St → Hp → Prop, (∀ σ' H', N σ' H' → ∃ m', m' < m ∧ W (i + 1) m' σ' H') ∧ ∀ x H', J.yld i H x H' → g x σ H' fun σ2 H2 => tb { D with nx := N, ct := N, bk := D.nx } σ2 H2)
/-- the records at fp as they stand -/
def pinsAt (fp : List Addr) (h : Heap) : List (Addr × Obj) := fp.filterMap fun b => (h.get? b).map fun o => (b, o)
theorem mem_pinsAt {fp : List Addr} {h : Heap} {b : Addr} {o : Obj} (hb : b ∈ fp) (e : h.get? b = some o) : (b, o) ∈ pinsAt fp h := List.mem_filterMap.mpr ⟨b, hb, by rw [e]; rfl⟩
theorem of_pinsAt {fp : List Addr} {h : Heap} {p : Addr × Obj} (hp : p ∈ pinsAt fp h) : p.1 ∈ fp ∧ h.get? p.1 = some p.2 := by
  obtain ⟨b, hb, e⟩ := List.mem_filterMap.mp hp
  cases q : h.get? b with
  | none => rw [q] at e; cases e
  | some o =>
    rw [q] at e
    have e' : (b, o) = p := Option.some.inj e
    subst e'
    exact ⟨hb, q⟩
theorem Inv.pinned {pins : List (Addr × Obj)} {σ : St} {H : Hp} {s : Shared} {fp : List Addr} (I : Inv X pins σ H s) (hf : ∀ b ∈ fp, FpOk X pins H b) (ho : ∀ b ∈ fp, ∃ o, s.heap.get? b = some o ∧ ∀ v, o.data ≠ .cell v) : Inv X (pins ++ pinsAt fp s.heap) σ H s :=
  I.pins_of fun p hp => (List.mem_append.mp hp).elim (fun z => I.pin p (List.mem_append_right _ z)) fun z => by
    obtain ⟨hb, e⟩ := of_pinsAt z
    obtain ⟨f0, f1, f2, _⟩ := hf p.1 hb
    obtain ⟨o, e', d⟩ := ho p.1 hb
    rw [e] at e'; cases e'
    exact ⟨e, f0, f1, f2, d⟩
theorem Inv.unpinned {pins pl : List (Addr × Obj)} {σ : St} {H : Hp} {s : Shared} (I : Inv X (pins ++ pl) σ H s) : Inv X pins σ H s := I.pins_of fun p hp => I.pin p (List.mem_append_right _ (List.mem_append_left _ hp))
theorem ps_for {iter : Expr} {body : List Stmt} {wi : TI} {g : TG} {tb : TS} {pos : Pos} (hp : PassesOwn (model X.prog X.w) X.A X.env X.xe) (hc : X.calm = true) (hi : PI X tg iter wi) (hg : PG X tg g) (hb : PSs X body tb)
    (hs : ∀ x, foldedSetIterable iter X.env x = pure x := by intro _; rfl) : PS X (.For tg iter body [] pos) (tFor wi g tb) := by
  intro pins s σ H D I h
  refine wpAny_For (thn (hi pins s σ H _ I h) fun v s1 h1 => thn h1 fun itv s2 h2 => ?_) hs
  obtain ⟨it, fp, tn, J, H2, e, I2, T, st2, f2, W, ⟨m0, w0⟩, turn⟩ := h2
  subst e
  -- what stays true of the iterator's objects through the loop
  have stat : ∀ {H' : Hp}, (∀ b ∈ fp, H' b = none) → ∀ b ∈ fp, FpOk X pins H' b := fun hn b hb => ⟨hn b hb, (f2 b hb).2⟩
  refine codeAny_forLoop_any (fun n s' => ∃ i σ' H', Inv X pins σ' H' s' ∧ tn i s'.heap ∧ (∀ b ∈ fp, H' b = none) ∧ W i n σ' H') ?_ m0 ⟨0, σ, H2, I2, st2, fun b hb => (f2 b hb).1, w0⟩
  rintro n s3 ⟨i, σ3, H3, I3, st3, fr3, w3⟩
  rcases turn i n σ3 H3 w3 with ⟨stop, qn⟩ | ⟨go, N, hN, step⟩
  · refine wpAny_passesOwn hp (thn (T.done X rfl rfl rfl hc i pins s3 σ3 H3 X.xe I3 (stat fr3) st3 stop) fun r s4 ⟨hr, I4⟩ => ?_)
    subst hr
    exact wpAny_execs_nil ⟨σ3, H3, I4, qn⟩
  · refine wpAny_passesOwn hp (thn (T.item X rfl rfl rfl hc i pins s3 σ3 H3 X.xe I3 (stat fr3) st3 go) fun r s4 ⟨u, hr, h4⟩ => ?_)
    subst hr
    refine wpAny_passesOwn hp (thn h4 fun _ s5 ⟨x, H5, I5, r5, y5, st5, fr5⟩ => ?_)
    have I5' := I5.pinned (stat fr5) (T.obj _ _ st5)
    refine wpAny_passesOwn hp (thn (hg _ s5 σ3 H5 x u _ I5' r5 (step x H5 y5)) fun _ s6 ⟨σ6, H6, I6, q6⟩ => ?_)
    refine wpAny_passesOwn hp (thn (hb _ s6 σ6 H6 _ I6 q6) fun f s7 q7 => ?_)
    have again : ∀ {σ7 : St} {H7 : Hp}, Inv X (pins ++ pinsAt fp s5.heap) σ7 H7 s7 → N σ7 H7 → ∃ m, m < n ∧ ∃ i σ' H', Inv X pins σ' H' s7 ∧ tn i s7.heap ∧ (∀ b ∈ fp, H' b = none) ∧ W i m σ' H' := fun {σ7 H7} I7 n7 => by
      obtain ⟨m', hm, w7⟩ := hN σ7 H7 n7
      refine ⟨m', hm, i + 1, σ7, H7, I7.unpinned, T.keep _ _ _ st5 fun b hb o e => (I7.pin (b, o) (List.mem_append_right _ (List.mem_append_right _ (mem_pinsAt hb e)))).1, fun b hb => ?_, w7⟩
      obtain ⟨o, e, d⟩ := T.obj _ _ st5 b hb
      exact (I7.pin (b, o) (List.mem_append_right _ (List.mem_append_right _ (mem_pinsAt hb e)))).2.1
    cases f with
    | next => obtain ⟨σ7, H7, I7, n7⟩ := q7; exact again I7 n7
    | cont => obtain ⟨σ7, H7, I7, n7⟩ := q7; exact again I7 n7
    | brk => obtain ⟨σ7, H7, I7, q7⟩ := q7; exact ⟨σ7, H7, I7.unpinned, q7⟩
    | ret v => obtain ⟨x7, σ7, H7, I7, r7, q7⟩ := q7; exact ⟨x7, σ7, H7, I7.unpinned, r7, q7⟩
end

/-! ### the forms one uses -/
theorem for_range {lo : Int} {n : Nat} {g : TG} {tb : TS} {D : Ends} {σ : St} {H : Hp} (Pv : Nat → St → Hp → Prop) (h0 : Pv 0 σ H)
    (hs : ∀ i σ H, i < n → Pv i σ H → g (.int (lo + i)) σ H fun σ2 H2 => tb { D with nx := Pv (i + 1), ct := Pv (i + 1), bk := D.nx } σ2 H2) (hd : ∀ σ H, Pv n σ H → D.nx σ H) :
    ∃ W : Nat → Nat → St → Hp → Prop, (∃ m, W 0 m σ H) ∧ ∀ i m σ H, W i m σ H →
      ((Itr lo n).stop i H ∧ D.nx σ H) ∨ ((Itr lo n).go i H ∧ ∃ N : St → Hp → Prop, (∀ σ' H', N σ' H' → ∃ m', m' < m ∧ W (i + 1) m' σ' H') ∧ ∀ x H', (Itr lo n).yld i H x H' → g x σ H' fun σ2 H2 => tb { D with nx := N, ct := N, bk := D.nx } σ2 H2) := by
  refine ⟨fun i m σ H => m = n - i ∧ i ≤ n ∧ Pv i σ H, ⟨n, by simp, Nat.zero_le _, h0⟩, ?_⟩
  rintro i m σ H ⟨rfl, hi, p⟩
  by_cases hlt : i < n
  · refine .inr ⟨hlt, Pv (i + 1), fun σ' H' p' => ⟨n - (i + 1), by omega, rfl, hlt, p'⟩, fun x H' y => ?_⟩
    obtain ⟨e, y⟩ := y
    subst e y
    exact hs i σ _ hlt p
  · have e : i = n := by omega
    subst e
    exact .inl ⟨Nat.le_refl _, hd σ H p⟩
end L2

namespace L2
open PySem PySem.Spec PyProof.Rows

abbrev R2 := V → V → Hp → VK → Prop
/-- a two-place operation on values: f is binaryOp op, inplaceOp op or compareOp op -/
def OpR (X : Cx) (f : Value → Value → Sem Value) (r : R2) : Prop :=
  ∀ (pins : List (Addr × Obj)) (s : Shared) (σ : St) (H : Hp) (x y : V) (v u : Value) (Q : VK), Inv X pins σ H s → RelV x v → RelV y u → r x y H Q →
    wpAny (model X.prog X.w) X.A (f v u) (EP X pins σ Q) X.xe s
/-- a one-place operation -/
def UnR (X : Cx) (f : Value → Sem Value) (r : V → Hp → VK → Prop) : Prop :=
  ∀ (pins : List (Addr × Obj)) (s : Shared) (σ : St) (H : Hp) (x : V) (v : Value) (Q : VK), Inv X pins σ H s → RelV x v → r x H Q →
    wpAny (model X.prog X.w) X.A (f v) (EP X pins σ Q) X.xe s
/-- a call of a value that is known (a builtin, a type) with values -/
def CallR (X : Cx) (f : Value) (r : List V → Hp → VK → Prop) : Prop :=
  ∀ (pins : List (Addr × Obj)) (s : Shared) (σ : St) (H : Hp) (xs : List V) (us : List Value) (Q : VK), Inv X pins σ H s → Vals xs us → r xs H Q →
    wpAny (model X.prog X.w) X.A (call f us) (EP X pins σ Q) X.xe s
/-- a value's truth -/
def TruR (X : Cx) (r : V → Hp → (Bool → Hp → Prop) → Prop) : Prop :=
  ∀ (pins : List (Addr × Obj)) (s : Shared) (σ : St) (H : Hp) (x : V) (v : Value) (Q : Bool → Hp → Prop), Inv X pins σ H s → RelV x v → r x H Q →
    wpAny (model X.prog X.w) X.A (truthy v) (TP X pins σ Q) X.xe s

def tOp (r : R2) (ta tb : TE) : TE := fun σ H Q => ta σ H fun x H1 => tb σ H1 fun y H2 => r x y H2 Q
def tUn (r : V → Hp → VK → Prop) (ta : TE) : TE := fun σ H Q => ta σ H fun x H1 => r x H1 Q
/-- ints in, under C, and a value out -/
def rI (C : Int → Int → Prop) (g : Int → Int → V) : R2 := fun x y H Q => ∃ i j, x = .int i ∧ y = .int j ∧ C i j ∧ Q (g i j) H
def rI0 (g : Int → Int → V) : R2 := fun x y H Q => ∃ i j, x = .int i ∧ y = .int j ∧ Q (g i j) H
def rU (g : Int → V) : V → Hp → VK → Prop := fun x H Q => ∃ i, x = .int i ∧ Q (g i) H

section
variable {X : Cx} {a b c : Expr} {ta tb tc : TE} {pos : Pos}

theorem binT (ha : PE X a ta) (hb : PE X b tb) {pins : List (Addr × Obj)} {s : Shared} {σ : St} {H : Hp} {R : V → V → Hp → Prop} (I : Inv X pins σ H s)
    (h : ta σ H fun x H1 => tb σ H1 fun y H2 => R x y H2) {Q : Value → Shared → Prop} {f : Value → Value → Sem Value}
    (hf : ∀ v u s2 x y H2, Inv X pins σ H2 s2 → RelV x v → RelV y u → R x y H2 → wpAny (model X.prog X.w) X.A (f v u) Q X.xe s2) :
    wpAny (model X.prog X.w) X.A (eval a X.env) (fun v s₁ => wpAny (model X.prog X.w) X.A (eval b X.env) (fun u s₂ => wpAny (model X.prog X.w) X.A (f v u) Q X.xe s₂) X.xe s₁) X.xe s := by
  refine thn (ha pins s σ H _ I h) fun v s1 ⟨x, H1, I1, r1, q1⟩ => ?_
  refine thn (hb pins s1 σ H1 _ I1 q1) fun u s2 ⟨y, H2, I2, r2, q2⟩ => ?_
  exact hf v u s2 x y H2 I2 r1 r2 q2

theorem pe_op {op : Operator} {r : R2} (ho : OpR X (binaryOp op) r) (ha : PE X a ta) (hb : PE X b tb) : PE X (.BinOp a op b pos) (tOp r ta tb) := by
  intro pins s σ H Q I h
  exact wpAny_BinOp (binT ha hb I h fun v u s2 x y H2 I2 rx ry q => ho pins s2 σ H2 x y v u Q I2 rx ry q)
theorem pe_un {op : UnaryOp} {r : V → Hp → VK → Prop} (ho : UnR X (unaryOp op) r) (ha : PE X a ta) : PE X (.UnaryOp op a pos) (tUn r ta) := by
  intro pins s σ H Q I h
  exact UnaryOp_ (thn (ha pins s σ H _ I h) fun v s1 ⟨x, H1, I1, r1, q1⟩ => ho pins s1 σ H1 x v Q I1 r1 q1)
/-! ### ints -/
theorem opI {f : Value → Value → Sem Value} {C : Int → Int → Prop} {g : Int → Int → Int}
    (rule : ∀ (i j : Int) (t u : Tok) (s : Shared) (Q : Value → Shared → Prop) (E : Value → Shared → Prop), C i j → Q (.int (g i j) s.toks) { s with toks := s.toks + 1 } → wpAny (model X.prog X.w) X.A (f (.int i t) (.int j u)) Q E s) :
    OpR X f (rI C fun i j => .int (g i j)) := by
  intro pins s σ H x y v u Q I rx ry h
  obtain ⟨i, j, rfl, rfl, hc, q⟩ := h
  obtain ⟨t, rfl⟩ := rx
  obtain ⟨t', rfl⟩ := ry
  exact rule i j t t' s _ _ hc ⟨.int (g i j), H, I.tok _, ⟨_, rfl⟩, q⟩
theorem opI0 {f : Value → Value → Sem Value} {g : Int → Int → Int}
    (rule : ∀ (i j : Int) (t u : Tok) (s : Shared) (Q : Value → Shared → Prop) (E : Value → Shared → Prop), Q (.int (g i j) s.toks) { s with toks := s.toks + 1 } → wpAny (model X.prog X.w) X.A (f (.int i t) (.int j u)) Q E s) :
    OpR X f (rI0 fun i j => .int (g i j)) := by
  intro pins s σ H x y v u Q I rx ry h
  obtain ⟨i, j, rfl, rfl, q⟩ := h
  obtain ⟨t, rfl⟩ := rx
  obtain ⟨t', rfl⟩ := ry
  exact rule i j t t' s _ _ ⟨.int (g i j), H, I.tok _, ⟨_, rfl⟩, q⟩
theorem opB0 {f : Value → Value → Sem Value} {g : Int → Int → Bool}
    (rule : ∀ (i j : Int) (t u : Tok) (s : Shared) (Q : Value → Shared → Prop) (E : Value → Shared → Prop), Q (.bool (g i j)) s → wpAny (model X.prog X.w) X.A (f (.int i t) (.int j u)) Q E s) :
    OpR X f (rI0 fun i j => .bl (g i j)) := by
  intro pins s σ H x y v u Q I rx ry h
  obtain ⟨i, j, rfl, rfl, q⟩ := h
  obtain ⟨t, rfl⟩ := rx
  obtain ⟨t', rfl⟩ := ry
  exact rule i j t t' s _ _ ⟨.bl (g i j), H, I, rfl, q⟩

def CPow (i j : Int) : Prop := 0 ≤ j ∧ j ≤ 1000000 ∧ i.natAbs < 2 ^ 64
def CMul (i j : Int) : Prop := (-(2 ^ 64) < i ∧ i < 2 ^ 64) ∨ (-(2 ^ 64) < j ∧ j < 2 ^ 64)
theorem CMul.ok {i j : Int} (h : CMul i j) : IntMulOk i j := by
  rcases h with ⟨h1, h2⟩ | ⟨h1, h2⟩
  · exact .of_left (intBits_le_64 h1 h2)
  · exact .of_right (intBits_le_64 h1 h2)
theorem op_add : OpR X (binaryOp .Add) (rI0 fun i j => .int (i + j)) := opI0 fun _ _ _ _ _ _ _ q => add_int q
theorem op_sub : OpR X (binaryOp .Sub) (rI0 fun i j => .int (i - j)) := opI0 fun _ _ _ _ _ _ _ q => sub_int q
theorem op_mul : OpR X (binaryOp .Mult) (rI CMul fun i j => .int (i * j)) := opI fun _ _ _ _ _ _ _ hc q => mul_int q hc.ok
/-- % by a positive divisor of any size -/
theorem op_mod : OpR X (binaryOp .Mod) (rI (fun _ j => 0 < j) fun i j => .int (i % j)) := opI fun i j _ _ _ _ _ hc q => by
  have h1 : (0 : Int) < j := hc
  exact mod_int' (by omega) (by rw [Int.fmod_eq_emod_of_nonneg i (by omega)]; exact q)
theorem op_pow : OpR X (binaryOp .Pow) (rI CPow fun i j => .int (i ^ j.toNat)) := opI fun _ _ _ _ _ _ _ hc q => pow_int_small hc.1 hc.2.1 hc.2.2 q
theorem unI {f : Value → Sem Value} {g : Int → Int}
    (rule : ∀ (i : Int) (t : Tok) (s : Shared) (Q : Value → Shared → Prop) (E : Value → Shared → Prop), Q (.int (g i) s.toks) { s with toks := s.toks + 1 } → wpAny (model X.prog X.w) X.A (f (.int i t)) Q E s) :
    UnR X f (rU fun i => .int (g i)) := by
  intro pins s σ H x v Q I rx h
  obtain ⟨i, rfl, q⟩ := h
  obtain ⟨t, rfl⟩ := rx
  exact rule i t s _ _ ⟨.int (g i), H, I.tok _, ⟨_, rfl⟩, q⟩
theorem un_neg : UnR X (unaryOp .USub) (rU fun i => .int (-i)) := unI fun _ _ _ _ _ q => neg_int q
/-! ### bools among ints: n += (a < b) -/
end

/-! ### comparisons -/
section
variable {X : Cx} {a b c : Expr} {ta tb tc : TE} {pos : Pos}
theorem fin_bl {pins : List (Addr × Obj)} {σ : St} {H : Hp} {s : Shared} {Q : VK} {k k' : Bool} (I : Inv X pins σ H s) (q : Q (.bl k) H) (e : k = k') : EP X pins σ Q (.bool k') s := by
  subst e
  exact ⟨.bl k, H, I, rfl, q⟩
theorem op_lt : OpR X (compareOp .Lt) (rI0 fun i j => .bl (decide (i < j))) := opB0 fun _ _ _ _ _ _ _ q => lt_int q
theorem op_le : OpR X (compareOp .LtE) (rI0 fun i j => .bl (decide (i ≤ j))) := opB0 fun _ _ _ _ _ _ _ q => le_int q
theorem op_gt : OpR X (compareOp .Gt) (rI0 fun i j => .bl (decide (j < i))) := opB0 fun _ _ _ _ _ _ _ q => gt_int q
theorem op_ge : OpR X (compareOp .GtE) (rI0 fun i j => .bl (decide (j ≤ i))) := opB0 fun _ _ _ _ _ _ _ q => ge_int q
theorem op_lt_str : OpR X (compareOp .Lt) (fun x y H Q => ∃ i j, x = .str i ∧ y = .str j ∧ Q (.bl (decide (i.cps.toList < j.cps.toList))) H) := by
  intro pins s σ H x y v u Q I rx ry h
  obtain ⟨i, j, rfl, rfl, q⟩ := h
  obtain ⟨t, rfl⟩ := rx
  obtain ⟨t', rfl⟩ := ry
  exact lt_str (fin_bl I q rfl)
/-- the one string within the other -/
theorem op_in_str : OpR X (compareOp .In) (fun x y H Q => ∃ i j, x = .str i ∧ y = .str j ∧ Q (.bl (!(Builtin.Str.occurrences j i 0 j.length 1).isEmpty)) H) := by
  intro pins s σ H x y v u Q I rx ry h
  obtain ⟨i, j, rfl, rfl, q⟩ := h
  obtain ⟨t, rfl⟩ := rx
  obtain ⟨t', rfl⟩ := ry
  exact in_str (fin_bl I q rfl)

/-- is None, is not None: the right side a value none -/
theorem op_isN : OpR X (compareOp .Is) (fun x y H Q => y = .non ∧ Q (.bl (decide (x = .non))) H) := by
  intro pins s σ H x y v u Q I rx ry h
  obtain ⟨rfl, q⟩ := h
  cases ry
  refine is_none_gen (fin_bl I q ?_)
  cases x <;> first
    | (cases rx; rfl)
    | (obtain ⟨t, rfl⟩ := rx; rfl)
theorem op_notN : OpR X (compareOp .IsNot) (fun x y H Q => y = .non ∧ Q (.bl (!decide (x = .non))) H) := by
  intro pins s σ H x y v u Q I rx ry h
  obtain ⟨rfl, q⟩ := h
  cases ry
  refine isnot_none_gen (fin_bl I q ?_)
  cases x <;> first
    | (cases rx; rfl)
    | (obtain ⟨t, rfl⟩ := rx; rfl)

theorem op_notin_str : OpR X (compareOp .NotIn) (fun x y H Q => ∃ i j, x = .str i ∧ y = .str j ∧ Q (.bl (!(!(Builtin.Str.occurrences j i 0 j.length 1).isEmpty))) H) := by
  intro pins s σ H x y v u Q I rx ry h
  obtain ⟨i, j, rfl, rfl, q⟩ := h
  obtain ⟨t, rfl⟩ := rx
  obtain ⟨t', rfl⟩ := ry
  exact notIn_str (fin_bl I q rfl)
/-- two rules for one operation: by cases -/
theorem OpR.or {f : Value → Value → Sem Value} {r r' : R2} (h : OpR X f r) (h' : OpR X f r') : OpR X f (fun x y H Q => r x y H Q ∨ r' x y H Q) := by
  intro pins s σ H x y v u Q I rx ry q
  rcases q with q | q
  · exact h pins s σ H x y v u Q I rx ry q
  · exact h' pins s σ H x y v u Q I rx ry q

/-- a comparison as a value; hm: nomark b, or (for in, not in) by with_unfolding_all rfl -/
theorem pe_cmpR {op : CmpOp} {r : R2} (ho : OpR X (compareOp op) r) (ha : PE X a ta) (hb : PE X b tb) (hm : behindInMarks op b = false) : PE X (.Compare a [op] [b] pos) (tOp r ta tb) := by
  intro pins s σ H Q I h
  exact wpAny_Compare1 (binT ha hb I h fun v u s2 x y H2 I2 rx ry q => ho pins s2 σ H2 x y v u Q I2 rx ry q) hm
/-- a reading of a value as a test -/
def tTest (t : TE) : TT := fun σ H Q => t σ H fun x H' => ∃ k, x = .bl k ∧ Q k H'
theorem pt_cmpR {op : CmpOp} {r : R2} (ho : OpR X (compareOp op) r) (ha : PE X a ta) (hb : PE X b tb) (hm : behindInMarks op b = false) : PT X (.Compare a [op] [b] pos) (tTest (tOp r ta tb)) := by
  intro pins s σ H Q I h
  refine wpAny_isTrue_Compare1 (thn (ha pins s σ H _ I h) fun v s1 ⟨x, H1, I1, r1, q1⟩ => thn (hb pins s1 σ H1 _ I1 q1) fun u s2 ⟨y, H2, I2, r2, q2⟩ =>
    thn (ho pins s2 σ H2 x y v u _ I2 r1 r2 q2) fun c s3 ⟨z, H3, I3, r3, k, e, q3⟩ => ?_) hm
  subst e
  cases r3
  exact wpAny_truthy_bool ⟨H3, I3, q3⟩
/-- a op1 b op2 c -/
def tChain (r r' : R2) (ta tb tc : TE) : TE := fun σ H Q => ta σ H fun x H1 => tb σ H1 fun y H2 => r x y H2 fun z H3 => ∃ k, z = .bl k ∧
  (if k = true then tc σ H3 fun w' H4 => r' y w' H4 Q else Q (.bl false) H3)
theorem pe_chain {op op' : CmpOp} {r r' : R2} (ho : OpR X (compareOp op) r) (ho' : OpR X (compareOp op') r') (ha : PE X a ta) (hb : PE X b tb) (hc : PE X c tc)
    (hm : lastMarks [op, op'] [b, c] = false := by with_unfolding_all rfl) : PE X (.Compare a [op, op'] [b, c] pos) (tChain r r' ta tb tc) := by
  intro pins s σ H Q I h
  refine Compare_chain (thn (ha pins s σ H _ I h) fun v s1 ⟨x, H1, I1, r1, q1⟩ => chain_link (thn (hb pins s1 σ H1 _ I1 q1) fun u s2 ⟨y, H2, I2, r2, q2⟩ =>
    thn (ho pins s2 σ H2 x y v u _ I2 r1 r2 q2) fun d s3 ⟨z, H3, I3, r3, k, e, q3⟩ => ?_)) hm
  subst e
  cases r3
  refine wpAny_truthy_bool ?_
  cases k with
  | false => exact ite_ff ⟨.bl false, H3, I3, rfl, q3⟩
  | true => exact ite_tt (chain_last (thn (hc pins s3 σ H3 _ I3 q3) fun w' s4 ⟨z', H4, I4, r4, q4⟩ => ho' pins s4 σ H4 y z' u w' Q I4 r2 r4 q4))
theorem pt_chain {op op' : CmpOp} {r r' : R2} (ho : OpR X (compareOp op) r) (ho' : OpR X (compareOp op') r') (ha : PE X a ta) (hb : PE X b tb) (hc : PE X c tc)
    (hm : lastMarks [op, op'] [b, c] = false := by with_unfolding_all rfl) : PT X (.Compare a [op, op'] [b, c] pos) (tTest (tChain r r' ta tb tc)) := by
  intro pins s σ H Q I h
  refine isTrue_chain (thn (ha pins s σ H _ I h) fun v s1 ⟨x, H1, I1, r1, q1⟩ => test_link (thn (hb pins s1 σ H1 _ I1 q1) fun u s2 ⟨y, H2, I2, r2, q2⟩ =>
    thn (ho pins s2 σ H2 x y v u _ I2 r1 r2 q2) fun d s3 ⟨z, H3, I3, r3, k, e, q3⟩ => ?_)) hm
  subst e
  cases r3
  refine wpAny_truthy_bool ?_
  cases k with
  | false =>
    obtain ⟨k', e', q'⟩ := q3
    cases e'
    exact ite_ff ⟨H3, I3, q'⟩
  | true =>
    refine ite_tt (test_last (thn (hc pins s3 σ H3 _ I3 q3) fun w' s4 ⟨z', H4, I4, r4, q4⟩ => thn (ho' pins s4 σ H4 y z' u w' _ I4 r2 r4 q4) fun d' s5 ⟨z2, H5, I5, r5, k2, e2, q5⟩ => ?_))
    subst e2
    cases r5
    exact wpAny_truthy_bool ⟨H5, I5, q5⟩

/-! ### truth -/
/-- a value's truth by the abstract heap -/
def TruV (K : PySem.W.Frag) (x : V) (H : Hp) (k : Bool) : Prop :=
  match x with
  | .non => k = false
  | .bl b => k = b
  | .int i => k = (i != 0)
  | .str y => y.length ≤ sizeLine ∧ k = ((y.length : Int) != 0)
  | .byt y => y.size ≤ sizeLine ∧ k = ((y.size : Int) != 0)
  | .ref p => (∃ xs, SqL K H p xs ∧ k = !xs.isEmpty) ∨ (∃ xs, SqT K H p xs ∧ k = !xs.isEmpty) ∨ ∃ kvs, H p = some (.dK kvs) ∧ k = !kvs.isEmpty
  | _ => False
theorem isEmpty_kv {κ : Type} {kvs : List (κ × V)} {vs : List (κ × Value)} (r : KV kvs vs) : (!vs.isEmpty) = !kvs.isEmpty := by
  cases r <;> rfl
theorem isEmpty_of {xs : List V} {its : List Value} (r : Vals xs its) : (!its.toArray.isEmpty) = !xs.isEmpty := by
  cases r <;> simp
theorem line63 : (sizeLine : Nat) < 2 ^ 63 := by rw [sizeLine_eq]; decide
theorem tru_ok : TruR X (fun x H Q => ∃ k, TruV X.K x H k ∧ Q k H) := by
  intro pins s σ H x v Q I rx h
  obtain ⟨k, e, q⟩ := h
  have hl := line63
  have hs : sizeLine = 16777216 := sizeLine_eq
  cases x with
  | non =>
    cases rx
    have e' : k = false := e
    subst e'
    exact truthy_none ⟨H, I, q⟩
  | bl b =>
    cases rx
    have e' : k = b := e
    subst e'
    exact wpAny_truthy_bool ⟨H, I, q⟩
  | int i =>
    obtain ⟨t, rfl⟩ := rx
    have e' : k = (i != 0) := e
    subst e'
    exact PySem.P.truthy_int ⟨H, I, q⟩
  | str y =>
    obtain ⟨t, rfl⟩ := rx
    obtain ⟨hy, e'⟩ : y.length ≤ sizeLine ∧ k = ((y.length : Int) != 0) := e
    subst e'
    exact PySem.P.truthy_str (by omega) ⟨H, I.tok _, q⟩
  | byt y =>
    obtain ⟨t, rfl⟩ := rx
    obtain ⟨hy, e'⟩ : y.size ≤ sizeLine ∧ k = ((y.size : Int) != 0) := e
    subst e'
    exact PySem.W.truthy_bytes (by omega) ⟨H, I.tok _, q⟩
  | ref p =>
    cases rx
    have e' : (∃ xs, SqL X.K H p xs ∧ k = !xs.isEmpty) ∨ (∃ xs, SqT X.K H p xs ∧ k = !xs.isEmpty) ∨ ∃ kvs, H p = some (.dK kvs) ∧ k = !kvs.isEmpty := e
    rcases e' with ⟨xs, hx, e'⟩ | ⟨xs, hx, e'⟩ | ⟨kvs, hx, e'⟩
    · subst e'
      obtain ⟨its, r, pl, hz⟩ := I.list hx
      have hlen := r.length
      exact wpAny_truthy_list pl.isList (by simp only [List.size_toArray]; omega) ⟨H, I.tok _, by rw [isEmpty_of r]; exact q⟩
    · subst e'
      obtain ⟨its, r, pl, hz⟩ := I.tuple hx
      have hlen := r.length
      exact truthy_tuple pl (by simp only [List.size_toArray]; omega) ⟨H, I.tok _, by rw [isEmpty_of r]; exact q⟩
    · subst e'
      obtain ⟨hz, hS, vs, r, m⟩ : kvs.length ≤ sizeLine ∧ (p == sysModules) = false ∧ ∃ vs, KV kvs vs ∧ s.heap.DictOf (mixKind X.prog X.w) p vs := I.hok p _ hx
      have hlen : kvs.length = vs.length := Paired.length r
      exact wpAny_truthy_dict hS m (by omega) ⟨H, I.tok _, by rw [isEmpty_kv r]; exact q⟩
  | _ => exact (show False from e).elim
/-! ### strs and bytes -/
theorem op_add_str : OpR X (binaryOp .Add) (fun x y H Q => ∃ i j, x = .str i ∧ y = .str j ∧ i.length + j.length ≤ sizeLine ∧ Q (.str (i ++ j)) H) := by
  intro pins s σ H x y v u Q I rx ry h
  obtain ⟨i, j, rfl, rfl, hz, q⟩ := h
  obtain ⟨t, rfl⟩ := rx
  obtain ⟨t', rfl⟩ := ry
  exact add_str (fun t' tk => ⟨.str (i ++ j), H, I.tok _, ⟨_, rfl⟩, q⟩) hz
/-! ### scalar builtins, by CallR -/
theorem vals1 {x : V} {us : List Value} (r : Vals [x] us) : ∃ u, us = [u] ∧ RelV x u := by
  cases r with
  | cons r1 r2 => cases r2; exact ⟨_, rfl, r1⟩
theorem vals2 {x y : V} {us : List Value} (r : Vals [x, y] us) : ∃ u w', us = [u, w'] ∧ RelV x u ∧ RelV y w' := by
  cases r with
  | cons r1 r2 =>
    cases r2 with
    | cons r3 r4 => cases r4; exact ⟨_, _, rfl, r1, r3⟩
theorem call_max2 (hc : X.calm = true) : CallR X (.builtin "max") (fun xs H Q => ∃ i j, xs = [.int i, .int j] ∧ Q (.int (if j > i then j else i)) H) := by
  intro pins s σ H xs us Q I r h
  obtain ⟨i, j, rfl, q⟩ := h
  obtain ⟨u, w', rfl, ⟨t, rfl⟩, ⟨t', rfl⟩⟩ := vals2 r
  refine max_two_ints (I.ok.hd hc) fun h' tk k => ⟨_, H, I.kept k, ?_, q⟩
  by_cases hj : j > i
  · rw [if_pos hj, if_pos hj]; exact ⟨_, rfl⟩
  · rw [if_neg hj, if_neg hj]; exact ⟨_, rfl⟩
end
end L2

namespace L2
open PySem PySem.Spec PyProof.Rows

/-! ### an instance, its attributes a map -/
structure ObjM (h : Heap) (x dx C : Addr) (mA : Str → Option Value) : Prop where
  obj : h.get? x = some (PySem.W.instObj C dx)
  ns : h.Ns1 dx mA
  ne : dx ≠ x

theorem lookIn_ns {h : Heap} {dx : Addr} {mA : Str → Option Value} (n : h.Ns1 dx mA) : ∃ od, h.get? dx = some od ∧ ∀ name, PySem.W.lookIn name od = some (mA name) := by
  obtain ⟨o, es, ep, ho, hd, hk, _, hm⟩ := n
  refine ⟨o, ho, fun name => ?_⟩
  have e := hm name
  unfold nsFind findBy at e
  rw [← Array.find?_toList] at e
  unfold PySem.W.lookIn
  rw [hd]
  dsimp only
  split
  · rename_i y q
    rw [q] at e
    exact congrArg some e
  · rename_i q
    rw [q] at e
    have a : es.toList.any (·.refKey) = false := by
      rw [List.any_eq_false]
      intro y hy
      obtain ⟨z, t, hkey⟩ := hk y (Array.mem_toList_iff.mp hy)
      simp [DictEntry.refKey, hkey]
    have a' : ¬ es.toList.any (·.refKey) = true := by rw [a]; exact Bool.false_ne_true
    rw [if_neg a']
    exact congrArg some e

theorem ObjM.look {h : Heap} {x dx C : Addr} {mA : Str → Option Value} (I : ObjM h x dx C mA) : ∃ od, PySem.W.InstAt h x (PySem.W.instObj C dx) C (some od) ∧ ∀ name, PySem.W.lookIn name od = some (mA name) :=
  let ⟨od, ho, hl⟩ := lookIn_ns I.ns
  ⟨od, ⟨I.obj, rfl, rfl, ho⟩, hl⟩

section
variable {prog : Program} {w : World} {A : Around} {E : Value → Shared → Prop} {s : Shared} {K : PySem.W.Frag} {x dx C f : Addr} {mA : Str → Option Value} {name : Str} {v : Value}

theorem get_map {expr : Bool} {Q : Value → Shared → Prop} (X : K.In s.heap) (I : ObjM s.heap x dx C mA) (hg : PySem.W.plainGet K C name = true) (hh : PySem.W.hasDictIn K C = true)
    (ha : PySem.W.findIn K (.ref C) name = some none) (hv : mA name = some v) (hv' : PySem.W.handedIn v = true) (h : Q v { s with toks := s.toks + 1 }) :
    wpAny (model prog w) A (getAttr (.ref x) name expr) Q E s := by
  obtain ⟨od, J, hl⟩ := I.look
  exact PySem.W.get_value X J (PySem.W.plainGet_of hg).1 (PySem.W.findObj_own hh ha rfl (by rw [hl, hv])) hv' h

theorem get_meth {pl : Sem Bool} {Q : Value × List Value → Shared → Prop} (X : K.In s.heap) (I : ObjM s.heap x dx C mA) (hg : PySem.W.plainGet K C name = true)
    (hf : PySem.W.findIn K (.ref C) name = some (some (.ref f))) (ht : PySem.W.isFn K (.ref f) = true) (hv : mA name = none) (h : Q (.ref f, [.ref x]) s) :
    wpAny (model prog w) A (getMethod (.ref x) name pl) Q E s := by
  obtain ⟨od, J, hl⟩ := I.look
  exact PySem.W.method_fn X J (PySem.W.plainGet_of hg).1 (PySem.W.plainGet_of hg).2 hf (beq_iff_eq.mp ht) (by show (PySem.W.lookIn name od).map (·.isSome) = some false; rw [hl, hv]; rfl) h

theorem set_map {ns : List Str} {Q : Unit → Shared → Prop} (X : K.In s.heap) (I : ObjM s.heap x dx C mA)
    (hs : PySem.W.findIn K (.ref C) "__setattr__" = some (some (.builtin "object.__setattr__"))) (hp : PySem.W.plainOver K C = true) (ht : PySem.W.takerIn K C name = some none) (hh : PySem.W.hasDictIn K C = true)
    (hw : PySem.Within mA ns) (hsz : ns.length ≤ sizeLine)
    (h : ∀ h', ObjM h' x dx C (fun y => if y = name then some v else mA y) → Heap.SameBut dx s.heap h' → Q () { s with heap := h', toks := s.toks + 2 }) :
    wpAny (model prog w) A (setAttr (.ref x) name v) Q E s := by
  obtain ⟨od, J, hl⟩ := I.look
  refine PySem.W.set_plain X J hs (PySem.W.osa_open (s := { s with toks := s.toks + 1 }) (r := none) X J hp ht fun b => ?_)
  obtain ⟨cd, hc, hd'⟩ := PySem.W.any_some hh
  have hx : s.heap.get? x = some ⟨.ref C, some dx, .plain, #[]⟩ := I.obj
  refine wpAny_bind (wpAny_pure (wpAny_bind (wpAny_bind (wpAny_loadPart hx (wpAny_bind (PySem.W.Looks.here (s := { s with toks := s.toks + 1 }) (PySem.W.looks_clsIn X hc) ?_))))))
  rw [hd']
  refine wpAny_pure (a := some dx) (wpAny_bind (wpAny_pure (wpAny_bind ?_)))
  refine wpAny_nsSet1 (s := { s with toks := s.toks + 1 }) I.ns fun h' hn2 hs2 => ?_
  obtain ⟨oD, esD, epD, hoD, hdD, hcD⟩ := hn2.count (PySem.Within.cons name v hw)
  refine wpAny_bind (wpAny_lookBehind hoD (by rw [hdD]; exact pastItsLine_dict (Nat.le_trans hcD (by rw [List.length_cons]; omega))) ?_)
  exact wpAny_pure (h _ ⟨(hs2.2 _ (Ne.symm I.ne)).trans I.obj, hn2, I.ne⟩ hs2)

/-- C(..): the dict at the heap's end, the instance behind it; then its __init__ -/
theorem make_map {R : Result → Shared → Prop} {vs : List Value} {kw : List (Str × Value)} (X : K.In s.heap) (hm : PySem.W.makesIn K C = true)
    (hi : PySem.W.findIn K (.ref C) "__init__" = some (some (.ref f))) (hf : PySem.W.typeIn K (.ref f) = some (.type "function"))
    (h : codeAny (model prog w) (A.under (.builtin "type.__call__" ⟨.ref C :: vs, kw⟩)) (.call (.ref f) ⟨.ref (s.heap.objs.size + 1) :: vs, kw⟩) (PySem.W.InitBack (s.heap.objs.size + 1) R)
      { s with heap := (s.heap.push PySem.W.emptyDict).push (PySem.W.instObj C s.heap.objs.size) }) :
    codeAny (model prog w) A (.call (.ref C) ⟨vs, kw⟩) R s := by
  obtain ⟨hh, g, d, t, os⟩ := s
  exact PySem.W.make_core (PySem.W.makes_of X hm) (PySem.W.looks_findIn X hi) (fun self => PySem.W.bind_fn X self hf) (.inl rfl) h
end

/-! ### the attributes as a list of pairs -/
def putF (f : Str) (v : V) : List (Str × V) → List (Str × V)
  | [] => [(f, v)]
  | (g, x) :: r => if g = f then (g, v) :: r else (g, x) :: putF f v r
theorem lookup_putF (f g : Str) (v : V) : ∀ fs : List (Str × V), (putF f v fs).lookup g = if g = f then some v else fs.lookup g
  | [] => by
    show List.lookup g [(f, v)] = _
    by_cases h : g = f
    · have hb : (g == f) = true := beq_iff_eq.mpr h
      simp only [List.lookup, hb, if_pos h]
    · have hb : (g == f) = false := beq_eq_false_iff_ne.mpr h
      simp only [List.lookup, hb, if_neg h]
  | (k, x) :: r => by
    have ih := lookup_putF f g v r
    rw [show putF f v ((k, x) :: r) = (if k = f then (k, v) :: r else (k, x) :: putF f v r) from rfl]
    by_cases hk : k = f
    · rw [if_pos hk]
      by_cases h : g = k
      · have hb : (g == k) = true := beq_iff_eq.mpr h
        simp only [List.lookup, hb, if_pos (h.trans hk)]
      · have hb : (g == k) = false := beq_eq_false_iff_ne.mpr h
        simp only [List.lookup, hb, if_neg (fun e : g = f => h (e.trans hk.symm))]
    · rw [if_neg hk]
      by_cases h : g = k
      · have hb : (g == k) = true := beq_iff_eq.mpr h
        simp only [List.lookup, hb, if_neg (fun e : g = f => hk (h.symm.trans e))]
      · have hb : (g == k) = false := beq_eq_false_iff_ne.mpr h
        simp only [List.lookup, hb]
        exact ih
theorem keys_putF (f : Str) (v : V) : ∀ fs : List (Str × V), f ∈ (putF f v fs).map (·.1) ∧ ∀ g, g ∈ fs.map (·.1) → g ∈ (putF f v fs).map (·.1)
  | [] => ⟨by simp [putF], fun g h => by simp at h⟩
  | (k, x) :: r => by
    obtain ⟨i1, i2⟩ := keys_putF f v r
    rw [show putF f v ((k, x) :: r) = (if k = f then (k, v) :: r else (k, x) :: putF f v r) from rfl]
    by_cases hk : k = f
    · rw [if_pos hk]
      subst hk
      exact ⟨by simp, fun g h => by simpa using h⟩
    · rw [if_neg hk]
      refine ⟨?_, fun g h => ?_⟩
      · rw [List.map_cons]
        exact List.mem_cons_of_mem _ i1
      · rw [List.map_cons] at h ⊢
        rcases List.mem_cons.mp h with e | e
        · exact List.mem_cons.mpr (.inl e)
        · exact List.mem_cons_of_mem _ (i2 g e)
theorem length_putF (f : Str) (v : V) : ∀ fs : List (Str × V), (putF f v fs).length ≤ fs.length + 1
  | [] => by simp [putF]
  | (k, x) :: r => by
    have ih := length_putF f v r
    rw [show putF f v ((k, x) :: r) = (if k = f then (k, v) :: r else (k, x) :: putF f v r) from rfl]
    by_cases hk : k = f
    · rw [if_pos hk, List.length_cons, List.length_cons]; omega
    · rw [if_neg hk, List.length_cons, List.length_cons]; omega

theorem RelO.some_of {v : V} {o : Option Value} (r : RelO (some v) o) : ∃ u, o = some u ∧ RelV v u := by
  cases o with
  | none => exact (show False from r).elim
  | some u => exact ⟨u, rfl, r⟩
theorem RelO.none_of {o : Option Value} (r : RelO none o) : o = none := by
  cases o with
  | none => rfl
  | some u => exact (show False from r).elim
theorem handed_of {v : V} {u : Value} (r : RelV v u) : PySem.W.handedIn u = true := by
  cases v with
  | non => cases (show u = Value.none from r); rfl
  | bl b => cases (show u = Value.bool b from r); rfl
  | int i => obtain ⟨t, e⟩ := (show ∃ t, u = Value.int i t from r); cases e; rfl
  | str x => obtain ⟨t, e⟩ := (show ∃ t, u = Value.str x t from r); cases e; rfl
  | byt b => obtain ⟨t, e⟩ := (show ∃ t, u = Value.bytes b t from r); cases e; rfl
  | flt b => obtain ⟨t, e⟩ := (show ∃ t, u = Value.float b t from r); cases e; rfl
  | ref a => cases (show u = Value.ref a from r); rfl
  | ty n => cases (show u = Value.type n from r); rfl

section
variable {P : Program} {w : World} {H H' : Hp} {h h' : Heap} {a C dx : Addr} {fs fs' : List (Str × V)}
theorem ins_get (hok : HOk P w H h) (e : H a = some (.ins C dx fs)) : ∃ mA, ObjM h a dx C mA ∧ (∀ f, RelO (fs.lookup f) (mA f)) ∧ PySem.Within mA (fs.map (·.1)) ∧ fs.length ≤ 1000 ∧ H dx = some (.own a) := by
  obtain ⟨d, z, ne, ob, mA, n, r, q⟩ := (show ObjOk P w H h a (.ins C dx fs) from hok a _ e)
  exact ⟨mA, ⟨ob, n, ne⟩, r, q, z, d⟩
end

/-! ### what of the text a class must have -/
structure Cls (K : PySem.W.Frag) (C : Addr) : Prop where
  pg : PySem.W.plainGet K C Str.empty = true
  hd : PySem.W.hasDictIn K C = true
  po : PySem.W.plainOver K C = true
  sa : PySem.W.findIn K (.ref C) "__setattr__" = some (some (.builtin "object.__setattr__"))
theorem Cls.get {K : PySem.W.Frag} {C : Addr} (c : Cls K C) (f : Str) : PySem.W.plainGet K C f = true := c.pg
/-- no class of it has the name -/
def NoAttr (K : PySem.W.Frag) (C : Addr) (f : Str) : Prop := PySem.W.findIn K (.ref C) f = some none
theorem NoAttr.taker {K : PySem.W.Frag} {C : Addr} {f : Str} (n : NoAttr K C f) : PySem.W.takerIn K C f = some none := by
  unfold PySem.W.takerIn
  rw [show PySem.W.findIn K (.ref C) f = some none from n]
  rfl
/-- a constant of the class -/
structure Con (K : PySem.W.Frag) (C : Addr) (f : Str) (v : V) (u : Value) : Prop where
  at_ : PySem.W.findIn K (.ref C) f = some (some u)
  rel : RelV v u
  get : PySem.W.specialIn K u "__get__" = some none
  cp : PySem.W.copiedNames.contains f = false
/-- a method: a plain def of the class or of one above it -/
structure Meth (K : PySem.W.Frag) (C : Addr) (m : Str) (f : Addr) : Prop where
  at_ : PySem.W.findIn K (.ref C) m = some (some (.ref f))
  fn : PySem.W.isFn K (.ref f) = true
  kp : PySem.W.keepIn K (.ref f) = true

section
variable {X : Cx} {pins : List (Addr × Obj)} {σ : St} {H : Hp} {s : Shared} {a C dx : Addr} {fs : List (Str × V)} {f : Str} {v : V} {A : Around} {E : Value → Shared → Prop}

theorem getattr_ok {b : Bool} {Q : Value → Shared → Prop} (I : Inv X pins σ H s) (e : H a = some (.ins C dx fs)) (c : Cls X.K C) (n : NoAttr X.K C f) (l : fs.lookup f = some v)
    (h : ∀ u s', Inv X pins σ H s' → RelV v u → Q u s') : wpAny (model X.prog X.w) A (getAttr (.ref a) f b) Q E s := by
  obtain ⟨mA, O, r, _, _, _⟩ := ins_get I.hok e
  obtain ⟨u, hu, ru⟩ := RelO.some_of (v := v) (o := mA f) (by rw [← l]; exact r f)
  exact get_map I.kIn O (c.get f) c.hd n hu (handed_of ru) (h u _ (I.tok _) ru)

theorem getmeth_ok {m : Str} {g : Addr} {pl : Sem Bool} {Q : Value × List Value → Shared → Prop} (I : Inv X pins σ H s) (e : H a = some (.ins C dx fs)) (c : Cls X.K C) (k : Meth X.K C m g) (l : fs.lookup m = none)
    (h : Q (.ref g, [.ref a]) s) : wpAny (model X.prog X.w) A (getMethod (.ref a) m pl) Q E s := by
  obtain ⟨mA, O, r, _, _, _⟩ := ins_get I.hok e
  have hn : mA m = none := RelO.none_of (by rw [← l]; exact r m)
  exact get_meth I.kIn O (c.get m) k.at_ k.fn hn h

theorem setattr_ok {y : V} {u : Value} {Q : Unit → Shared → Prop} (I : Inv X pins σ H s) (e : H a = some (.ins C dx fs)) (c : Cls X.K C) (n : NoAttr X.K C f) (hl : fs.length < 1000) (ry : RelV y u)
    (h : ∀ s', Inv X pins σ (upd H a (.ins C dx (putF f y fs))) s' → Q () s') : wpAny (model X.prog X.w) A (setAttr (.ref a) f u) Q E s := by
  obtain ⟨mA, O, r, wi, _, ho⟩ := ins_get I.hok e
  have hz : (fs.map (·.1)).length ≤ sizeLine := by rw [List.length_map, sizeLine_eq]; omega
  refine set_map I.kIn O c.sa c.po n.taker c.hd wi hz fun h' O' sb => h _ ?_
  have hd : ∃ o, h'.get? dx = some o := let ⟨o, _, _, e', _⟩ := O'.ns; ⟨o, e'⟩
  refine I.write (x := a) (e := dx) (by rw [e]; exact True.intro) (.inr ho) (fun b q hb z => (sb.2 b hb).trans z) hd ?_
  refine ⟨by rw [upd_ne O.ne]; exact ho, ?_, O.ne, O'.obj, _, O'.ns, fun g => ?_, fun g hg => ?_⟩
  · have := length_putF f y fs; omega
  · show RelO ((putF f y fs).lookup g) (if g = f then some u else mA g)
    rw [lookup_putF]
    by_cases q : g = f
    · rw [if_pos q, if_pos q]; exact ry
    · rw [if_neg q, if_neg q]; exact r g
  · by_cases q : g = f
    · rw [q]; exact (keys_putF f y fs).1
    · refine (keys_putF f y fs).2 g (wi g fun z => hg ?_)
      show (if g = f then some u else mA g) = none
      rw [if_neg q]; exact z

/-- a new instance, tracked, without attributes -/
theorem Inv.made (I : Inv X pins σ H s) : Inv X pins σ (upd (upd H s.heap.objs.size (.own (s.heap.objs.size + 1))) (s.heap.objs.size + 1) (.ins C s.heap.objs.size []))
    { s with heap := (s.heap.push PySem.W.emptyDict).push (PySem.W.instObj C s.heap.objs.size) } := by
  have e1 : (s.heap.push PySem.W.emptyDict).get? s.heap.objs.size = some PySem.W.emptyDict := Heap.get?_push_size s.heap rfl
  have e2 : ((s.heap.push PySem.W.emptyDict).push (PySem.W.instObj C s.heap.objs.size)).get? (s.heap.objs.size + 1) = some (PySem.W.instObj C s.heap.objs.size) := by
    have := Heap.get?_push_size (s.heap.push PySem.W.emptyDict) (o := PySem.W.instObj C s.heap.objs.size) rfl
    rwa [Heap.size_push] at this
  have e3 : (s.heap.push PySem.W.emptyDict).Ns s.heap.objs.size (fun _ => none) := ⟨PySem.W.emptyDict, #[], _, e1, rfl, (fun e he => absurd he (by simp)), fun _ => rfl⟩
  have I1 := I.laid (a := s.heap.objs.size) (o := .own (s.heap.objs.size + 1)) (h' := s.heap.push PySem.W.emptyDict) (t' := s.toks) (fun b u q => Heap.get?_push_of_some _ q) (Nat.le_refl _) ⟨_, e1⟩
  refine I1.laid (a := s.heap.objs.size + 1) (o := .ins C s.heap.objs.size []) (t' := s.toks) (fun b u q => Heap.get?_push_of_some _ q) (Nat.le_of_eq (Heap.size_push _ _)) ?_
  have ne : s.heap.objs.size ≠ s.heap.objs.size + 1 := Nat.ne_of_lt (Nat.lt_succ_self _)
  refine ⟨by rw [upd_ne ne, upd_same], Nat.zero_le _, ne, e2, fun _ => none, (Heap.Ns1.of_empty e3).at fun o q => Heap.get?_push_of_some _ q, fun _ => True.intro, fun y hy => absurd rfl hy⟩

/-- e.f where nothing but the object is asked: through attributeBase (super) and the last hold -/
theorem attr_of {prog : Program} {w : World} {env : Env} {e : Expr} {f : Str} {pos : Pos} {s : Shared} {Q : Value → Shared → Prop} (hb : attributeBase e f env (eval e env) = eval e env)
    (h : wpAny (model prog w) A (eval e env) (fun o s₁ => wpAny (model prog w) A (getAttr o f true) Q E s₁) E s) : wpAny (model prog w) A (eval (.Attribute e f pos) env) Q E s :=
  Attribute_any_ h (by rw [arm_eval_Attribute, hb])
end

/-! ### readings and rules -/
/-- e.f = value -/
def sFld (K : PySem.W.Frag) (ta tv : TE) (f : Str) : TS := fun D σ H => tv σ H fun y H1 => ta σ H1 fun x H2 => ∃ a C dx fs, x = .ref a ∧ H2 a = some (.ins C dx fs) ∧ Cls K C ∧ NoAttr K C f ∧ fs.length < 1000 ∧
  D.nx σ (upd H2 a (.ins C dx (putF f y fs)))
section
variable {X : Cx} {o e value : Expr} {f : Str} {pos pos' tpos : Pos} {ta tv : TE}
theorem ps_fld (ha : PE X o ta) (hv : PE X value tv) (hs : swapsWith value (some (.Attribute o f pos')) pos.line X.env = pure false) : PS X (.Assign [.Attribute o f pos'] value pos) (sFld X.K ta tv f) := by
  intro pins s σ H D I h
  refine plainObj_wpAny_Assign_Attribute (thn (hv pins s σ H _ I h) fun u s1 ⟨y, H1, I1, ry, q⟩ => thn (ha pins s1 σ H1 _ I1 q) fun ov s2 ⟨x, H2, I2, rx, a, C, dx, fs, ex, ea, c, n, l, q2⟩ => ?_) hs
  subst ex
  obtain rfl : ov = Value.ref a := rx
  exact setattr_ok I2 ea c n l ry fun s3 I3 => ⟨σ, _, I3, q2⟩
end

/-! ### isinstance -/
section
variable {X : Cx} {pins : List (Addr × Obj)} {σ : St} {H : Hp} {s : Shared} {A : Around} {E : Value → Shared → Prop} {Q : Value → Shared → Prop} {c : Value} {b : Bool}
/-- the type of a value, as the fragment's deciders take it; for an instance its class -/
inductive TyOf (K : PySem.W.Frag) (H : Hp) : V → Value → Prop where
  | non : TyOf K H .non (.type "NoneType")
  | bl (x : Bool) : TyOf K H (.bl x) (.type "bool")
  | int (i : Int) : TyOf K H (.int i) (.type "int")
  | str (x : Str) : TyOf K H (.str x) (.type "str")
  | flt (x : UInt64) : TyOf K H (.flt x) (.type "float")
  | lst {a : Addr} {xs : List V} (e : H a = some (.lst xs)) : TyOf K H (.ref a) (.type "list")
  | frz {a : Addr} {o : Obj} {xs : List V} (e : H a = some (.frz o (.lst xs))) : TyOf K H (.ref a) (.type "list")
  | tup {a : Addr} {xs : List V} (e : H a = some (.tup xs)) : TyOf K H (.ref a) (.type "tuple")
  | dK {a : Addr} {kvs : List (Key × V)} (e : H a = some (.dK kvs)) : TyOf K H (.ref a) (.type "dict")
  | dT {a : Addr} {kvs : List (List Key × V)} (e : H a = some (.dT kvs)) : TyOf K H (.ref a) (.type "dict")
  | ins {a C dx : Addr} {fs : List (Str × V)} (e : H a = some (.ins C dx fs)) (cl : Cls K C) (ha : PySem.W.findIn K (.ref C) "__class__" = some (some (.builtin "object.__class__")))
      (hn : PySem.W.specialIn K (.builtin "object.__class__") "__get__" = some (some (.builtin "getset_descriptor.__get__"))) (htk : PySem.W.takesIn K (.builtin "object.__class__") = some true)
      (hm : PySem.W.mroIn K C (.type "object") = some true) : TyOf K H (.ref a) (.ref C)
/-- isinstance(x, c) for one class c, a built-in or an own one: kitOne's answer -/
theorem isinst_ok {x : V} {u t : Value} (I : Inv X pins σ H s) (rx : RelV x u) (ty : TyOf X.K H x t) (e : PySem.W.kitOne X.K t c = some b) (h : ∀ tk, Q (.bool b) { s with toks := tk }) :
    wpAny (model X.prog X.w) A (call (.builtin "isinstance") [u, c]) Q E s := by
  cases ty with
  | non => cases (show u = Value.none from rx); exact PySem.W.kia_one PySem.W.kitx_none I.kIn True.intro e (fun z => nomatch z) h
  | bl y => cases (show u = Value.bool y from rx); exact PySem.W.kia_one PySem.W.kitx_bool I.kIn True.intro e (fun z => nomatch z) h
  | int i => obtain ⟨t, q⟩ := (show ∃ t, u = Value.int i t from rx); cases q; exact PySem.W.kia_one PySem.W.kitx_int I.kIn True.intro e (fun z => nomatch z) h
  | str y => obtain ⟨t, q⟩ := (show ∃ t, u = Value.str y t from rx); cases q; exact PySem.W.kia_one PySem.W.kitx_str I.kIn True.intro e (fun z => nomatch z) h
  | flt y => obtain ⟨t, q⟩ := (show ∃ t, u = Value.float y t from rx); cases q; exact PySem.W.kia_one PySem.W.kitx_float I.kIn True.intro e (fun z => nomatch z) h
  | @lst a xs ea =>
    cases (show u = Value.ref a from rx)
    obtain ⟨_, _, n, _, h1⟩ := (show ObjOk X.prog X.w H s.heap a (.lst xs) from I.hok a _ ea)
    exact PySem.W.kia_one PySem.W.kitx_list I.kIn ⟨_, h1, rfl⟩ e (fun z => nomatch z) h
  | @frz a ob xs ea =>
    cases (show u = Value.ref a from rx)
    obtain ⟨_, _, _, n, _, h1⟩ := (show ObjOk X.prog X.w H s.heap a (.frz ob (.lst xs)) from I.hok a _ ea)
    exact PySem.W.kia_one PySem.W.kitx_list I.kIn ⟨_, h1, rfl⟩ e (fun z => nomatch z) h
  | @tup a xs ea =>
    cases (show u = Value.ref a from rx)
    obtain ⟨_, _, _, p⟩ := (show ObjOk X.prog X.w H s.heap a (.tup xs) from I.hok a _ ea)
    obtain ⟨o, h1, h2, _⟩ := p
    exact PySem.W.kia_one PySem.W.kitx_tuple I.kIn ⟨o, h1, h2⟩ e (fun z => nomatch z) h
  | @dK a kvs ea =>
    cases (show u = Value.ref a from rx)
    obtain ⟨_, _, vs, _, p⟩ := (show ObjOk X.prog X.w H s.heap a (.dK kvs) from I.hok a _ ea)
    obtain ⟨o, es, ep, h1, h2, _⟩ := p
    exact PySem.W.kia_one PySem.W.kitx_dict I.kIn ⟨o, h1, h2.1⟩ e (fun z => nomatch z) h
  | @dT a kvs ea =>
    cases (show u = Value.ref a from rx)
    obtain ⟨_, _, xs, _, o, es, ep, h1, h2, _⟩ := (show ObjOk X.prog X.w H s.heap a (.dT kvs) from I.hok a _ ea)
    exact PySem.W.kia_one PySem.W.kitx_dict I.kIn ⟨o, h1, h2.1⟩ e (fun z => nomatch z) h
  | @ins a C dx fs ea cl ha hn htk hm =>
    cases (show u = Value.ref a from rx)
    obtain ⟨mA, O, _⟩ := ins_get I.hok ea
    obtain ⟨od, J, _⟩ := O.look
    exact PySem.W.kia_one (PySem.W.kitx_own (cl.get _) cl.hd ha hn htk hm) I.kIn J e (fun z => nomatch z) h
end
end L2

namespace L2
open PySem PySem.Spec PyProof.Rows

/-! ### room -/
structure Room (k : Nat) (A : Around) : Prop where
  hd : A.handled = none
  dp : A.depth + 3 * k + 5 < recursionLimit
  un : A.units + 16 * k + 200 < cLine
theorem Room.mono {j k : Nat} {A : Around} (r : Room k A) (h : j ≤ k) : Room j A := ⟨r.hd, by have := r.dp; omega, by have := r.un; omega⟩
theorem Room.deeper {k : Nat} {A : Around} (r : Room (k + 1) A) (env : Env) : Room k (A.deeper env) :=
  ⟨r.hd, by have := r.dp; show A.depth + 1 + 3 * k + 5 < _; omega, by have := r.un; show A.units + 3 + 16 * k + 200 < _; omega⟩
theorem make_depth {A : Around} {C : Addr} {us : List Value} {kw : List (Str × Value)} : (A.under (.builtin "type.__call__" ⟨.ref C :: us, kw⟩)).depth = A.depth + 1 := by
  first | rfl | simp [Around.under, Code.weight, Code.isCreation, Code.isGuard, Code.isCaller, Code.frames, Code.isFrame, guardIds]
theorem make_units {A : Around} {C : Addr} {us : List Value} {kw : List (Str × Value)} : (A.under (.builtin "type.__call__" ⟨.ref C :: us, kw⟩)).units = A.units + 1 := by
  first | rfl | simp [Around.under, Code.cUnits, Code.frames, Code.isFrame]
theorem Room.make {k : Nat} {A : Around} (r : Room (k + 1) A) (C : Addr) (us : List Value) (kw : List (Str × Value)) : Room k (A.under (.builtin "type.__call__" ⟨.ref C :: us, kw⟩)) :=
  ⟨r.hd, by have := r.dp; rw [make_depth]; omega, by have := r.un; rw [make_units]; omega⟩
theorem Room.depth {k : Nat} {A : Around} (r : Room k A) : A.depth < recursionLimit := by have := r.dp; omega
theorem Room.units {k : Nat} {A : Around} (r : Room k A) : A.units + 64 < cLine := by have := r.un; omega
/-! ### argument lists and displays -/
def tNil : TA := fun _ H Q => Q [] H
def tCons (ta : TE) (tr : TA) : TA := fun σ H Q => ta σ H fun x H1 => tr σ H1 fun xs H2 => Q (x :: xs) H2
section
variable {X : Cx} {e : Expr} {es : List Expr} {te : TE} {t : TA} {pos : Pos}
theorem pa_nil : PA X [] tNil := fun _ _ _ _ H Q I h => Calls.spliced_nil ⟨[], H, I, .nil, h⟩
theorem pa_cons (ha : PE X e te) (hr : PA X es t) (hs : starEach (e :: es) X.env = (false, eval e X.env) :: starEach es X.env := by rfl) : PA X (e :: es) (tCons te t) := by
  intro pos pins s σ H Q I h
  rw [hs]
  show wpAny _ _ (spliced ((false, eval e X.env) :: backTo pos (starEach es X.env))) _ _ s
  refine Calls.spliced_cons (thn (ha pins s σ H _ I h) fun u s1 ⟨x, H1, I1, r1, q1⟩ => ?_)
  exact thn (hr pos pins s1 σ H1 _ I1 q1) fun us s2 ⟨xs, H2, I2, r2, q2⟩ => ⟨x :: xs, H2, I2, .cons r1 r2, q2⟩

/-- a tuple, a list of written items -/
def tTup (t : TA) : TE := fun σ H Q => t σ H fun xs H1 => xs.length ≤ sizeLine ∧ ∀ p, H1 p = none → Q (.ref p) (upd H1 p (.tup xs))
def tLst (t : TA) : TE := fun σ H Q => t σ H fun xs H1 => xs.length ≤ sizeLine ∧ ∀ p, H1 p = none → Q (.ref p) (upd H1 p (.lst xs))
theorem pe_tup {x1} (h : PA X es t) : PE X (.Tuple es x1 pos) (tTup t) := by
  intro pins s σ H Q I hq
  refine wpAny_Tuple_spliced (thn (h pos pins s σ H _ I hq) fun us s1 ⟨xs, H1, I1, r, z, q⟩ => ⟨by rw [← r.length]; exact z, ?_⟩)
  have hf : H1 s1.heap.objs.size = none := I1.hok.fresh (Nat.le_refl _)
  refine ⟨.ref s1.heap.objs.size, upd H1 s1.heap.objs.size (.tup xs), I1.laid (t' := s1.toks) (fun b u e => Heap.get?_push_of_some _ e) (Nat.le_refl _) ?_, rfl, q _ hf⟩
  exact ⟨z, us, r, ⟨_, Heap.get?_push_size _ rfl, rfl, _, rfl⟩⟩
theorem pe_lst (h : PA X es t) : PE X (.List es pos) (tLst t) := by
  intro pins s σ H Q I hq
  refine wpAny_List_spliced (thn (h pos pins s σ H _ I hq) fun us s1 ⟨xs, H1, I1, r, z, q⟩ => ⟨by rw [← r.length]; exact z, ?_⟩)
  have hf : H1 s1.heap.objs.size = none := I1.hok.fresh (Nat.le_refl _)
  refine ⟨.ref s1.heap.objs.size, upd H1 s1.heap.objs.size (.lst xs), I1.laid (t' := s1.toks) (fun b u e => Heap.get?_push_of_some _ e) (Nat.le_refl _) ?_, rfl, q _ hf⟩
  exact ⟨z, us, 0, r, Heap.get?_push_size _ rfl⟩
end

/-! ### what a def promises -/
/-- a def's promise: the bound arguments in the parameters' order, the heap, the wanted end, the wanted exception -/
abbrev Sp := List V → Hp → VK → XK → Prop
/-- how an exception lies behind a call (file 08 gives it): the callers' frames, abstract heap and state ahead of the call, the wish, the exception, the state -/
abbrev CXT := List Env → Hp → Shared → XK → Value → Shared → Prop

/-- the state at a call -/
structure Env0 (P : Program) (w : World) (K : PySem.W.Frag) (mg : Str → Option Value) (base : Heap) (A : Around) (outer : List Env) (s : Shared) (H : Hp) : Prop where
  frames : A.frames = some outer
  mod : Mod K mg base
  bs : ∀ b o, base.get? b = some o → s.heap.get? b = some o ∧ H b = none
  bsz : base.objs.size ≤ s.heap.objs.size
  funs : s.heap.FunFrames base outer
  frf : ∀ b ∈ frs outer, H b = none
  hok : HOk P w H s.heap
  bare : AllBare s.gens
/-- a call's end -/
def CE (outer : List Env) (P : Program) (w : World) (H : Hp) (s : Shared) (Q : VK) (u : Value) (s' : Shared) : Prop :=
  ∃ v H', s'.os = s.os ∧ AllBare s'.gens ∧ Un (frs outer) [] H H' s.heap s'.heap ∧ HOk P w H' s'.heap ∧ RelV v u ∧ Q v H'
def CR (CX : CXT) (outer : List Env) (P : Program) (w : World) (H : Hp) (s : Shared) (Q : VK) (E : XK) (r : Result) (s' : Shared) : Prop :=
  match r with
  | .ok (.ret u) => CE outer P w H s Q u s'
  | .ok _ => False
  | .error e => CX outer H s E e s'
structure FnOk (P : Program) (w : World) (K : PySem.W.Frag) (mg : Str → Option Value) (base : Heap) (CX : CXT) (k : Nat) (f : Addr) (fd : FuncData) (ps : List Str) (sp : Sp) : Prop where
  len : ∀ vs H Q E, sp vs H Q E → vs.length = ps.length
  run : ∀ (A : Around) (outer : List Env) (s : Shared) (H : Hp) (args : Args) (us : List Value) (vs : List V) (Q : VK) (E : XK), Room k A → Env0 P w K mg base A outer s H → BindsTo s fd args (ps.zip us) → Vals vs us → sp vs H Q E →
    codeAny (model P w) A (.call (.ref f) args) (CR CX outer P w H s Q E) s
theorem FnOk.mono {P : Program} {w : World} {K : PySem.W.Frag} {mg : Str → Option Value} {base : Heap} {CX : CXT} {j k : Nat} {f : Addr} {fd : FuncData} {ps : List Str} {sp : Sp} (F : FnOk P w K mg base CX j f fd ps sp) (h : j ≤ k) :
    FnOk P w K mg base CX k f fd ps sp := ⟨F.len, fun A outer s H args us vs Q E hr => F.run A outer s H args us vs Q E (hr.mono h)⟩
theorem Env0.make {P : Program} {w : World} {K : PySem.W.Frag} {mg : Str → Option Value} {base : Heap} {A : Around} {outer : List Env} {s : Shared} {H : Hp} (e : Env0 P w K mg base A outer s H) (C : Addr) (us : List Value) (kw : List (Str × Value)) :
    Env0 P w K mg base (A.under (.builtin "type.__call__" ⟨.ref C :: us, kw⟩)) outer s H := ⟨by first | exact e.frames | (simpa [Around.under, Code.envs, Code.isFrame, pushEnvs] using e.frames), e.mod, e.bs, e.bsz, e.funs, e.frf, e.hok, e.bare⟩
section
variable {X : Cx} {pins : List (Addr × Obj)} {σ : St} {H : Hp} {s s' : Shared}
/-- from a body: what a callee wants -/
theorem Inv.env0 (I : Inv X pins σ H s) : Env0 X.prog X.w X.K X.mg X.base X.A X.stack s H :=
  ⟨I.ok.frames, I.ok.mod, I.bs, Nat.le_trans I.ok.bsz I.sz, I.stack, I.stkFree, I.hok, I.bare⟩
/-- behind a call -/
theorem Inv.after {Q : VK} {u : Value} (I : Inv X pins σ H s) (h : CE X.stack X.prog X.w H s Q u s') : EP X pins σ Q u s' := by
  obtain ⟨v, H', os, bare, un, hok, r, q⟩ := h
  obtain ⟨hh, g, d, t, os'⟩ := s'
  obtain rfl : os' = s.os := os
  exact ⟨v, H', I.call (h' := hh) (g' := g) (d' := d) (t' := t) (ch := []) un hok bare (fun b z => absurd z (by simp)), r, q⟩
end

/-! ### calls -/
/-- f(..): the written arguments, then the defaults dvs; E: what is wanted of an exception -/
def tCall (sp : Sp) (dvs : List V) (E : XK) (t : TA) : TE := fun σ H Q => t σ H fun vs H1 => sp (vs ++ dvs) H1 Q E
/-- o.m(..) of an instance of the class at C -/
def tMeth (C : Addr) (m : Str) (sp : Sp) (dvs : List V) (E : XK) (ta : TE) (t : TA) : TE := fun σ H Q => ta σ H fun x H1 => ∃ a dx fs, x = .ref a ∧ H1 a = some (.ins C dx fs) ∧ fs.lookup m = none ∧
  t σ H1 fun vs H2 => sp (x :: (vs ++ dvs)) H2 Q E
/-- C(..): a new instance and its dict, then __init__ -/
def tMake (C : Addr) (sp : Sp) (dvs : List V) (E : XK) (t : TA) : TE := fun σ H Q => t σ H fun vs H1 => ∀ x dx, H1 x = none → H1 dx = none → dx ≠ x →
  sp (.ref x :: (vs ++ dvs)) (upd (upd H1 dx (.own x)) x (.ins C dx [])) (fun v H2 => v = .non ∧ Q (.ref x) H2) E

/-- how the parameters are bound: us the positional arguments, kw the keywords' values by name, ds the defaults that fill up -/
def Binds (K : PySem.W.Frag) (fd : FuncData) (ps : List Str) (ds : List Value) : Prop :=
  ∀ (s : Shared) (us : List Value), K.In s.heap → (us ++ ds).length = ps.length → BindsTo s fd ⟨us, []⟩ (ps.zip (us ++ ds))
/-- every parameter is given -/
theorem Binds.all {K : PySem.W.Frag} {fd : FuncData} {ps : List Str} (h : ∀ us : List Value, us.length = ps.length → bindArgs fd ⟨us, []⟩ = pure (ps.zip us)) : Binds K fd ps [] := fun s us _ hl => by
  rw [List.append_nil] at hl ⊢
  exact .of_eq (h us hl)

/-- an exception of a callee reaches what this body wants of exceptions -/
def Passes (CX : CXT) (X : Cx) (E : XK) : Prop := ∀ (pins : List (Addr × Obj)) (σ : St) (H : Hp) (s : Shared) (e : Value) (s' : Shared), Inv X pins σ H s → CX X.stack H s E e s' → X.xe e s'

section
variable {X : Cx} {CX : CXT} {k : Nat} {f C : Addr} {fd : FuncData} {ps : List Str} {sp : Sp} {dvs : List V} {ds : List Value} {E : XK} {x m : Str} {p pos apos : Pos} {e o : Expr} {es : List Expr} {ta : TE} {t : TA}

/-- the callee runs -/
theorem run_fn {pins : List (Addr × Obj)} {σ : St} {H : Hp} {s : Shared} {Q : VK} {us : List Value} {vs : List V} (F : FnOk X.prog X.w X.K X.mg X.base CX k f fd ps sp) (hr : Room k X.A) (hb : Binds X.K fd ps ds) (hd : Vals dvs ds) (hx : Passes CX X E)
    (I : Inv X pins σ H s) (r : Vals vs us) (h : sp (vs ++ dvs) H Q E) : wpAny (model X.prog X.w) X.A (call (.ref f) us) (EP X pins σ Q) X.xe s := by
  have r2 : Vals (vs ++ dvs) (us ++ ds) := r.append hd
  have hl : (us ++ ds).length = ps.length := by rw [← r2.length]; exact F.len _ _ _ _ h
  refine wpAny_call (codeAny_mono (F.run X.A X.stack s H ⟨us, []⟩ (us ++ ds) (vs ++ dvs) Q E hr I.env0 (hb s us I.kIn hl) r2 h) fun r s' hq => ?_)
  cases r with
  | error e => exact hx pins σ H s e s' I hq
  | ok fl =>
    cases fl with
    | ret u => exact I.after hq
    | next => exact False.elim hq
    | brk => exact False.elim hq
    | cont => exact False.elim hq

theorem pe_call (F : FnOk X.prog X.w X.K X.mg X.base CX k f fd ps sp) (hr : Room k X.A) (hg : Gl X x) (hm : X.mg x = some (.ref f)) (hk : PySem.W.keepIn X.K (.ref f) = true) (hb : Binds X.K fd ps ds) (hd : Vals dvs ds) (hx : Passes CX X E)
    (ha : PA X (e :: es) t) (hdb : (x == ("__debug__" : Str)) = false := by decide) (he : starEach (e :: es) X.env = (false, eval e X.env) :: starEach es X.env := by rfl) (hpl : (backTo pos (starEach es X.env)).any (·.1) = false := by rfl) :
    PE X (.Call (.Name x p) (e :: es) [] pos) (tCall sp dvs E t) := by
  intro pins s σ H Q I h
  refine wpAny_Call_Name_kw (ld_glob I hg hm ?_ hdb)
  refine PySem.W.callWith_K (h₀ := X.base) I.ok.mod.kin hk (thn (ha pos pins s σ H _ I h) fun us s1 ⟨vs, H1, I1, r, q⟩ => ⟨I1.kIn, ?_⟩) he hpl
  exact run_fn F hr hb hd hx I1 r q
theorem pe_call0 (F : FnOk X.prog X.w X.K X.mg X.base CX k f fd ps sp) (hr : Room k X.A) (hg : Gl X x) (hm : X.mg x = some (.ref f)) (hk : PySem.W.keepIn X.K (.ref f) = true) (hb : Binds X.K fd ps ds) (hd : Vals dvs ds) (hx : Passes CX X E)
    (hdb : (x == ("__debug__" : Str)) = false := by decide) : PE X (.Call (.Name x p) [] [] pos) (tCall sp dvs E tNil) := by
  intro pins s σ H Q I h
  refine wpAny_Call_Name_kw (ld_glob I hg hm ?_ hdb)
  exact PySem.W.callWith_K0 I.kIn hk (run_fn (us := []) F hr hb hd hx I .nil h)

/-- o.m(e, ..) -/
theorem pe_meth {pl : Sem Bool} (he : PE X o ta) (c : Cls X.K C) (hm : Meth X.K C m f) (F : FnOk X.prog X.w X.K X.mg X.base CX k f fd ps sp) (hr : Room k X.A) (hb : Binds X.K fd ps ds) (hd : Vals dvs ds) (hx : Passes CX X E) (ha : PA X (e :: es) t)
    (hst : starEach (e :: es) X.env = (false, eval e X.env) :: starEach es X.env := by rfl) (hpl : (backTo pos (starEach es X.env)).any (·.1) = false := by rfl)
    (ht : eval (.Call (.Attribute o m apos) (e :: es) [] pos) X.env = (do
      let ov ← eval o X.env
      standAt apos.atName
      let (f, first) ← holding [ov] (getMethod ov m pl)
      callWith pos f first (backTo pos (starEach (e :: es) X.env)) (backToKw pos (keywordEach [] X.env))) := by rfl) :
    PE X (.Call (.Attribute o m apos) (e :: es) [] pos) (tMeth C m sp dvs E ta t) := by
  intro pins s σ H Q I h
  refine PySem.W.methodCall_KW (pl := pl) (thn (he pins s σ H _ I h) fun u s1 ⟨x, H1, I1, rx, a, dx, fs, ex, ea, l, q⟩ => ?_) ht
  subst ex
  obtain rfl : u = Value.ref a := rx
  refine getmeth_ok I1 ea c hm l ?_
  refine PySem.W.callWith_K (first := [.ref a]) (h₀ := X.base) I.ok.mod.kin hm.kp (thn (ha pos pins s1 σ H1 _ I1 q) fun us s2 ⟨vs, H2, I2, r, q2⟩ => ⟨I2.kIn, ?_⟩) hst hpl
  exact run_fn (us := .ref a :: us) (vs := .ref a :: vs) F hr hb hd hx I2 (.cons rfl r) q2
/-- o.m() -/
theorem pe_meth0 {pl : Sem Bool} (he : PE X o ta) (c : Cls X.K C) (hm : Meth X.K C m f) (F : FnOk X.prog X.w X.K X.mg X.base CX k f fd ps sp) (hr : Room k X.A) (hb : Binds X.K fd ps ds) (hd : Vals dvs ds) (hx : Passes CX X E)
    (ht : eval (.Call (.Attribute o m apos) [] [] pos) X.env = (do
      let ov ← eval o X.env
      standAt apos.atName
      let (f, first) ← holding [ov] (getMethod ov m pl)
      callWith pos f first (backTo pos (starEach [] X.env)) (backToKw pos (keywordEach [] X.env))) := by rfl) :
    PE X (.Call (.Attribute o m apos) [] [] pos) (tMeth C m sp dvs E ta tNil) := by
  intro pins s σ H Q I h
  refine PySem.W.methodCall_KW (pl := pl) (thn (he pins s σ H _ I h) fun u s1 ⟨x, H1, I1, rx, a, dx, fs, ex, ea, l, q⟩ => ?_) ht
  subst ex
  obtain rfl : u = Value.ref a := rx
  refine getmeth_ok I1 ea c hm l ?_
  exact PySem.W.callWith_K0 (first := [.ref a]) I1.kIn hm.kp (run_fn (us := [.ref a]) (vs := [.ref a]) F hr hb hd hx I1 (.cons rfl .nil) q)

/-- what a class must have to be made -/
structure Mk (K : PySem.W.Frag) (C f : Addr) : Prop where
  makes : PySem.W.makesIn K C = true
  init : PySem.W.findIn K (.ref C) "__init__" = some (some (.ref f))
  fn : PySem.W.isFn K (.ref f) = true
  kp : PySem.W.keepIn K (.ref C) = true

theorem run_make {pins : List (Addr × Obj)} {σ : St} {H : Hp} {s : Shared} {Q : VK} {us : List Value} {vs : List V} (M : Mk X.K C f) (F : FnOk X.prog X.w X.K X.mg X.base CX k f fd ps sp) (hr : Room (k + 1) X.A) (hb : Binds X.K fd ps ds) (hd : Vals dvs ds)
    (hx : Passes CX X E) (I : Inv X pins σ H s) (r : Vals vs us)
    (h : ∀ x dx, H x = none → H dx = none → dx ≠ x → sp (.ref x :: (vs ++ dvs)) (upd (upd H dx (.own x)) x (.ins C dx [])) (fun v H2 => v = .non ∧ Q (.ref x) H2) E) :
    wpAny (model X.prog X.w) X.A (call (.ref C) us) (EP X pins σ Q) X.xe s := by
  have hq := h (s.heap.objs.size + 1) s.heap.objs.size (I.hok.fresh (Nat.le_succ _)) (I.hok.fresh (Nat.le_refl _)) (Nat.ne_of_lt (Nat.lt_succ_self _))
  have I2 := Inv.made (C := C) I
  have r2 : Vals (V.ref (s.heap.objs.size + 1) :: (vs ++ dvs)) (Value.ref (s.heap.objs.size + 1) :: (us ++ ds)) := .cons rfl (r.append hd)
  have hl : (Value.ref (s.heap.objs.size + 1) :: us ++ ds).length = ps.length := by
    have e := r2.length
    rw [F.len _ _ _ _ hq] at e
    exact e.symm
  refine wpAny_call (make_map (f := f) I.kIn M.makes M.init (beq_iff_eq.mp M.fn) (codeAny_mono (F.run _ X.stack _ _ ⟨Value.ref (s.heap.objs.size + 1) :: us, []⟩ (Value.ref (s.heap.objs.size + 1) :: (us ++ ds)) _ _ E (hr.make C us [])
    (I2.env0.make C us []) (hb _ (Value.ref (s.heap.objs.size + 1) :: us) I2.kIn hl) r2 hq) fun r s' hq' => ?_))
  cases r with
  | error e => exact hx pins σ _ _ e s' I2 hq'
  | ok fl =>
    cases fl with
    | ret u =>
      obtain ⟨v, H', I3, rv, ev, q3⟩ := I2.after hq'
      subst ev
      exact ⟨rv, ⟨V.ref (s.heap.objs.size + 1), H', I3, rfl, q3⟩⟩
    | next => exact False.elim hq'
    | brk => exact False.elim hq'
    | cont => exact False.elim hq'
theorem pe_make (M : Mk X.K C f) (F : FnOk X.prog X.w X.K X.mg X.base CX k f fd ps sp) (hr : Room (k + 1) X.A) (hg : Gl X x) (hm : X.mg x = some (.ref C)) (hb : Binds X.K fd ps ds) (hd : Vals dvs ds) (hx : Passes CX X E)
    (ha : PA X (e :: es) t) (hdb : (x == ("__debug__" : Str)) = false := by decide) (he : starEach (e :: es) X.env = (false, eval e X.env) :: starEach es X.env := by rfl) (hpl : (backTo pos (starEach es X.env)).any (·.1) = false := by rfl) :
    PE X (.Call (.Name x p) (e :: es) [] pos) (tMake C sp dvs E t) := by
  intro pins s σ H Q I h
  refine wpAny_Call_Name_kw (ld_glob I hg hm ?_ hdb)
  refine PySem.W.callWith_K (h₀ := X.base) I.ok.mod.kin M.kp (thn (ha pos pins s σ H _ I h) fun us s1 ⟨vs, H1, I1, r, q⟩ => ⟨I1.kIn, ?_⟩) he hpl
  exact run_make M F hr hb hd hx I1 r q
theorem pe_make0 (M : Mk X.K C f) (F : FnOk X.prog X.w X.K X.mg X.base CX k f fd ps sp) (hr : Room (k + 1) X.A) (hg : Gl X x) (hm : X.mg x = some (.ref C)) (hb : Binds X.K fd ps ds) (hd : Vals dvs ds) (hx : Passes CX X E)
    (hdb : (x == ("__debug__" : Str)) = false := by decide) : PE X (.Call (.Name x p) [] [] pos) (tMake C sp dvs E tNil) := by
  intro pins s σ H Q I h
  refine wpAny_Call_Name_kw (ld_glob I hg hm ?_ hdb)
  exact PySem.W.callWith_K0 I.kIn M.kp (run_make (us := []) M F hr hb hd hx I .nil h)
end

/-! ### keywords -/
section
variable {X : Cx} {CX : CXT} {k : Nat} {f C : Addr} {fd : FuncData} {ps ks : List Str} {sp : Sp} {E : XK} {x m : Str} {p pos apos kpos : Pos} {e o : Expr} {es : List Expr} {kws : List Keyword} {te ta : TE} {t tk : TA} {nm : Option Str}
/-- how a call with keywords binds: g puts the positional values us and the keywords' values ws (names ks) in the parameters' order, defaults among them -/
structure KBinds (K : PySem.W.Frag) (fd : FuncData) (ps ks : List Str) (g : List Value → List Value → List Value) (gV : List V → List V → List V) : Prop where
  to : ∀ (s : Shared) (us ws : List Value), K.In s.heap → (g us ws).length = ps.length → BindsTo s fd ⟨us, ks.zip ws⟩ (ps.zip (g us ws))
  rel : ∀ {vs : List V} {us : List Value} {zs : List V} {ws : List Value}, Vals vs us → Vals zs ws → Vals (gV vs zs) (g us ws)
variable {g : List Value → List Value → List Value} {gV : List V → List V → List V}
end

/-! ### a def's body keeps its promise -/
/-- names: the parameters first -/
structure FnScope (N P : List Str) (sc : Scope) : Prop where
  kind : sc.kind = .function
  co : sc.isCoroutine = false
  gen : sc.isGenerator = false
  nd : N.Nodup
  pre : N.take P.length = P
  par : ∀ x ∈ P, sc.names.lookup x = some .local ∨ sc.names.lookup x = some .cell
  nofree : ∀ y ∈ sc.names, y.2 ≠ .free

theorem bindL_out {kindOf : Str → Option NameKind} {x : Str} : ∀ {binds : List (Str × Value)} {m : Str → Option Value}, (∀ v, (x, v) ∉ binds) → bindL kindOf binds m x = m x
  | [], _, _ => rfl
  | (n, v) :: r, m, h => by
    unfold bindL
    rw [bindL_out fun w hw => h w (List.mem_cons_of_mem _ hw)]
    split
    · have : x ≠ n := by rintro rfl; exact h v List.mem_cons_self
      simp [this]
    · rfl
theorem bindC_out {kindOf : Str → Option NameKind} {x : Str} : ∀ {binds : List (Str × Value)} {m : Str → Option Value}, (∀ v, (x, v) ∉ binds) → bindC kindOf binds m x = m x
  | [], _, _ => rfl
  | (n, v) :: r, m, h => by
    unfold bindC
    rw [bindC_out fun w hw => h w (List.mem_cons_of_mem _ hw)]
    split
    · rfl
    · have : x ≠ n := by rintro rfl; exact h v List.mem_cons_self
      simp [this]
theorem bindL_get {kindOf : Str → Option NameKind} {x : Str} {v : Value} : ∀ {P : List Str} {vs : List Value} {i : Nat} {m : Str → Option Value}, P.Nodup → P[i]? = some x → vs[i]? = some v → kindOf x = some .local →
    bindL kindOf (P.zip vs) m x = some v
  | [], _, _, _, _, h, _, _ => by simp at h
  | _ :: _, [], _, _, _, _, h, _ => by simp at h
  | p :: P, w :: vs, 0, m, nd, h1, h2, hk => by
    simp at h1 h2; subst h1; subst h2
    show bindL kindOf ((p, w) :: P.zip vs) m p = _
    unfold bindL
    rw [bindL_out fun v hv => (List.nodup_cons.mp nd).1 (List.of_mem_zip hv).1, if_pos hk]
    simp
  | p :: P, w :: vs, i + 1, m, nd, h1, h2, hk => by
    show bindL kindOf ((p, w) :: P.zip vs) m x = _
    unfold bindL
    exact bindL_get (i := i) (List.nodup_cons.mp nd).2 (by simpa using h1) (by simpa using h2) hk
theorem bindC_get {kindOf : Str → Option NameKind} {x : Str} {v : Value} : ∀ {P : List Str} {vs : List Value} {i : Nat} {m : Str → Option Value}, P.Nodup → P[i]? = some x → vs[i]? = some v → kindOf x ≠ some .local →
    bindC kindOf (P.zip vs) m x = some v
  | [], _, _, _, _, h, _, _ => by simp at h
  | _ :: _, [], _, _, _, _, h, _ => by simp at h
  | p :: P, w :: vs, 0, m, nd, h1, h2, hk => by
    simp at h1 h2; subst h1; subst h2
    show bindC kindOf ((p, w) :: P.zip vs) m p = _
    unfold bindC
    rw [bindC_out fun v hv => (List.nodup_cons.mp nd).1 (List.of_mem_zip hv).1, if_neg hk]
    simp
  | p :: P, w :: vs, i + 1, m, nd, h1, h2, hk => by
    show bindC kindOf ((p, w) :: P.zip vs) m x = _
    unfold bindC
    exact bindC_get (i := i) (List.nodup_cons.mp nd).2 (by simpa using h1) (by simpa using h2) hk

/-- the names' values at the entry -/
def start (N : List Str) (vs : List V) : St := vs.map some ++ List.replicate (N.length - vs.length) none

/-- the context of a def's body, at its entry; an exception leaves the frame, then lies as CX says -/
def cxOf (CX : CXT) (P : Program) (w : World) (K : PySem.W.Frag) (mg : Str → Option Value) (base : Heap) (N : List Str) (qual : Str) (scope : Scope) (f : Addr) (cd : Value) (A : Around) (outer : List Env) (s : Shared) (H : Hp) (E : XK) : Cx where
  prog := P
  w := w
  K := K
  mg := mg
  base := base
  A := A.deeper (envOfC qual scope s.heap.objs.size f cd)
  N := N
  s₀ := s
  H₀ := H
  env := envOfC qual scope s.heap.objs.size f cd
  outer := outer
  stack := envOfC qual scope s.heap.objs.size f cd :: outer
  ex := []
  calm := true
  fn := fun _ => true
  pn := []
  xe := fun e s' => wpAny (model P w) (A.deeper (envOfC qual scope s.heap.objs.size f cd)) (leaving (envOfC qual scope s.heap.objs.size f cd) e) (fun _ s'' => CX outer H s E e s'') (fun e' s'' => CX outer H s E e' s'') s'

theorem cell_has {sc : Scope} {n : Nat} {x : Str} (h : sc.names.lookup x = some .cell) : ∃ c, (cellsFrom n sc.names []).lookup x = some c := by
  have q := PySem.W.cellsFrom_some sc.names n [] (.inl h)
  exact Option.isSome_iff_exists.mp q

theorem inv_start {CX : CXT} {P : Program} {w : World} {K : PySem.W.Frag} {mg : Str → Option Value} {base : Heap} {N ps : List Str} {qual : Str} {scope : Scope} {f : Addr} {cd : Value} {A : Around} {outer : List Env} {s s1 : Shared} {H : Hp} {E : XK} {us : List Value} {vs : List V}
    (S : FnScope N ps scope) (hd : A.handled = none) (e0 : Env0 P w K mg base A outer s H) (hl : vs.length = ps.length) (r : Vals vs us)
    (x : InCallC s s.heap.objs.size (bindL (envOfC qual scope s.heap.objs.size f cd).kindOf (ps.zip us) fun _ => none) (cellsFrom (s.heap.objs.size + 1) scope.names []) (bindC (envOfC qual scope s.heap.objs.size f cd).kindOf (ps.zip us) fun _ => none) s1) :
    Inv (cxOf CX P w K mg base N qual scope f cd A outer s H E) [] (start N vs) H s1 := by
  have hpl : ps.length ≤ N.length := by have := congrArg List.length S.pre; rw [List.length_take] at this; omega
  obtain ⟨h1, tk, rfl, hk⟩ := x.done
  have noA : ∀ b : Addr, b ∉ (cxOf CX P w K mg base N qual scope f cd A outer s H E).ex := fun b z => absurd (show b ∈ ([] : List Addr) from z) (by simp)
  refine ⟨⟨e0.mod, S.kind, rfl, rfl, Nat.le_refl _, fun y z c h1 h2 => ?_, fun y hy => ?_, fun y c _ h => ?_, fun _ => hd, Around.frames_deeper e0.frames, .inr ⟨rfl, rfl⟩, fun b z => absurd z (noA b), e0.bs, e0.bsz, fun b _ _ => noA b, fun b z => absurd z (noA b), e0.funs, e0.frf⟩,
    rfl, e0.bare, Un.kept hk, ⟨_, x.toInCall.ns, fun i y v h1 h2 h3 => ?_⟩, fun y c h => ⟨_, x.cell y c h⟩, e0.hok.fresh (Nat.le_refl _), fun y c h => ?_, fun p hp => absurd (show p ∈ ([] : List (Addr × Obj)) from hp) (by simp), e0.hok.kept hk, ?_⟩
  · exact name_of_addr x.apart (PySem.mem_of_lookup h1) (PySem.mem_of_lookup h2)
  · have hy : scope.names.lookup y = some .cell ∨ scope.names.lookup y = some .free := hy
    rcases hy with hy | hy
    · exact cell_has hy
    · exact absurd rfl (S.nofree _ (PySem.mem_of_lookup hy))
  · exact Nat.le_of_lt (x.above y c (PySem.mem_of_lookup h))
  · have hi : i < vs.length := by
      unfold start at h2
      by_cases hi : i < vs.length
      · exact hi
      · rw [List.getElem?_append_right (by simpa using hi)] at h2
        rw [List.getElem?_replicate] at h2
        split at h2 <;> cases h2
    have ha : vs[i]? = some v := by
      unfold start at h2
      rw [List.getElem?_append_left (by simpa using hi), List.getElem?_map] at h2
      cases e : vs[i]? with
      | none => rw [e] at h2; cases h2
      | some a => rw [e] at h2; cases h2; rfl
    obtain ⟨u, hu, rv⟩ := r.get ha
    have hp : ps[i]? = some y := by
      rw [← S.pre, List.getElem?_take_of_lt (by omega)]; exact h1
    have ndP : ps.Nodup := by rw [← S.pre]; exact S.nd.sublist (List.take_sublist _ _)
    refine ⟨u, rv, ?_⟩
    rcases S.par y (List.mem_of_getElem? hp) with k | k
    · exact .inl ⟨k, bindL_get ndP hp hu k⟩
    · obtain ⟨c, e⟩ := cell_has (n := s.heap.objs.size + 1) k
      refine .inr ⟨.inl k, c, e, ?_⟩
      have q := x.cell y c e
      rw [bindC_get ndP hp hu (by show scope.names.lookup y ≠ _; rw [k]; decide)] at q
      exact q
  · exact e0.hok.fresh (Nat.le_of_lt (x.above y c (PySem.mem_of_lookup h)))
  · unfold start
    show _ = N.length
    rw [List.length_append, List.length_map, List.length_replicate]
    omega

/-- THE RULE: a def (or a method) of the text, by its body. The body's reading t is chosen for each entry; it is run at the parameters' values -/
theorem fn_of {CX : CXT} {P : Program} {w : World} {K : PySem.W.Frag} {mg : Str → Option Value} {base : Heap} {k : Nat} {f : Addr} {name qual : Str} {params : Arguments} {body : List Stmt} {scope : Scope} {dV kV doc pm cdv ct oc : Value} {an od : Option Addr}
    {osl : Array (Option Value)} {N ps : List Str} {sp : Sp} (lk : K.lookup f = some ⟨oc, od, .func (PySem.W.fnOf name qual params body scope dV kV doc pm an cdv ct), osl⟩) (hcd : PySem.W.codeIn K cdv qual = true) (S : FnScope N ps scope)
    (len : ∀ vs H Q E, sp vs H Q E → vs.length = ps.length)
    (hbody : ∀ (A : Around) (outer : List Env) (s : Shared) (H : Hp) (vs : List V) (Q : VK) (E : XK), Room k (A.deeper (envOfC qual scope s.heap.objs.size f cdv)) → sp vs H Q E →
      ∃ t, PSs (cxOf CX P w K mg base N qual scope f cdv A outer s H E) body t ∧ t { nx := fun _ H' => Q .non H', rt := Q } (start N vs) H) :
    FnOk P w K mg base CX (k + 1) f (PySem.W.fnOf name qual params body scope dV kV doc pm an cdv ct) ps sp := by
  refine ⟨len, fun A outer s H args us vs Q E hr e0 hb r hsp => ?_⟩
  have hl := len _ _ _ _ hsp
  have KX : K.In s.heap := e0.mod.kin.keeps fun b o e => (e0.bs b o e).1
  have lim : s.heap.NoLimit := e0.mod.nolimit.keeps fun b o e => (e0.bs b o e).1
  have hkind : ∀ y ∈ ps.zip us, scope.names.lookup y.1 = some .local ∨ (scope.names.lookup y.1 = some .cell ∧ ((cellsFrom (s.heap.objs.size + 1) scope.names []).lookup y.1).isSome = true) := fun ⟨n, v⟩ hy => by
    rcases S.par n (List.of_mem_zip hy).1 with q | q
    · exact .inl q
    · exact .inr ⟨q, PySem.W.cellsFrom_some _ _ _ (.inl q)⟩
  refine codeAny_call_function hr.depth (KX _ _ lk) rfl S.co S.gen rfl (PySem.W.codeRec_of KX hcd) (hb _ _ _ _ ?_)
  refine wpAny_newFunctionEnv_cells S.kind hkind fun env he s1 x => ?_
  subst he
  refine ⟨lim.keeps x.toInCall.keep, codeAny_func ?_⟩
  obtain ⟨t, ht, hq⟩ := hbody A outer s H vs Q E (hr.deeper _) hsp
  have I : Inv (cxOf CX P w K mg base N qual scope f cdv A outer s H E) [] (start N vs) H s1 := inv_start S hr.hd e0 hl r x
  refine wpAny_mono (ht [] s1 (start N vs) H _ I hq) (fun fl s' hs => ?_) fun e s' hs => hs
  have fin : ∀ {σ' : St} {H' : Hp} {v : V} {u : Value}, Inv (cxOf CX P w K mg base N qual scope f cdv A outer s H E) [] σ' H' s' → RelV v u → Q v H' → CE outer P w H s Q u s' :=
    fun {σ' H' v u} J rv q => ⟨v, H', J.os, J.bare, J.base, J.hok, rv, q⟩
  cases fl with
  | ret u =>
    obtain ⟨v, σ', H', J, rv, q⟩ := hs
    exact fin J rv q
  | next =>
    obtain ⟨σ', H', J, q⟩ := hs
    exact fin (v := V.non) (u := Value.none) J rfl q
  | brk =>
    obtain ⟨_, _, _, q⟩ := hs
    exact False.elim q
  | cont =>
    obtain ⟨_, _, _, q⟩ := hs
    exact False.elim q
end L2

namespace L2
open PySem PySem.Spec PyProof.Rows
section
variable {X : Cx} {x : Str} {p pos : Pos} {e : Expr} {es : List Expr} {t : TA} {id T : String} {r : List V → Hp → VK → Prop}

def tCB (r : List V → Hp → VK → Prop) (t : TA) : TE := fun σ H Q => t σ H fun vs H1 => r vs H1 Q
/-- f(e, ..), f a built-in function -/
theorem pe_callB (hc : CallR X (.builtin id) r) (hg : Gl X x) (hm : X.mg x = none) (hv : bootBuiltins x = some (.builtin id)) (ha : PA X (e :: es) t) (hn : x ≠ "__name__" := by decide) (hdb : (x == ("__debug__" : Str)) = false := by decide)
    (he : starEach (e :: es) X.env = (false, eval e X.env) :: starEach es X.env := by rfl) (hpl : (backTo pos (starEach es X.env)).any (·.1) = false := by rfl) : PE X (.Call (.Name x p) (e :: es) [] pos) (tCB r t) := by
  intro pins s σ H Q I h
  refine wpAny_Call_Name_kw (ld_blt I hg hm hv ?_ hn hdb)
  exact PyProof.Rows.callWith_builtin1 (thn (ha pos pins s σ H _ I h) fun us s1 ⟨vs, H1, I1, r1, q1⟩ => hc pins s1 σ H1 vs us Q I1 r1 q1) he hpl
/-- T(e, ..), T a built-in type -/
theorem pe_callTy (hc : CallR X (.type T) r) (hg : Gl X x) (hm : X.mg x = none) (hv : bootBuiltins x = some (.type T)) (ha : PA X (e :: es) t) (hn : x ≠ "__name__" := by decide) (hdb : (x == ("__debug__" : Str)) = false := by decide)
    (he : starEach (e :: es) X.env = (false, eval e X.env) :: starEach es X.env := by rfl) (hpl : (backTo pos (starEach es X.env)).any (·.1) = false := by rfl) : PE X (.Call (.Name x p) (e :: es) [] pos) (tCB r t) := by
  intro pins s σ H Q I h
  refine wpAny_Call_Name_kw (ld_blt I hg hm hv ?_ hn hdb)
  exact PyProof.Rows.callWith_type1 (thn (ha pos pins s σ H _ I h) fun us s1 ⟨vs, H1, I1, r1, q1⟩ => hc pins s1 σ H1 vs us Q I1 r1 q1) he hpl
end
end L2

namespace L2
open PySem PySem.Spec PyProof.Rows

/-! ### lists of pairs as tables -/
section
variable {κ : Type} [DecidableEq κ]
def valV (kvs : List (κ × V)) (k : κ) : Option V := (kvs.find? fun kv => decide (kv.1 = k)).map (·.2)
/-- in its place, or at the end -/
def putK (kvs : List (κ × V)) (k : κ) (v : V) : List (κ × V) :=
  if (kvs.any fun kv => decide (kv.1 = k)) = true then kvs.map (fun kv => if kv.1 = k then (kv.1, v) else kv) else kvs ++ [(k, v)]
theorem valV_pos {p : κ × V} {r : List (κ × V)} {k : κ} (e : p.1 = k) : valV (p :: r) k = some p.2 := by simp [valV, List.find?_cons, e]
theorem valV_neg {p : κ × V} {r : List (κ × V)} {k : κ} (e : ¬ p.1 = k) : valV (p :: r) k = valV r k := by simp [valV, List.find?_cons, e]
theorem valV_any (k : κ) : ∀ kvs : List (κ × V), (kvs.any fun kv => decide (kv.1 = k)) = (valV kvs k).isSome
  | [] => rfl
  | p :: r => by
    rw [List.any_cons]
    by_cases e : p.1 = k
    · simp only [valV_pos e, decide_eq_true e, Bool.true_or, Option.isSome_some]
    · rw [valV_neg e, decide_eq_false e, Bool.false_or]; exact valV_any k r
theorem length_putK (kvs : List (κ × V)) (k : κ) (v : V) : (putK kvs k v).length ≤ kvs.length + 1 := by
  unfold putK
  split
  · rw [List.length_map]; omega
  · rw [List.length_append, List.length_cons, List.length_nil]; omega
theorem putK_new {kvs : List (κ × V)} {k : κ} (v : V) (h : valV kvs k = none) : putK kvs k v = kvs ++ [(k, v)] := by
  unfold putK
  rw [valV_any, h]
  exact if_neg (by decide)

theorem RelO.isSome_eq {o : Option V} {u : Option Value} (r : RelO o u) : o.isSome = u.isSome := by
  cases o with
  | none => cases u with
    | none => rfl
    | some _ => exact (show False from r).elim
  | some _ => cases u with
    | none => exact (show False from r).elim
    | some _ => rfl
/-- raw tables of the same keys -/
theorem KV.val {kvs : List (κ × V)} {vs : List (κ × Value)} (r : KV kvs vs) (k : κ) : RelO (valV kvs k) (valueAt vs k) := by
  unfold KV at r
  induction r with
  | nil => exact True.intro
  | @cons p q ps qs h t ih =>
    obtain ⟨h1, h2⟩ := h
    by_cases e : p.1 = k
    · have e' : q.1 = k := h1.symm.trans e
      have b : valueAt (q :: qs) k = some q.2 := by simp [valueAt, List.find?_cons, e']
      rw [valV_pos e, b]; exact h2
    · have e' : ¬ q.1 = k := fun z => e (h1.trans z)
      have b : valueAt (q :: qs) k = valueAt qs k := by simp [valueAt, List.find?_cons, e']
      rw [valV_neg e, b]; exact ih
theorem KV.any {kvs : List (κ × V)} {vs : List (κ × Value)} (r : KV kvs vs) (k : κ) : (kvs.any fun kv => decide (kv.1 = k)) = vs.any fun kv => decide (kv.1 = k) := by
  unfold KV at r
  induction r with
  | nil => rfl
  | cons h t ih => rw [List.any_cons, List.any_cons, ih, h.1]
theorem KV.repl {kvs : List (κ × V)} {vs : List (κ × Value)} (r : KV kvs vs) (k : κ) {y : V} {u : Value} (ry : RelV y u) :
    KV (kvs.map fun kv => if kv.1 = k then (kv.1, y) else kv) (vs.map fun kv => if kv.1 = k then (kv.1, u) else kv) := by
  unfold KV at r ⊢
  induction r with
  | nil => exact .nil
  | @cons p q ps qs h t ih =>
    rw [List.map_cons, List.map_cons]
    refine .cons ?_ ih
    obtain ⟨h1, h2⟩ := h
    by_cases e : p.1 = k
    · rw [if_pos e, if_pos (h1.symm.trans e)]; exact ⟨h1, ry⟩
    · rw [if_neg e, if_neg (fun z => e (h1.trans z))]; exact ⟨h1, h2⟩
theorem KV.put {kvs : List (κ × V)} {vs : List (κ × Value)} (r : KV kvs vs) (k : κ) {y : V} {u : Value} (ry : RelV y u) : KV (putK kvs k y) (stored vs k u) := by
  unfold putK stored
  rw [r.any k]
  by_cases e : (vs.any fun kv => decide (kv.1 = k)) = true
  · rw [if_pos e, if_pos e]; exact r.repl k ry
  · rw [if_neg e, if_neg e]; exact Paired.snoc r ⟨rfl, ry⟩
theorem KV.length {kvs : List (κ × V)} {vs : List (κ × Value)} (r : KV kvs vs) : kvs.length = vs.length := Paired.length r
end

/-! ### a tracked dict, its keys ints and texts or tuples of these -/
theorem kV_is {P : Program} {w : World} {k : Key} {u : Value} (r : RelV (kV k) u) : (mixKind P w).is k u = true := by
  cases k with
  | inl i => obtain ⟨t, e⟩ := (show ∃ t, u = Value.int i t from r); subst e; exact mixKind_int P w i t
  | inr x => obtain ⟨t, e⟩ := (show ∃ t, u = Value.str x t from r); subst e; exact mixKind_str P w x t
theorem items_are {P : Program} {w : World} : ∀ {ks : List Key} {us : List Value}, Vals (ks.map kV) us → ItemsAre (mixKind P w) ks us
  | [], _, r => by rw [List.map_nil] at r; cases r; exact .nil
  | k :: ks, _, r => by
    rw [List.map_cons] at r
    cases r with
    | cons h t => exact .cons (kV_is h) (items_are t)

/-- raw entries of a dict with tuple keys -/
abbrev KT (H : Hp) : List (List Key × V) → List (List Key × Addr × Value) → Prop := Paired fun p q => p.1 = q.1 ∧ H q.2.1 = some (.tup (p.1.map kV)) ∧ RelV p.2 q.2.2
theorem KT.val {H : Hp} {kvs : List (List Key × V)} {xs : List (List Key × Addr × Value)} (r : KT H kvs xs) (k : List Key) : RelO (valV kvs k) ((atKey xs k).map (·.2)) := by
  induction r with
  | nil => exact True.intro
  | @cons p q ps qs h t ih =>
    obtain ⟨h1, _, h2⟩ := h
    by_cases e : p.1 = k
    · have e' : q.1 = k := h1.symm.trans e
      have b : atKey (q :: qs) k = some q.2 := by simp [atKey, List.find?_cons, e']
      rw [valV_pos e, b]; exact h2
    · have e' : ¬ q.1 = k := fun z => e (h1.trans z)
      have b : atKey (q :: qs) k = atKey qs k := by simp [atKey, List.find?_cons, e']
      rw [valV_neg e, b]; exact ih
theorem KT.repl {H : Hp} {kvs : List (List Key × V)} {xs : List (List Key × Addr × Value)} (r : KT H kvs xs) (k : List Key) {y : V} {u : Value} (ry : RelV y u) :
    KT H (kvs.map fun kv => if kv.1 = k then (kv.1, y) else kv) (xs.map (putAt k u)) := by
  induction r with
  | nil => exact .nil
  | @cons p q ps qs h t ih =>
    rw [List.map_cons, List.map_cons]
    refine .cons ?_ ih
    obtain ⟨h1, h2, h3⟩ := h
    unfold putAt
    by_cases e : p.1 = k
    · rw [if_pos e, if_pos (h1.symm.trans e)]; exact ⟨h1, h2, ry⟩
    · rw [if_neg e, if_neg (fun z => e (h1.trans z))]; exact ⟨h1, h2, h3⟩
theorem KT.put {H : Hp} {kvs : List (List Key × V)} {xs : List (List Key × Addr × Value)} (r : KT H kvs xs) (k : List Key) {b : Addr} {y : V} {u : Value} (hb : H b = some (.tup (k.map kV))) (ry : RelV y u) :
    KT H (putK kvs k y) (storedH xs k b u) := by
  have e : (kvs.any fun kv => decide (kv.1 = k)) = (atKey xs k).isSome := by
    rw [valV_any, (r.val k).isSome_eq, Option.isSome_map]
  unfold putK storedH
  rw [e]
  by_cases q : (atKey xs k).isSome = true
  · rw [if_pos q, if_pos q]; exact r.repl k ry
  · rw [if_neg q, if_neg q]; exact Paired.snoc r ⟨rfl, hb, ry⟩
theorem KT.keeps {H H' : Hp} {kvs : List (List Key × V)} {xs : List (List Key × Addr × Value)} (r : KT H kvs xs) (ht : ∀ b ys, H b = some (.tup ys) → H' b = some (.tup ys)) : KT H' kvs xs :=
  Paired.mapP r fun _ _ z => ⟨z.1, ht _ _ z.2.1, z.2.2⟩

section
variable {P : Program} {w : World} {H : Hp} {h : Heap} {a : Addr}
theorem rd_of {u : HO} (ok : HOk P w H h) (e : Rd H a u) : ObjOk P w H h a u := e.ok ok
theorem dk_rd {kvs : List (Key × V)} (ok : HOk P w H h) (e : Rd H a (.dK kvs)) : kvs.length ≤ sizeLine ∧ (a == sysModules) = false ∧ ∃ vs, KV kvs vs ∧ h.DictOf (mixKind P w) a vs :=
  show ObjOk P w H h a (.dK kvs) from rd_of ok e
theorem dk_of {kvs : List (Key × V)} (ok : HOk P w H h) (e : H a = some (.dK kvs)) : kvs.length ≤ sizeLine ∧ (a == sysModules) = false ∧ ∃ vs, KV kvs vs ∧ h.DictOf (mixKind P w) a vs := dk_rd ok (.inl e)
/-- a tracked tuple of ints and texts is a key -/
theorem key_of {ks : List Key} (ok : HOk P w H h) (e : H a = some (.tup (ks.map kV))) : (tupleKind (mixKind P w)).is h ks a := by
  obtain ⟨_, its, r, o, h1, h2, n, h3⟩ := (show ObjOk P w H h a (.tup (ks.map kV)) from ok a _ e)
  exact ⟨o, its.toArray, n, h1, h2, h3, by simpa using items_are r⟩
theorem dt_rd {kvs : List (List Key × V)} (ok : HOk P w H h) (e : Rd H a (.dT kvs)) : kvs.length ≤ sizeLine ∧ (a == sysModules) = false ∧
    ∃ xs, KT H kvs xs ∧ h.DictOfH (tupleKind (mixKind P w)) a xs := by
  obtain ⟨z, y, xs, r, o, es, ep, h1, h2, h3, h4, h5⟩ := (show ObjOk P w H h a (.dT kvs) from rd_of ok e)
  refine ⟨z, y, xs, r, o, es, ep, h1, h2, h3, h4, fun x hx => ?_, h5⟩
  have all : ∀ {l : List (List Key × V)} {m : List (List Key × Addr × Value)}, KT H l m → ∀ x ∈ m, (tupleKind (mixKind P w)).is h x.1 x.2.1 := by
    intro l m q
    induction q with
    | nil => intro x hx; exact nomatch hx
    | @cons p q ps qs hq t ih =>
      intro x hx
      rcases List.mem_cons.mp hx with e | hx
      · subst e
        exact key_of ok (by rw [← hq.1]; exact hq.2.1)
      · exact ih x hx
  exact all r x hx
theorem dt_of {kvs : List (List Key × V)} (ok : HOk P w H h) (e : H a = some (.dT kvs)) : kvs.length ≤ sizeLine ∧ (a == sysModules) = false ∧
    ∃ xs, KT H kvs xs ∧ h.DictOfH (tupleKind (mixKind P w)) a xs := dt_rd ok (.inl e)
end

/-- what the dict at a holds at the key y -/
def DGet (H : Hp) (a : Addr) (y : V) (r : Option V) : Prop :=
  (∃ kvs k, Rd H a (.dK kvs) ∧ y = kV k ∧ r = valV kvs k) ∨ ∃ kvs k b, Rd H a (.dT kvs) ∧ y = .ref b ∧ H b = some (.tup (k.map kV)) ∧ r = valV kvs k
/-- the heap behind a[y] = v -/
def DPut (H : Hp) (a : Addr) (y v : V) (H' : Hp) : Prop :=
  (∃ kvs k, H a = some (.dK kvs) ∧ y = kV k ∧ kvs.length < sizeLine ∧ H' = upd H a (.dK (putK kvs k v))) ∨
  ∃ kvs k b, H a = some (.dT kvs) ∧ y = .ref b ∧ H b = some (.tup (k.map kV)) ∧ kvs.length < sizeLine ∧ H' = upd H a (.dT (putK kvs k v))
theorem DGet.k {H : Hp} {a : Addr} {kvs : List (Key × V)} {k : Key} (e : H a = some (.dK kvs)) : DGet H a (kV k) (valV kvs k) := .inl ⟨kvs, k, .inl e, rfl, rfl⟩
theorem DGet.t {H : Hp} {a b : Addr} {kvs : List (List Key × V)} {k : List Key} (e : H a = some (.dT kvs)) (eb : H b = some (.tup (k.map kV))) : DGet H a (.ref b) (valV kvs k) := .inr ⟨kvs, k, b, .inl e, rfl, eb, rfl⟩
theorem DPut.k {H : Hp} {a : Addr} {kvs : List (Key × V)} {k : Key} {v : V} (e : H a = some (.dK kvs)) (hl : kvs.length < sizeLine) : DPut H a (kV k) v (upd H a (.dK (putK kvs k v))) := .inl ⟨kvs, k, e, rfl, hl, rfl⟩
theorem DPut.t {H : Hp} {a b : Addr} {kvs : List (List Key × V)} {k : List Key} {v : V} (e : H a = some (.dT kvs)) (eb : H b = some (.tup (k.map kV))) (hl : kvs.length < sizeLine) :
    DPut H a (.ref b) v (upd H a (.dT (putK kvs k v))) := .inr ⟨kvs, k, b, e, rfl, eb, hl, rfl⟩

section
variable {X : Cx} {pins : List (Addr × Obj)} {σ : St} {H : Hp} {s : Shared} {a : Addr} {y v : V} {u r : Value} {o : Option V} {A : Around} {E : Value → Shared → Prop}

theorem Inv.big (I : Inv X pins σ H s) : sysModules < s.heap.objs.size := by
  have h : mainGlobals < s.heap.objs.size := (I.mod.glob.keeps I.bk).lt
  exact Nat.lt_trans (by decide) h

/-- d[y], there -/
theorem d_getItem {Q : Value → Shared → Prop} (hu : A.units + 1 < cLine) (I : Inv X pins σ H s) (g : DGet H a y (some v)) (ry : RelV y u) (h : ∀ w' s', Inv X pins σ H s' → RelV v w' → Q w' s') :
    wpAny (model X.prog X.w) A (getItem (.ref a) u) Q E s := by
  rcases g with ⟨kvs, k, e, ey, l⟩ | ⟨kvs, k, b, e, ey, eb, l⟩
  · subst ey
    obtain ⟨z, hd, vs, rel, dd⟩ := dk_rd I.hok e
    obtain ⟨w', hw, rw'⟩ := RelO.some_of (v := v) (o := valueAt vs k) (by rw [l]; exact rel.val k)
    exact wpAny_getItem_of (kV_is ry) dd.mapOf hw (h w' _ (I.tok _) rw')
  · subst ey
    cases (show u = Value.ref b from ry)
    obtain ⟨z, hd, xs, rel, dd⟩ := dt_rd I.hok e
    obtain ⟨w', hw, rw'⟩ := RelO.some_of (v := v) (o := (atKey xs k).map (·.2)) (by rw [l]; exact rel.val k)
    obtain ⟨p, hp, hp2⟩ := Option.map_eq_some_iff.mp hw
    refine wpAny_getItem_heap (tupleKind_room_in1 hu) (key_of I.hok eb) dd hp ?_
    rw [hp2]
    exact h w' _ (I.tok _) rw'
/-- y in d -/
theorem d_in {Q : Value → Shared → Prop} (hu : A.units + 1 < cLine) (I : Inv X pins σ H s) (g : DGet H a y o) (ry : RelV y u) (h : ∀ s', Inv X pins σ H s' → Q (.bool o.isSome) s') :
    wpAny (model X.prog X.w) A (compareOp .In u (.ref a)) Q E s := by
  rcases g with ⟨kvs, k, e, ey, l⟩ | ⟨kvs, k, b, e, ey, eb, l⟩
  · subst ey
    obtain ⟨z, hd, vs, rel, dd⟩ := dk_rd I.hok e
    refine wpAny_in_of (kV_is ry) hd dd.mapOf ?_
    rw [← (rel.val k).isSome_eq, ← l]
    exact h _ (I.tok _)
  · subst ey
    cases (show u = Value.ref b from ry)
    obtain ⟨z, hd, xs, rel, dd⟩ := dt_rd I.hok e
    refine wpAny_in_heap (tupleKind_room_in1 hu) (key_of I.hok eb) hd dd ?_
    have q := (rel.val k).isSome_eq
    rw [Option.isSome_map] at q
    rw [← q, ← l]
    exact h _ (I.tok _)
theorem d_notIn {Q : Value → Shared → Prop} (hu : A.units + 1 < cLine) (I : Inv X pins σ H s) (g : DGet H a y o) (ry : RelV y u) (h : ∀ s', Inv X pins σ H s' → Q (.bool (!o.isSome)) s') :
    wpAny (model X.prog X.w) A (compareOp .NotIn u (.ref a)) Q E s := by
  rcases g with ⟨kvs, k, e, ey, l⟩ | ⟨kvs, k, b, e, ey, eb, l⟩
  · subst ey
    obtain ⟨z, hd, vs, rel, dd⟩ := dk_rd I.hok e
    refine wpAny_notIn_of (kV_is ry) hd dd.mapOf ?_
    rw [← (rel.val k).isSome_eq, ← l]
    exact h _ (I.tok _)
  · subst ey
    cases (show u = Value.ref b from ry)
    obtain ⟨z, hd, xs, rel, dd⟩ := dt_rd I.hok e
    refine wpAny_notIn_heap (tupleKind_room_in1 hu) (key_of I.hok eb) hd dd ?_
    have q := (rel.val k).isSome_eq
    rw [Option.isSome_map] at q
    rw [← q, ← l]
    exact h _ (I.tok _)
/-- a dict's object is replaced -/
theorem d_write {h' : Heap} {t' : Nat} {ob : HO} (I : Inv X pins σ H s) (mu : Mut (H a)) (hs : Heap.SameBut a s.heap h') (he : ∃ q, h'.get? a = some q) (new : ObjOk X.prog X.w (upd H a ob) h' a ob) :
    Inv X pins σ (upd H a ob) { s with heap := h', toks := t' } :=
  I.write (x := a) (e := a) mu (.inl rfl) (fun b q hb z => (hs.2 b hb).trans z) he new
theorem dk_new {P : Program} {w : World} {H' : Hp} {h' : Heap} {kvs : List (Key × V)} {vs : List (Key × Value)} (z : kvs.length ≤ sizeLine) (hd : (a == sysModules) = false) (rel : KV kvs vs) (dd : h'.DictOf (mixKind P w) a vs) :
    ObjOk P w H' h' a (.dK kvs) := ⟨z, hd, vs, rel, dd⟩
/-- d[y] = v -/
theorem d_setItem {H' : Hp} {Q : Unit → Shared → Prop} (hu : A.units + 1 < cLine) (I : Inv X pins σ H s) (g : DPut H a y v H') (ry : RelV y u) (rv : RelV v r) (h : ∀ s', Inv X pins σ H' s' → Q () s') :
    wpAny (model X.prog X.w) A (setItem (.ref a) u r) Q E s := by
  rcases g with ⟨kvs, k, e, ey, l, eH⟩ | ⟨kvs, k, b, e, ey, eb, l, eH⟩
  · subst ey eH
    obtain ⟨z, hd, vs, rel, dd⟩ := dk_of I.hok e
    have hz : vs.length ≤ sizeLine := by rw [← rel.length]; exact z
    have hl : (putK kvs k v).length ≤ sizeLine := by have := length_putK kvs k v; omega
    refine wpAny_setItem_pairs (hsz := hz) (kV_is ry) dd fun h' dd' hs => h _ ?_
    have he : ∃ q, h'.get? a = some q := let ⟨q, _, _, hq, _⟩ := dd'; ⟨q, hq⟩
    exact d_write I (by rw [e]; exact True.intro) hs he (dk_new hl hd (rel.put k rv) dd')
  · subst ey eH
    cases (show u = Value.ref b from ry)
    obtain ⟨z, hd, xs, rel, dd⟩ := dt_of I.hok e
    have hz : xs.length ≤ sizeLine := by rw [← Paired.length rel]; exact z
    have hl : (putK kvs k v).length ≤ sizeLine := by have := length_putK kvs k v; omega
    refine wpAny_setItem_heap (hsz := hz) (tupleKind_room_in1 hu) (key_of I.hok eb) dd fun h' dd' hs => h _ ?_
    obtain ⟨q, es, ep, hq, h2, h3, h4, _, h5⟩ := dd'
    refine d_write I (by rw [e]; exact True.intro) hs ⟨q, hq⟩ ⟨hl, hd, _, (rel.put k eb rv).keeps fun c ys ec => ?_, q, es, ep, hq, h2, h3, h4, h5⟩
    rw [upd_ne (ne_of ec e (fun z => nomatch z))]
    exact ec
end

section
variable {X : Cx} {pins : List (Addr × Obj)} {σ : St} {H : Hp} {s : Shared} {a : Addr} {kvs : List (Key × V)} {k : Key} {u : Value} {A : Around} {E : Value → Shared → Prop}
/-- len(d) -/
theorem d_len {Q : Value → Shared → Prop} (I : Inv X pins σ H s) (e : Rd H a (.dK kvs)) (h : ∀ t s', Inv X pins σ H s' → Q (.int kvs.length t) s') : wpAny (model X.prog X.w) A (call (.builtin "len") [.ref a]) Q E s := by
  obtain ⟨z, hd, vs, rel, dd⟩ := dk_rd I.hok e
  refine call_len_dict hd dd (by rw [← rel.length]; rw [sizeLine_eq] at z; omega) ?_
  rw [← rel.length]
  exact h _ _ (I.tok _)
end

/-! ### readings and rules -/
theorem dict_typeIs {X : Cx} {pins : List (Addr × Obj)} {σ : St} {H : Hp} {s : Shared} {a : Addr} {y : V} {o : Option V} (I : Inv X pins σ H s) (g : DGet H a y o) : s.TypeIs (.ref a) "dict" := by
  rcases g with ⟨kvs, k, e, _, _⟩ | ⟨kvs, k, b, e, _, _, _⟩
  · obtain ⟨_, _, vs, _, dd⟩ := dk_rd I.hok e
    exact dd.typeIs
  · obtain ⟨_, _, xs, _, dd⟩ := dt_rd I.hok e
    exact dd.typeIs
section
variable {X : Cx} {o i e value : Expr} {pos pos' tpos : Pos} {td ty tv : TE}
end

/-! ### displays -/
theorem dk_empty {P : Program} {w : World} {H : Hp} (h : Heap) (hb : sysModules < h.objs.size) : ObjOk P w H (h.push { cls := .type "dict", data := .dict #[] }) h.objs.size (.dK []) :=
  ⟨Nat.zero_le _, beq_eq_false_iff_ne.mpr (Ne.symm (Nat.ne_of_lt hb)), [], .nil, Heap.DictOf.new h⟩
theorem dt_empty {P : Program} {w : World} {H : Hp} (h : Heap) (hb : sysModules < h.objs.size) : ObjOk P w H (h.push { cls := .type "dict", data := .dict #[] }) h.objs.size (.dT []) :=
  ⟨Nat.zero_le _, beq_eq_false_iff_ne.mpr (Ne.symm (Nat.ne_of_lt hb)), [], .nil, _, #[], 0, Heap.get?_push_size _ rfl, ⟨rfl, rfl, rfl⟩, rfl, rfl, List.nodup_nil⟩
/-- {}, to be a dict of the kind that is wanted -/
def tDNewK : TE := fun _ H Q => ∀ p, H p = none → Q (.ref p) (upd H p (.dK []))
def tDNewT : TE := fun _ H Q => ∀ p, H p = none → Q (.ref p) (upd H p (.dT []))
section
variable {X : Cx} {pos : Pos}
theorem pe_dnewK : PE X (.Dict [] [] pos) tDNewK := fun pins s σ H Q I h =>
  wpAny_Dict_empty ⟨.ref s.heap.objs.size, _, I.laid (a := s.heap.objs.size) (o := .dK []) (t' := s.toks) (fun _ _ q => Heap.get?_push_of_some _ q) (Nat.le_refl _) (dk_empty s.heap I.big), rfl, h _ (I.hok.fresh (Nat.le_refl _))⟩
theorem pe_dnewT : PE X (.Dict [] [] pos) tDNewT := fun pins s σ H Q I h =>
  wpAny_Dict_empty ⟨.ref s.heap.objs.size, _, I.laid (a := s.heap.objs.size) (o := .dT []) (t' := s.toks) (fun _ _ q => Heap.get?_push_of_some _ q) (Nat.le_refl _) (dt_empty s.heap I.big), rfl, h _ (I.hok.fresh (Nat.le_refl _))⟩
end

/-- the pairs of a display, from the left -/
def tPairs : List (TE × TE) → St → Hp → (List (V × V) → Hp → Prop) → Prop
  | [], _, H, Q => Q [] H
  | (tk, tv) :: r, σ, H, Q => tk σ H fun x H1 => tv σ H1 fun y H2 => tPairs r σ H2 fun ps H3 => Q ((x, y) :: ps) H3
abbrev VV : List (V × V) → List (Value × Value) → Prop := Paired fun p q => RelV p.1 q.1 ∧ RelV p.2 q.2
def PPs (X : Cx) (pos : Pos) (keys : List (Option Expr)) (values : List Expr) (trs : List (TE × TE)) : Prop :=
  ∀ (pins : List (Addr × Obj)) (s : Shared) (σ : St) (H : Hp) (Q : List (V × V) → Hp → Prop), Inv X pins σ H s → tPairs trs σ H Q →
    wpAny (model X.prog X.w) X.A (evalPairs (pairTrees keys values X.env pos)) (fun vs s' => ∃ ps H', Inv X pins σ H' s' ∧ VV ps vs ∧ Q ps H') X.xe s
theorem pps_nil {X : Cx} {pos : Pos} : PPs X pos [] [] [] := fun pins s σ H Q I h => pairTrees_nil_walk ⟨[], H, I, .nil, h⟩
theorem pps_cons {X : Cx} {pos : Pos} {k v : Expr} {ks : List (Option Expr)} {vs : List Expr} {tk tv : TE} {trs : List (TE × TE)} (hk : PE X k tk) (hv : PE X v tv) (hr : PPs X pos ks vs trs) :
    PPs X pos (some k :: ks) (v :: vs) ((tk, tv) :: trs) := fun pins s σ H Q I h =>
  pairTrees_cons_walk (thn (hk pins s σ H _ I h) fun u s1 ⟨x, H1, I1, rx, q1⟩ => thn (hv pins s1 σ H1 _ I1 q1) fun w2 s2 ⟨y, H2, I2, ry, q2⟩ =>
    thn (hr pins s2 σ H2 _ I2 q2) fun ws s3 ⟨ps, H3, I3, rel, q3⟩ => ⟨(x, y) :: ps, H3, I3, .cons ⟨rx, ry⟩ rel, q3⟩)

def mergeK (kvs more : List (Key × V)) : List (Key × V) := more.foldl (fun acc kv => putK acc kv.1 kv.2) kvs
theorem KV.merge : ∀ {more : List (Key × V)} {rs : List (Key × Value)} {kvs : List (Key × V)} {vs : List (Key × Value)}, KV more rs → KV kvs vs → KV (mergeK kvs more) (merged vs rs) := by
  intro more rs kvs vs r
  unfold KV at r
  induction r generalizing kvs vs with
  | nil => intro q; exact q
  | @cons p q ps qs h t ih =>
    intro r0
    have e : KV (putK kvs p.1 p.2) (stored vs q.1 q.2) := by
      have := r0.put p.1 h.2
      rw [← h.1]; exact this
    exact ih e
theorem length_mergeK : ∀ (more kvs : List (Key × V)), (mergeK kvs more).length ≤ kvs.length + more.length
  | [], kvs => by show kvs.length ≤ kvs.length + 0; omega
  | p :: r, kvs => by
    have h1 := length_mergeK r (putK kvs p.1 p.2)
    have h2 := length_putK kvs p.1 p.2
    show (mergeK (putK kvs p.1 p.2) r).length ≤ _
    rw [List.length_cons]; omega
theorem carries_of {P : Program} {w : World} : ∀ {kvs : List (Key × V)} {ws : List (Value × Value)}, VV (kvs.map fun kv => (kV kv.1, kv.2)) ws → ∃ rs, Carries (mixKind P w) ws rs ∧ KV kvs rs
  | [], _, r => by rw [List.map_nil] at r; cases r; exact ⟨[], True.intro, .nil⟩
  | p :: kvs, _, r => by
    rw [List.map_cons] at r
    cases r with
    | @cons a b as bs h t =>
      obtain ⟨rs, c, q⟩ := carries_of (P := P) (w := w) t
      obtain ⟨b1, b2⟩ := b
      exact ⟨(p.1, b2) :: rs, ⟨kV_is h.1, rfl, c⟩, .cons ⟨rfl, h.2⟩ q⟩
/-- {k: v, ..} with keys ints and texts; the new dict stands empty while the pairs are made -/
def tDisp (trs : List (TE × TE)) : TE := fun σ H Q => ∀ p, H p = none → tPairs trs σ (upd H p (.dK [])) fun ps H2 => H2 p = some (.dK []) ∧ ∃ kvs : List (Key × V), ps = kvs.map (fun kv => (kV kv.1, kv.2)) ∧ kvs.length ≤ 15 ∧ Q (.ref p) (upd H2 p (.dK (mergeK [] kvs)))
theorem pe_disp {X : Cx} {pos : Pos} {keys : List (Option Expr)} {values : List Expr} {trs : List (TE × TE)} (h : PPs X pos keys values trs) (hall : keys.all (·.isSome) = true) (hl : keys.length = values.length) (h0 : keys ≠ [])
    (h15 : keys.length ≤ 15) : PE X (.Dict keys values pos) (tDisp trs) := by
  intro pins s σ H Q I q
  have hn := I.hok.fresh (Nat.le_refl s.heap.objs.size)
  have I1 := I.laid (a := s.heap.objs.size) (o := .dK []) (h' := s.heap.push { cls := .type "dict", data := .dict #[] }) (t' := s.toks) (fun _ _ q => Heap.get?_push_of_some _ q) (Nat.le_refl _) (dk_empty s.heap I.big)
  refine wpAny_Dict_walk (knd := mixKind X.prog X.w) hall hl h0 h15 (thn (h pins _ σ _ _ I1 (q _ hn)) fun ws s2 ⟨ps, H2, I2, rel, e, kvs, ep, lk, q2⟩ => ?_)
  subst ep
  obtain ⟨rs, c, rk⟩ := carries_of (P := X.prog) (w := X.w) rel
  obtain ⟨z, hd, vs0, r0, dd⟩ := dk_of I2.hok e
  cases r0
  refine ⟨rs, c, dd, fun h' dd' hs => ⟨.ref s.heap.objs.size, _, ?_, rfl, q2⟩⟩
  have hz : (mergeK [] kvs).length ≤ sizeLine := by
    have h1 := length_mergeK kvs []
    rw [List.length_nil] at h1
    rw [sizeLine_eq]; omega
  have he : ∃ q, h'.get? s.heap.objs.size = some q := let ⟨q, _, _, hq, _⟩ := dd'; ⟨q, hq⟩
  exact d_write I2 (by rw [e]; exact True.intro) hs he (dk_new hz hd (rk.merge .nil) dd')

/-! ### methods -/
/-- a method call o.m(e) of a built-in, with one argument: what must be seen of the text -/
structure M1 (X : Cx) (o : Expr) (m : Str) (apos : Pos) (e : Expr) (cpos : Pos) : Prop where
  base : attributeBase o m X.env (eval o X.env) = eval o X.env
  few : ((backTo cpos (starEach [e] X.env)).all (fun x => !x.1) && (backToKw cpos (keywordEach [] X.env)).all (fun x => x.1.isSome)
    && decide (([e] : List Expr).length + ([] : List Keyword).length + (if ([] : List Keyword).isEmpty then 0 else 1) < 30)) = true
  line : (apos.endLine == cpos.line) = true
  trees : backTo cpos (starEach [e] X.env) = [(false, eval e X.env)]
structure M2 (X : Cx) (o : Expr) (m : Str) (apos : Pos) (e f : Expr) (cpos : Pos) : Prop where
  base : attributeBase o m X.env (eval o X.env) = eval o X.env
  few : ((backTo cpos (starEach [e, f] X.env)).all (fun x => !x.1) && (backToKw cpos (keywordEach [] X.env)).all (fun x => x.1.isSome)
    && decide (([e, f] : List Expr).length + ([] : List Keyword).length + (if ([] : List Keyword).isEmpty then 0 else 1) < 30)) = true
  line : (apos.endLine == cpos.line) = true
  trees : backTo cpos (starEach [e, f] X.env) = [(false, eval e X.env), (false, eval f X.env)]

/-- a is a dict, whatever its keys -/
def IsD (H : Hp) (a : Addr) : Prop := (∃ kvs, Rd H a (.dK kvs)) ∨ ∃ kvs, Rd H a (.dT kvs)
theorem isD_at {X : Cx} {pins : List (Addr × Obj)} {σ : St} {H : Hp} {s : Shared} {a : Addr} (I : Inv X pins σ H s) (d : IsD H a) :
    s.TypeIs (.ref a) "dict" ∧ (∀ b, Value.ref a = .ref b → ∃ ob, s.heap.get? b = some ob ∧ ob.dict = none) ∧ (a == sysModules) = false := by
  rcases d with ⟨kvs, e⟩ | ⟨kvs, e⟩
  · obtain ⟨_, hd, vs, _, dd⟩ := dk_rd I.hok e
    refine ⟨dd.typeIs, fun b q => ?_, hd⟩
    cases q
    obtain ⟨ob, _, _, h1, h2, _⟩ := dd
    exact ⟨ob, h1, h2.2.1⟩
  · obtain ⟨_, hd, xs, _, dd⟩ := dt_rd I.hok e
    refine ⟨dd.typeIs, fun b q => ?_, hd⟩
    cases q
    obtain ⟨ob, _, _, h1, h2, _⟩ := dd
    exact ⟨ob, h1, h2.2.1⟩

section
variable {X : Cx} {pins : List (Addr × Obj)} {σ : St} {H : Hp} {s : Shared} {a : Addr} {y d : V} {u r : Value} {o : Option V} {A : Around} {E : Value → Shared → Prop}
end

section
variable {X : Cx} {o e f : Expr} {apos cpos : Pos} {td ty tx : TE}
end

/-! ### dict(d): a copy -/
section
variable {X : Cx} {pins : List (Addr × Obj)} {σ : St} {H : Hp} {s : Shared} {a : Addr} {kvs : List (Key × V)} {A : Around} {E : Value → Shared → Prop}
end

section
variable {X : Cx} {pins : List (Addr × Obj)} {σ : St} {H : Hp} {s : Shared} {a : Addr} {y : V} {u : Value} {A : Around} {E : Value → Shared → Prop}
end
end L2
namespace HT
open PySem PyProof.Rows

section
open PySem.SeqAt
open PySem.AutoSeq1 (wpAny_loadPart')
open PySem.MeetsSeq PySem.MeetsSeq2 PySem.MeetsSeq3

end

section
variable {prog : Program} {w : World} {A : Around} {E : Value → Shared → Prop} {s : Shared}

/-! ### t[a:b], not the whole -/
/-- a slice's bound as a place among n (d where it is left out) -/
def sIx (n d : Nat) : Option Int → Nat
  | none => d
  | some v => if v < 0 then (v + (n : Int)).toNat else min v.toNat n
theorem sIx_none (n d : Nat) : sIx n d none = d := rfl
theorem sIx_nat (n d k : Nat) : sIx n d (some (k : Int)) = min k n := by
  show (if (k : Int) < 0 then ((k : Int) + (n : Int)).toNat else min (k : Int).toNat n) = min k n
  rw [if_neg (by omega), Int.toNat_natCast]
end
end HT

namespace L2
open PySem PySem.Spec PyProof.Rows

/-! ### the parts of a slice -/
abbrev TO := St → Hp → (Option Int → Hp → Prop) → Prop
/-- a slice's part (left out, or an int) -/
def PO (X : Cx) (e : Option Expr) (t : TO) : Prop :=
  ∀ (pins : List (Addr × Obj)) (s : Shared) (σ : St) (H : Hp) (Q : Option Int → Hp → Prop), Inv X pins σ H s → t σ H Q →
    wpAny (model X.prog X.w) X.A (evalPart e X.env) (fun u s' => ∃ o H', Inv X pins σ H' s' ∧ IsPart u o ∧ Q o H') X.xe s
def tNoPart : TO := fun _ H Q => Q none H
def tPart (t : TE) : TO := fun σ H Q => t σ H fun x H1 => ∃ i, x = .int i ∧ Q (some i) H1

section
variable {X : Cx} {e : Expr} {te : TE} {lo hi : Option Expr} {tl th : TO} {pos p2 : Pos}

theorem po_none : PO X none tNoPart := by
  intro pins s σ H Q I h
  rw [evalPart_none]
  exact wpAny_pure ⟨none, H, I, .none, h⟩
theorem po_some (h : PE X e te) : PO X (some e) (tPart te) := by
  intro pins s σ H Q I hw
  rw [evalPart_some]
  refine thn (h pins s σ H _ I hw) fun u s1 ⟨x, H1, I1, r1, q1⟩ => ?_
  obtain ⟨i, rfl, q⟩ := q1
  obtain ⟨t, rfl⟩ := r1
  exact ⟨some i, H1, I1, .int i t, q⟩

/-- what a slice of a value is, by values: the slice object stands at sl -/
def SlR (X : Cx) (r : V → Option Int → Option Int → Hp → VK → Prop) : Prop :=
  ∀ (pins : List (Addr × Obj)) (s : Shared) (σ : St) (H : Hp) (x : V) (v vl vu : Value) (lo hi : Option Int) (sl : Addr) (Q : VK), Inv X pins σ H s → RelV x v → s.heap.IsSliceOf sl vl vu .none → IsPart vl lo → IsPart vu hi → r x lo hi H Q →
    ∃ T id, typeLookup (.type T) "__getitem__" = pure (some (.builtin id)) ∧ s.TypeIs v T ∧ wpAny (model X.prog X.w) X.A (getItem v (.ref sl)) (EP X pins σ Q) X.xe s
def tSl (r : V → Option Int → Option Int → Hp → VK → Prop) (te : TE) (tl th : TO) : TE := fun σ H Q => te σ H fun x H1 => tl σ H1 fun l H2 => th σ H2 fun u H3 => r x l u H3 Q
/-- a[lo:hi], any a -/
theorem pe_slice {r : V → Option Int → Option Int → Hp → VK → Prop} (hr : SlR X r) (he : PE X e te) (hl : PO X lo tl) (hu : PO X hi th) : PE X (.Subscript e (.Slice lo hi none p2) pos) (tSl r te tl th) := by
  intro pins s σ H Q I h
  refine Subscript_ (thn (he pins s σ H _ I h) fun v s1 ⟨x, H1, I1, r1, q1⟩ => ?_)
  refine wpAny_Slice (thn (hl pins s1 σ H1 _ I1 q1) fun vl s2 ⟨l, H2, I2, pl, q2⟩ => thn (hu pins s2 σ H2 _ I2 q2) fun vu s3 ⟨u, H3, I3, pu, q3⟩ => ?_)
  rw [evalPart_none]
  refine wpAny_pure ?_
  have I4 : Inv X pins σ H3 { s3 with heap := s3.heap.push { cls := .type "slice", data := .fields #[vl, vu, .none] } } := I3.kept (t' := s3.toks) fun b ob q => Heap.get?_push_of_some _ q
  obtain ⟨T, id, hT, ht, hg⟩ := hr pins { s3 with heap := s3.heap.push { cls := .type "slice", data := .fields #[vl, vu, .none] } } σ H3 x v vl vu l u s3.heap.objs.size Q I4 r1 (Heap.IsSliceOf.new ..) pl pu q3
  show wpAny (model X.prog X.w) X.A (subscriptTail e (.Slice lo hi none p2) v (.ref s3.heap.objs.size)) (EP X pins σ Q) X.xe { s3 with heap := s3.heap.push { cls := .type "slice", data := .fields #[vl, vu, .none] } }
  exact tail_any (ops := [.ref s3.heap.objs.size, v]) ht hT hg (by with_unfolding_all rfl)

/-- the items of xs[lo:hi] -/
def cutV (xs : List V) (lo hi : Option Int) : List V := (xs.drop (HT.sIx xs.length 0 lo)).take (HT.sIx xs.length xs.length hi - HT.sIx xs.length 0 lo)
theorem cutV_length (xs : List V) (lo hi : Option Int) : (cutV xs lo hi).length ≤ xs.length := by
  unfold cutV
  rw [List.length_take, List.length_drop]
  omega
/-! ### t < u, t + u -/
end
end L2

namespace L2
open PySem PySem.Spec PyProof.Rows

/-! ### places -/
/-- the place that an index of any sign means -/
def ixN (n : Nat) (i : Int) : Option Nat := if 0 ≤ i then (if i < n then some i.toNat else none) else if -(n : Int) ≤ i then some (i + n).toNat else none
def atI {α : Type} (xs : List α) (i : Int) : Option α := (ixN xs.length i).bind fun j => xs[j]?
theorem ixN_seq {n : Nat} {i : Int} {j : Nat} (h : ixN n i = some j) : seqIndex? i n = some j ∧ j < n ∧ -(n : Int) ≤ i ∧ i < n := by
  unfold ixN at h
  by_cases h0 : 0 ≤ i
  · rw [if_pos h0] at h
    by_cases h1 : i < n
    · rw [if_pos h1] at h
      have e : i.toNat = j := Option.some.inj h
      exact ⟨by rw [seqIndex_of h0 h1, e], by omega, by omega, h1⟩
    · rw [if_neg h1] at h; cases h
  · rw [if_neg h0] at h
    by_cases h1 : -(n : Int) ≤ i
    · rw [if_pos h1] at h
      have e : (i + n).toNat = j := Option.some.inj h
      exact ⟨by rw [seqIndex_neg (by omega) h1, e], by omega, h1, by omega⟩
    · rw [if_neg h1] at h; cases h
theorem atI_get {α : Type} {xs : List α} {i : Int} {v : α} (h : atI xs i = some v) : ∃ j, seqIndex? i xs.length = some j ∧ xs[j]? = some v ∧ j < xs.length ∧ -(xs.length : Int) ≤ i ∧ i < xs.length := by
  unfold atI at h
  cases e : ixN xs.length i with
  | none => rw [e] at h; cases h
  | some j =>
    rw [e] at h
    obtain ⟨h1, h2, h3, h4⟩ := ixN_seq e
    exact ⟨j, h1, h, h2, h3, h4⟩
theorem atI_nat {α : Type} {xs : List α} {j : Nat} {v : α} (h : xs[j]? = some v) : atI xs (j : Int) = some v := by
  have hj : j < xs.length := (List.getElem?_eq_some_iff.mp h).1
  have e : ixN xs.length (j : Int) = some j := by
    unfold ixN
    rw [if_pos (by omega), if_pos (by omega)]; simp
  unfold atI; rw [e]; exact h
/-! ### what may be subscripted -/
/-- what stands as an index of a plain subscript -/
def PlainIx (b : Expr) : Prop := ∀ o i, subscripted b false o i = operate [o, i] (getItem o i)
/-- a subscript by values -/
def IxR (X : Cx) (r : R2) : Prop :=
  ∀ (value slice : Expr) (pins : List (Addr × Obj)) (s : Shared) (σ : St) (H : Hp) (x y : V) (v u : Value) (Q : VK), Inv X pins σ H s → RelV x v → RelV y u → r x y H Q →
    subscripted slice false v u = operate [v, u] (getItem v u) → wpAny (model X.prog X.w) X.A (subscriptTail value slice v u) (EP X pins σ Q) X.xe s
/-- a call of a builtin's method by values: the receiver, the arguments -/
def MtR (X : Cx) (id : String) (r : V → List V → Hp → VK → Prop) : Prop :=
  ∀ (pins : List (Addr × Obj)) (s : Shared) (σ : St) (H : Hp) (x : V) (xs : List V) (v : Value) (us : List Value) (Q : VK), Inv X pins σ H s → RelV x v → Vals xs us → r x xs H Q →
    wpAny (model X.prog X.w) X.A (call (.builtin id) (v :: us)) (EP X pins σ Q) X.xe s
section
variable {X : Cx} {a b : Expr} {ta tb : TE} {pos : Pos}
theorem IxR.or {r r' : R2} (h : IxR X r) (h' : IxR X r') : IxR X (fun x y H Q => r x y H Q ∨ r' x y H Q) := by
  intro value slice pins s σ H x y v u Q I rx ry q hs
  rcases q with q | q
  · exact h value slice pins s σ H x y v u Q I rx ry q hs
  · exact h' value slice pins s σ H x y v u Q I rx ry q hs
/-- a[b] -/
theorem pe_ix {r : R2} (hr : IxR X r) (ha : PE X a ta) (hb : PE X b tb) (hs : PlainIx b) : PE X (.Subscript a b pos) (tOp r ta tb) := by
  intro pins s σ H Q I h
  exact Subscript_ (binT ha hb I h fun v u s2 x y H2 I2 rx ry q => hr a b pins s2 σ H2 x y v u Q I2 rx ry q (hs _ _))

def rIxL (K : PySem.W.Frag) : R2 := fun x y H Q => ∃ p xs i v, x = .ref p ∧ y = .int i ∧ SqL K H p xs ∧ atI xs i = some v ∧ Q v H
def rIxT (K : PySem.W.Frag) : R2 := fun x y H Q => ∃ p xs i v, x = .ref p ∧ y = .int i ∧ SqT K H p xs ∧ atI xs i = some v ∧ Q v H
def rIxS : R2 := fun x y H Q => ∃ z i c, x = .str z ∧ y = .int i ∧ z.length ≤ sizeLine ∧ atI z.cps.toList i = some c ∧ Q (.str ⟨#[c]⟩) H
theorem ix_list : IxR X (rIxL X.K) := by
  intro value slice pins s σ H x y v u Q I rx ry h hs
  obtain ⟨p, xs, i, z, rfl, rfl, hq, he, q⟩ := h
  cases rx
  obtain ⟨t, rfl⟩ := ry
  obtain ⟨its, r, pl, hz⟩ := I.list hq
  obtain ⟨j, h1, h2, h3, h4, h5⟩ := atI_get he
  obtain ⟨w, ew, rw'⟩ := r.get h2
  have hl := r.length
  have hn := line63
  have fin : EP X pins σ Q w s := ⟨z, H, I, rw', q⟩
  by_cases h0 : 0 ≤ i
  · have hj : i.toNat = j := by
      rw [seqIndex_of h0 h5] at h1
      exact Option.some.inj h1
    exact item_listR pl.isList h0 (by omega) (by rw [hj]; simpa using ew) fin hs
  · have hj : (i + (its.toArray.size : Int)).toNat = j := by
      rw [seqIndex_neg (by omega) h4] at h1
      rw [List.size_toArray, ← hl]
      exact Option.some.inj h1
    exact subscriptTail_builtinR (x := w) pl.isList.typeIs slot_list_getitem.lookup
      (wpAny_getItem_list_neg (Q := fun r s' => r = w ∧ EP X pins σ Q r s') pl.isList (by omega) (by rw [List.size_toArray] <;> omega) (by omega) (by rw [hj]; simpa using ew) ⟨rfl, fin⟩) hs
theorem ix_tup : IxR X (rIxT X.K) := by
  intro value slice pins s σ H x y v u Q I rx ry h hs
  obtain ⟨p, xs, i, z, rfl, rfl, hq, he, q⟩ := h
  cases rx
  obtain ⟨t, rfl⟩ := ry
  obtain ⟨its, r, pl, hz⟩ := I.tuple hq
  obtain ⟨j, h1, h2, h3, h4, h5⟩ := atI_get he
  obtain ⟨w, ew, rw'⟩ := r.get h2
  have hl := r.length
  have hn := line63
  have fin : EP X pins σ Q w s := ⟨z, H, I, rw', q⟩
  exact subscriptTail_builtinR (x := w) pl.typeIs slot_tuple_getitem.lookup
    (getItem_tuple (j := j) (Q := fun r s' => r = w ∧ EP X pins σ Q r s') pl (by omega) (by omega) (by rw [List.size_toArray, ← hl]; exact h1) (by simpa using ew) ⟨rfl, fin⟩) hs
theorem ix_str : IxR X rIxS := by
  intro value slice pins s σ H x y v u Q I rx ry h hs
  obtain ⟨z, i, c, rfl, rfl, hz, he, q⟩ := h
  obtain ⟨t, rfl⟩ := rx
  obtain ⟨t', rfl⟩ := ry
  obtain ⟨j, h1, h2, h3, h4, h5⟩ := atI_get he
  have hl : z.cps.toList.length = z.length := by simp [Str.length]
  rw [hl] at h1 h4 h5
  have hn := line63
  exact tail_any (typeIs_str s z t) slot_str_getitem.lookup (getItem_str (c := c) (by
    have e1 : decide (i < -(2 ^ 63 : Int)) = false := decide_eq_false (by omega)
    have e2 : decide (i ≥ 2 ^ 63) = false := decide_eq_false (by omega)
    rw [e1, e2, Bool.or_false]) (by rw [h1]; simpa using h2) ⟨.str ⟨#[c]⟩, H, I.tok _, ⟨_, rfl⟩, q⟩) hs
/-! ### xs[i] = v, any sign -/
/-- the list's object behind a store -/
theorem mapSeq_set (its : List Value) (n j : Nat) (u : Value) : Obj.mapSeq (·.setIfInBounds j u) { cls := .type "list", data := .seq its.toArray n } = { cls := .type "list", data := .seq (its.set j u).toArray n } := by
  simp [Obj.mapSeq]
theorem Inv.lst {pins : List (Addr × Obj)} {σ : St} {H : Hp} {s : Shared} {p : Addr} {xs : List V} (I : Inv X pins σ H s) (h : H p = some (.lst xs)) :
    ∃ (its : List Value) (n : Nat), Vals xs its ∧ s.heap.get? p = some { cls := .type "list", data := .seq its.toArray n } ∧ xs.length ≤ sizeLine := by
  obtain ⟨z, its, n, r, e⟩ := I.hok p _ h
  exact ⟨its, n, r, e, z⟩
/-- the list at p is written by an update of its object -/
theorem Inv.lstUpd {pins : List (Addr × Obj)} {σ : St} {H : Hp} {s : Shared} {p : Addr} {xs ys : List V} {its its' : List Value} {n n' : Nat} {f : Obj → Obj} (I : Inv X pins σ H s) (h : H p = some (.lst xs))
    (ho : s.heap.get? p = some { cls := .type "list", data := .seq its.toArray n }) (hf : f { cls := .type "list", data := .seq its.toArray n } = { cls := .type "list", data := .seq its'.toArray n' }) (r : Vals ys its') (hz : ys.length ≤ sizeLine) (t : Nat) :
    Inv X pins σ (upd H p (.lst ys)) { s with heap := s.heap.update p f, toks := t } := by
  have e : (s.heap.update p f).get? p = some { cls := .type "list", data := .seq its'.toArray n' } := by
    rw [Heap.get?_update_self f ho (by rw [hf] <;> rfl), hf]
  refine I.write (x := p) (e := p) (by rw [h]; trivial) (.inl rfl) (fun b u hb q => (Heap.get?_update_other _ _ (Ne.symm hb)).trans q) ⟨_, e⟩ ?_
  exact ⟨hz, its', n', r, e⟩
def rSetL : V → V → V → Hp → (Hp → Prop) → Prop := fun o i v H Q => ∃ p xs k j, o = .ref p ∧ i = .int k ∧ H p = some (.lst xs) ∧ ixN xs.length k = some j ∧ Q (upd H p (.lst (xs.set j v)))
theorem set_list : PSet X rSetL := by
  intro pins s σ H o i v ov iv u Q I ro ri rv h
  obtain ⟨p, xs, k, j, rfl, rfl, hp, hj, q⟩ := h
  cases ro
  obtain ⟨t, rfl⟩ := ri
  obtain ⟨its, n, r, ho, hz⟩ := I.lst hp
  obtain ⟨h1, h2, h3, h4⟩ := ixN_seq hj
  have hl := r.length
  have hn := line63
  have I' : Inv X pins σ (upd H p (.lst (xs.set j v))) { s with heap := s.heap.update p (Obj.mapSeq (·.setIfInBounds j u)) } :=
    I.lstUpd hp ho (mapSeq_set its n j u) (r.set rv j) (by rw [List.length_set]; exact hz) s.toks
  by_cases h0 : 0 ≤ k
  · have hk : k.toNat = j := by
      rw [seqIndex_of h0 h4] at h1
      exact Option.some.inj h1
    exact PySem.W.ki_setAt ho h0 (by omega) (by rw [List.size_toArray, ← hl]; exact h4) (by rw [hk]; exact ⟨_, I', q⟩)
  · have hk : (k + (its.toArray.size : Int)).toNat = j := by
      rw [seqIndex_neg (by omega) h3] at h1
      rw [List.size_toArray, ← hl]
      exact Option.some.inj h1
    exact PySem.W.ki_setBack ho (by omega) (by rw [List.size_toArray, ← hl]; exact h3) (by omega) (by rw [hk]; exact ⟨_, I', q⟩)

/-! ### slices -/
theorem slice_bounds (lo hi : Option Int) (n : Nat) : (sliceBounds lo hi none n).1 = ((HT.sIx n 0 lo : Nat) : Int) ∧ (sliceBounds lo hi none n).2.1 = ((HT.sIx n n hi : Nat) : Int) ∧ (sliceBounds lo hi none n).2.2 = 1 := by
  refine ⟨?_, ?_, rfl⟩
  · cases lo with
    | none => simp [sliceBounds, HT.sIx]
    | some i =>
      simp only [sliceBounds, HT.sIx, Option.getD_none, show (1 : Int) > 0 by decide, if_true]
      by_cases h : i < 0
      · simp only [h, if_true] <;> omega
      · simp only [h, if_false] <;> omega
  · cases hi with
    | none => simp [sliceBounds, HT.sIx]
    | some i =>
      simp only [sliceBounds, HT.sIx, Option.getD_none, show (1 : Int) > 0 by decide, if_true]
      by_cases h : i < 0
      · simp only [h, if_true] <;> omega
      · simp only [h, if_false] <;> omega
theorem slicePick_cut (its : List Value) (lo hi : Option Int) : slicePick its.toArray lo hi none = ((its.drop (HT.sIx its.length 0 lo)).take (HT.sIx its.length its.length hi - HT.sIx its.length 0 lo)).toArray := by
  obtain ⟨h1, h2, h3⟩ := slice_bounds lo hi its.toArray.size
  unfold slicePick
  rw [h1, h2, h3]
  simp only [sliceRange_one, pick_run, List.size_toArray] <;> rfl
/-- xs[lo:hi] of a list: a new list -/
def rSlL (K : PySem.W.Frag) : V → Option Int → Option Int → Hp → VK → Prop := fun x lo hi H Q => ∃ a xs, x = .ref a ∧ SqL K H a xs ∧ ∀ p, H p = none → Q (.ref p) (upd H p (.lst (cutV xs lo hi)))
theorem sl_list : SlR X (rSlL X.K) := by
  intro pins s σ H x v vl vu lo hi sl Q I rx hs pl pu h
  obtain ⟨a, xs, rfl, hx, q⟩ := h
  cases rx
  obtain ⟨its, r, ht, hz⟩ := I.list hx
  have hlen := r.length
  refine ⟨"list", _, slot_list_getitem.lookup, ht.isList.typeIs, ?_⟩
  refine wpAny_getItem_list_slice ht.isList hs pl pu .none (by simp) ?_ (by rw [List.size_toArray] <;> omega)
  rw [slicePick_cut, ← hlen]
  refine ⟨.ref s.heap.objs.size, _, I.laid (t' := s.toks) (o := .lst (cutV xs lo hi)) (fun b ob q => Heap.get?_push_of_some _ q) (Nat.le_refl _) ?_, rfl, q _ (I.hok.fresh (Nat.le_refl _))⟩
  exact ⟨Nat.le_trans (cutV_length xs lo hi) hz, _, 0, (r.drop (HT.sIx xs.length 0 lo)).take (HT.sIx xs.length xs.length hi - HT.sIx xs.length 0 lo), Heap.get?_push_size _ rfl⟩

/-! ### in, not in: flat items -/
def flatV : V → Bool
  | .non => true
  | .bl _ => true
  | .int _ => true
  | .str _ => true
  | _ => false
/-- == of flat values -/
def eqV : V → V → Bool
  | .non, .non => true
  | .bl a, .bl b => a == b
  | .bl a, .int b => (if a then 1 else 0) == b
  | .int a, .bl b => a == (if b then 1 else 0)
  | .int a, .int b => a == b
  | .str a, .str b => a == b
  | _, _ => false
theorem eqAt_V {A : Around} {s : Shared} {y x : V} {u v : Value} (ry : RelV y u) (rx : RelV x v) (fy : flatV y = true) (fx : flatV x = true) : SeqAt.EqAt A s u v (eqV y x) := by
  cases y with
  | non =>
    cases ry
    cases x with
    | non => cases rx; exact SeqAt.EqAt.same _
    | bl b => cases rx; exact SeqAt.EqAt.none_bool b
    | int b => obtain ⟨t, rfl⟩ := rx; exact SeqAt.EqAt.none_int b t
    | str b => obtain ⟨t, rfl⟩ := rx; exact SeqAt.EqAt.none_str b t
    | _ => exact absurd (show false = true from fx) Bool.false_ne_true
  | bl a =>
    cases ry
    cases x with
    | non => cases rx; exact SeqAt.EqAt.bool_none a
    | bl b => cases rx; exact SeqAt.EqAt.bool_bool a b
    | int b => obtain ⟨t, rfl⟩ := rx; exact SeqAt.EqAt.bool_int a b t
    | str b => obtain ⟨t, rfl⟩ := rx; exact SeqAt.EqAt.bool_str a b t
    | _ => exact absurd (show false = true from fx) Bool.false_ne_true
  | int a =>
    obtain ⟨t', rfl⟩ := ry
    cases x with
    | non => cases rx; exact SeqAt.EqAt.int_none a t'
    | bl b => cases rx; exact SeqAt.EqAt.int_bool a t' b
    | int b => obtain ⟨t, rfl⟩ := rx; exact SeqAt.EqAt.int_int a t' b t
    | str b => obtain ⟨t, rfl⟩ := rx; exact SeqAt.EqAt.int_str a t' b t
    | _ => exact absurd (show false = true from fx) Bool.false_ne_true
  | str a =>
    obtain ⟨t', rfl⟩ := ry
    cases x with
    | non => cases rx; exact SeqAt.EqAt.str_none a t'
    | bl b => cases rx; exact SeqAt.EqAt.str_bool a t' b
    | int b => obtain ⟨t, rfl⟩ := rx; exact SeqAt.EqAt.str_int a t' b t
    | str b => obtain ⟨t, rfl⟩ := rx; exact SeqAt.EqAt.str_str a t' b t
    | _ => exact absurd (show false = true from fx) Bool.false_ne_true
  | _ => exact absurd (show false = true from fy) Bool.false_ne_true
/-! ### len, list(x), tuple(x) of any list or tuple that is read -/
theorem call_len_seq : CallR X (.builtin "len") (fun xs H Q => ∃ p ys, xs = [.ref p] ∧ (SqL X.K H p ys ∨ SqT X.K H p ys) ∧ Q (.int ys.length) H) := by
  intro pins s σ H xs us Q I r h
  obtain ⟨p, ys, rfl, hq, q⟩ := h
  obtain ⟨u, rfl, rx⟩ := vals1 r
  cases rx
  have hn := line63
  rcases hq with hq | hq
  · obtain ⟨its, r', pl, hz⟩ := I.list hq
    have hlen := r'.length
    exact Calls.call_len_list pl.isList (by simp only [List.size_toArray] <;> omega) ⟨.int ys.length, H, I.tok _, ⟨s.toks + 1, by rw [List.size_toArray, hlen]⟩, q⟩
  · obtain ⟨its, r', pl, hz⟩ := I.tuple hq
    have hlen := r'.length
    exact len_tuple pl (by simp only [List.size_toArray] <;> omega) ⟨.int ys.length, H, I.tok _, ⟨s.toks + 1, by rw [List.size_toArray, hlen]⟩, q⟩
theorem call_len_str : CallR X (.builtin "len") (fun xs H Q => ∃ z, xs = [.str z] ∧ z.length ≤ sizeLine ∧ Q (.int z.length) H) := by
  intro pins s σ H xs us Q I r h
  obtain ⟨z, rfl, hz, q⟩ := h
  obtain ⟨u, rfl, t, rfl⟩ := vals1 r
  have hn := line63
  exact len_str (by omega) ⟨.int z.length, H, I.tok _, ⟨_, rfl⟩, q⟩
theorem CallR.or {f : Value} {r r' : List V → Hp → VK → Prop} (h : CallR X f r) (h' : CallR X f r') : CallR X f (fun xs H Q => r xs H Q ∨ r' xs H Q) := by
  intro pins s σ H xs us Q I rs q
  rcases q with q | q
  · exact h pins s σ H xs us Q I rs q
  · exact h' pins s σ H xs us Q I rs q
theorem call_list_of : CallR X (.type "list") (fun xs H Q => ∃ p ys, xs = [.ref p] ∧ (SqL X.K H p ys ∨ SqT X.K H p ys) ∧ ∀ l, H l = none → Q (.ref l) (upd H l (.lst ys))) := by
  intro pins s σ H xs us Q I r h
  obtain ⟨p, ys, rfl, hq, q⟩ := h
  obtain ⟨u, rfl, rx⟩ := vals1 r
  cases rx
  have fin : ∀ (its : List Value), Vals ys its → ys.length ≤ sizeLine → ∀ (h' : Heap) (c' : Nat), (∀ b o', s.heap.get? b = some o' → h'.get? b = some o') →
      h'.get? s.heap.objs.size = some { cls := .type "list", dict := none, data := .seq its.toArray c', slots := #[] } → EP X pins σ Q (.ref s.heap.objs.size) { s with heap := h' } := fun its r' hz h' c' kp e =>
    ⟨.ref s.heap.objs.size, _, I.laid (t' := s.toks) kp (Nat.le_refl _) (show ObjOk X.prog X.w _ h' _ (.lst ys) from ⟨hz, its, c', r', e⟩), rfl, q _ (I.hok.fresh (Nat.le_refl _))⟩
  rcases hq with hq | hq
  · obtain ⟨its, r', pl, hz⟩ := I.list hq
    have hlen := r'.length
    obtain ⟨o, ho, hc, n, hd⟩ := pl.isList
    exact call_list_seq p (.inl rfl) ho hc hd (fun h' c' kp e => fin its r' hz h' c' kp e) (by simp only [List.size_toArray] <;> omega)
  · obtain ⟨its, r', pl, hz⟩ := I.tuple hq
    have hlen := r'.length
    obtain ⟨o, ho, hc, n, hd⟩ := pl
    exact call_list_seq p (.inr rfl) ho hc hd (fun h' c' kp e => fin its r' hz h' c' kp e) (by simp only [List.size_toArray] <;> omega)
theorem call_tuple_of : CallR X (.type "tuple") (fun xs H Q => ∃ p ys, xs = [.ref p] ∧ ((SqL X.K H p ys ∧ ∀ l, H l = none → Q (.ref l) (upd H l (.tup ys))) ∨ (SqT X.K H p ys ∧ Q (.ref p) H))) := by
  intro pins s σ H xs us Q I r h
  obtain ⟨p, ys, rfl, h⟩ := h
  obtain ⟨u, rfl, rx⟩ := vals1 r
  cases rx
  rcases h with ⟨hq, q⟩ | ⟨hq, q⟩
  · obtain ⟨its, r', pl, hz⟩ := I.list hq
    have hlen := r'.length
    refine call_tuple_list pl.isList (fun h' kp => ?_) (by simp only [List.size_toArray] <;> omega)
    have I1 : Inv X pins σ H { s with heap := h' } := I.kept (t' := s.toks) kp
    have I2 : Inv X pins σ (upd H h'.objs.size (.tup ys)) { s with heap := h'.push { cls := .type "tuple", data := .seq its.toArray } } :=
      I1.laid (t' := s.toks) (fun b o e => Heap.get?_push_of_some _ e) (Nat.le_refl _) (show ObjOk X.prog X.w _ _ _ (.tup ys) from ⟨hz, its, r', IsTup.new _ _⟩)
    exact ⟨.ref h'.objs.size, _, I2, rfl, q _ (I1.hok.fresh (Nat.le_refl _))⟩
  · obtain ⟨its, r', pl, hz⟩ := I.tuple hq
    exact call_tuple_same pl ⟨.ref p, H, I, rfl, q⟩

/-! ### the call of a builtin's method: o.m(..) -/
/-- the value is of that builtin type -/
def tyV (K : PySem.W.Frag) (T : String) (x : V) (H : Hp) : Prop := match x with
  | .str _ => T = "str"
  | .int _ => T = "int"
  | .ref p => (T = "list" ∧ ∃ xs, SqL K H p xs) ∨ (T = "tuple" ∧ ∃ o, K.lookup p = some o ∧ o.cls = .type "tuple" ∧ o.dict = none) ∨
      (T = "dict" ∧ ((∃ kvs, H p = some (.dK kvs)) ∨ ∃ kvs, H p = some (.dT kvs))) ∨ (T = "set" ∧ ∃ S n, H p = some (.set S n))
  | _ => False
theorem tyV_is {pins : List (Addr × Obj)} {σ : St} {H : Hp} {s : Shared} {T : String} {x : V} {v : Value} (I : Inv X pins σ H s) (r : RelV x v) (ty : tyV X.K T x H) :
    s.TypeIs v T ∧ ∀ a, v = .ref a → ∃ ob, s.heap.get? a = some ob ∧ ob.dict = none := by
  cases x with
  | str z =>
    obtain ⟨t, rfl⟩ := r
    cases (show T = "str" from ty)
    exact ⟨typeIs_str s z t, fun _ e => nomatch e⟩
  | int i =>
    obtain ⟨t, rfl⟩ := r
    cases (show T = "int" from ty)
    exact ⟨typeIs_int s i t, fun _ e => nomatch e⟩
  | ref p =>
    cases r
    rcases ty with ⟨rfl, xs, hq⟩ | ⟨rfl, o, hk, hc, hd⟩ | ⟨rfl, hk⟩ | ⟨rfl, S, n, hk⟩
    · obtain ⟨its, _, pl, _⟩ := I.list hq
      refine ⟨pl.isList.typeIs, fun a e => ?_⟩
      cases e
      obtain ⟨o, n, e, c, hd, _⟩ := pl
      exact ⟨o, e, hd⟩
    · refine ⟨⟨o, I.kIn p o hk, hc⟩, fun a e => ?_⟩
      cases e
      exact ⟨o, I.kIn _ o hk, hd⟩
    · have z : ∃ o, s.heap.get? p = some o ∧ o.ExactDict := by
        rcases hk with ⟨kvs, hk⟩ | ⟨kvs, hk⟩
        · obtain ⟨_, _, _, _, o, _, _, e, ex, _⟩ := I.hok p _ hk
          exact ⟨o, e, ex⟩
        · obtain ⟨_, _, _, _, o, _, _, e, ex, _⟩ := I.hok p _ hk
          exact ⟨o, e, ex⟩
      obtain ⟨o, e, ex⟩ := z
      refine ⟨⟨o, e, ex.1⟩, fun a e2 => ?_⟩
      cases e2
      exact ⟨o, e, ex.2.1⟩
    · obtain ⟨o, _, _, _, e, ex, _⟩ := I.hok p _ hk
      refine ⟨⟨o, e, ex.1⟩, fun a e2 => ?_⟩
      cases e2
      exact ⟨o, e, ex.2.1⟩
  | _ => exact False.elim ty
variable {o e : Expr} {es : List Expr} {to : TE} {t : TA} {name : Str} {apos cpos : Pos} {T id : String} {r : V → List V → Hp → VK → Prop}
/- xs.append(e), list.index on a module's tuple .. are MtR facts of 06m -/
end
end L2

namespace L2
open PySem PySem.Spec PyProof.Rows

def MtM (X : Cx) (id : String) (r : V → List V → Hp → VK → Prop) : Prop :=
  ∀ (pins : List (Addr × Obj)) (s : Shared) (σ : St) (H : Hp) (x : V) (xs : List V) (v : Value) (us : List Value) (Q : VK), Inv X pins σ H s → RelV x v → Vals xs us → r x xs H Q →
    wpAny (model X.prog X.w) X.A (call (.builtin id) (v :: us)) (EP X pins σ Q) X.xe s

/-! ### lists of values -/
theorem Vals.one : ∀ {x : V} {us : List Value}, Vals [x] us → ∃ u, us = [u] ∧ RelV x u
  | _, _, .cons r .nil => ⟨_, rfl, r⟩
theorem Vals.zero : ∀ {us : List Value}, Vals [] us → us = []
  | _, .nil => rfl
theorem Vals.rep {xs : List V} {us : List Value} (h : Vals xs us) : ∀ k : Nat, Vals (List.replicate k xs).flatten (List.replicate k us).flatten
  | 0 => .nil
  | k + 1 => by
    rw [List.replicate_succ, List.replicate_succ, List.flatten_cons, List.flatten_cons]
    exact Vals.append h (Vals.rep h k)
theorem foldl_rep (its : List Value) : ∀ (k : Nat) (acc : List Value),
    List.foldl (fun x1 x2 => x1 ++ x2) acc.toArray (List.replicate k its.toArray) = (acc ++ (List.replicate k its).flatten).toArray
  | 0, acc => by simp
  | k + 1, acc => by
    have e : acc.toArray ++ its.toArray = (acc ++ its).toArray := by simp
    have e2 : (acc ++ its) ++ (List.replicate k its).flatten = acc ++ (List.replicate (k + 1) its).flatten := by
      rw [List.replicate_succ, List.flatten_cons, List.append_assoc]
    rw [← e2, ← foldl_rep its k (acc ++ its), ← e, List.replicate_succ, List.foldl_cons]

section
variable {X : Cx} {pins : List (Addr × Obj)} {σ : St} {H : Hp} {s : Shared} {l b : Addr} {xs ys zs : List V}

/-! ### the two steps: a tracked list is rewritten, a new list is laid -/
theorem Inv.lset {its its' : List Value} {n : Nat} {f : Array Value → Array Value} {t' : Nat} (I : Inv X pins σ H s) (hH : H l = some (.lst xs))
    (e : s.heap.get? l = some { cls := .type "list", data := .seq its.toArray n }) (hf : f its.toArray = its'.toArray) (hv : Vals ys its') (hz : ys.length ≤ sizeLine) :
    Inv X pins σ (upd H l (.lst ys)) { s with heap := s.heap.update l (Obj.mapSeq f), toks := t' } := by
  have q := PySem.IsL.update e f
  rw [hf] at q
  refine I.write (x := l) (e := l) (by rw [hH]; exact trivial) (.inl rfl) (fun b' u hb hu => (Heap.get?_update_other s.heap (Obj.mapSeq f) (Ne.symm hb)).trans hu) ⟨_, q⟩ ?_
  exact ⟨hz, its', _, hv, q⟩
theorem Inv.lnew {its : List Value} {t' : Nat} (I : Inv X pins σ H s) (hv : Vals ys its) (hz : ys.length ≤ sizeLine) :
    Inv X pins σ (upd H s.heap.objs.size (.lst ys)) { s with heap := s.heap.push { cls := .type "list", data := .seq its.toArray }, toks := t' } :=
  I.laid (fun _ _ q => Heap.get?_push_of_some _ q) (Nat.le_refl _) ⟨hz, its, 0, hv, Heap.get?_push_size _ rfl⟩
theorem Inv.fresh (I : Inv X pins σ H s) : H s.heap.objs.size = none := I.hok.fresh (Nat.le_refl _)
theorem Inv.lstM (I : Inv X pins σ H s) (hH : H l = some (.lst xs)) : xs.length ≤ sizeLine ∧ ∃ (its : List Value) (n : Nat), Vals xs its ∧ xs.length = its.length ∧ s.heap.get? l = some { cls := .type "list", data := .seq its.toArray n } := by
  obtain ⟨z, its, n, r, e⟩ := I.hok l _ hH
  exact ⟨z, its, n, r, r.length, e⟩

theorem notLongL {n : Nat} (h : n ≤ sizeLine) : Builtin.List.listTooLong n = false := by
  unfold Builtin.List.listTooLong
  exact decide_eq_false (by omega)
end

section
variable {X : Cx}

/-! ### methods -/
def rAppend : V → List V → Hp → VK → Prop := fun x vs H Q => ∃ l xs y, x = .ref l ∧ vs = [y] ∧ H l = some (.lst xs) ∧ xs.length < sizeLine ∧ Q .non (upd H l (.lst (xs ++ [y])))
theorem mt_append : MtM X "list.append" rAppend := by
  intro pins s σ H x vs v us Q I rx rv h
  obtain ⟨l, xs, y, rfl, rfl, hH, hz, q⟩ := h
  cases rx
  obtain ⟨u, rfl, ru⟩ := rv.one
  obtain ⟨z, its, n, r, hl, e⟩ := I.lstM hH
  refine call_meets F.slot_list_append ⟨_, e, rfl⟩ F.entry_list_append (F.args_list_append_2 _ _) (PySem.list_append l its.toArray n u (by rw [List.size_toArray]; omega)) ⟨e, ?_⟩
  refine ⟨.non, _, I.lset (its' := its ++ [u]) hH e (by simp) (r.append (.cons ru .nil)) ?_, rfl, q⟩
  rw [List.length_append, List.length_singleton]
  omega

def rClear : V → List V → Hp → VK → Prop := fun x vs H Q => ∃ l xs, x = .ref l ∧ vs = [] ∧ H l = some (.lst xs) ∧ Q .non (upd H l (.lst []))
theorem mt_clear : MtM X "list.clear" rClear := by
  intro pins s σ H x vs v us Q I rx rv h
  obtain ⟨l, xs, rfl, rfl, hH, q⟩ := h
  cases rx
  have hus := rv.zero
  subst hus
  obtain ⟨z, its, n, r, hl, e⟩ := I.lstM hH
  refine call_meets F.slot_list_clear ⟨_, e, rfl⟩ F.entry_list_clear (F.args_list_clear_1 _) (AutoSeq1.list_clear_list_0 l its.toArray n (by rw [List.size_toArray]; omega)) ⟨e, ?_⟩
  exact ⟨.non, _, I.lset (its' := []) (ys := []) hH e rfl .nil (Nat.zero_le _), rfl, q⟩

/-! ### list + list, list += list, list * int -/
def rCat : R2 := fun x y H Q => ∃ l b xs zs, x = .ref l ∧ y = .ref b ∧ H l = some (.lst xs) ∧ H b = some (.lst zs) ∧ xs.length + zs.length ≤ sizeLine ∧ ∀ p, H p = none → Q (.ref p) (upd H p (.lst (xs ++ zs)))
theorem op_cat : OpR X (binaryOp .Add) rCat := by
  intro pins s σ H x y v u Q I rx ry h
  obtain ⟨l, b, xs, zs, rfl, rfl, hH, hB, hz, q⟩ := h
  cases rx
  cases ry
  obtain ⟨z, its, n, r, hl, e⟩ := I.lstM hH
  obtain ⟨z2, its2, n2, r2, hl2, e2⟩ := I.lstM hB
  refine PySem.P.add_list e e2 ?_ (by rw [List.size_toArray, List.size_toArray]; omega)
  have ea : its.toArray ++ its2.toArray = (its ++ its2).toArray := by simp
  rw [ea]
  exact ⟨.ref _, _, I.lnew (t' := s.toks) (r.append r2) (by rw [List.length_append]; omega), rfl, q _ I.fresh⟩
/-- a list times an int (a negative one is nothing) -/
def rRep : R2 := fun x y H Q => ∃ l k xs, x = .ref l ∧ y = .int k ∧ H l = some (.lst xs) ∧ -(2 ^ 63) ≤ k ∧ k < 2 ^ 63 ∧ xs.length * k.toNat ≤ sizeLine ∧
  ∀ p, H p = none → Q (.ref p) (upd H p (.lst (List.replicate k.toNat xs).flatten))
theorem len_rep {α : Type} (xs : List α) (k : Nat) : (List.replicate k xs).flatten.length = k * xs.length := by
  induction k with
  | zero => simp
  | succ k ih => rw [List.replicate_succ, List.flatten_cons, List.length_append, ih, Nat.succ_mul, Nat.add_comm]
theorem op_rep : OpR X (binaryOp .Mult) rRep := by
  intro pins s σ H x y v u Q I rx ry h
  obtain ⟨l, k, xs, rfl, rfl, hH, h1, h2, hz, q⟩ := h
  cases rx
  obtain ⟨t, rfl⟩ := ry
  obtain ⟨z, its, n, r, hl, e⟩ := I.lstM hH
  have hlen : its.toArray.size * k.toNat ≤ sizeLine := by rw [List.size_toArray, ← hl]; exact hz
  have hcap : ¬ its.toArray.size * k.toNat > (2 ^ 63 - 1) / 8 := by
    have : (sizeLine : Nat) ≤ (2 ^ 63 - 1) / 8 := by decide
    omega
  have hfit : ¬ (!Builtin.List.listFitsIndex k) = true := by
    rw [fitsIndex_both h1 h2]
    exact Bool.false_ne_true
  have hlong : ¬ Builtin.List.listTooLong (its.toArray.size * k.toNat) = true := by
    rw [notLongL hlen]
    exact Bool.false_ne_true
  have hnew : List.foldl (fun x1 x2 => x1 ++ x2) #[] (List.replicate (if its.toArray.isEmpty = true then 0 else k.toNat) its.toArray) = (List.replicate k.toNat its).flatten.toArray := by
    have f0 : ∀ m : Nat, List.foldl (fun x1 x2 => x1 ++ x2) #[] (List.replicate m its.toArray) = (List.replicate m its).flatten.toArray := fun m => by
      have := foldl_rep its m []
      rw [List.nil_append] at this
      exact this
    rw [f0]
    cases its with
    | nil => simp
    | cons a r' => rw [if_neg (by simp)]
  refine wpAny_binaryOp_repeat_ref (T := "list") (U := "int") (by decide) ⟨_, e, rfl⟩ (fun s' => typeIs_int s' k t) noFill_list_mul F.fills_int_mul F.slot_int_rmul repeat_list F.slot_int_index.lookup
    (call_meets F.slot_int_rmul (typeIs_int s k t) F.entry_int_rmul (F.args_int_rmul_2 _ _) (int___rmul___int_list k t l its.toArray n)
      ⟨e, rfl, ⟨_, e, rfl⟩, call_meets F.slot_list_mul ⟨_, e, rfl⟩ F.entry_list_mul (F.args_list_mul_2 _ _) (AutoListH.list___mul___list_int_3 l its.toArray n k t hfit hcap hlong) ⟨e, ?_⟩⟩)
  rw [hnew]
  exact ⟨.ref _, _, I.lnew (t' := s.toks) (r.rep k.toNat) (by rw [len_rep, Nat.mul_comm]; exact hz), rfl, q _ I.fresh⟩

/-! ### del xs[i] -/
end

/-! ### xs[a:b] = ys -/
section
variable {prog : Program} {w : World} {A : Around} {E : Value → Shared → Prop} {s : Shared}
set_option maxRecDepth 100000 in
end

section
variable {X : Cx}
end
end L2

namespace Att
open PySem PySem.W PySem.Calls PyProof.Rows

/-! ### the script -/
theorem ints_of_wellAll {P : Params} {h : Heap} : ∀ (ns : List Int) (vs : List Value), WellAll P h vs (ns.map WData.int) → IntsAre vs ns := by
  intro ns
  induction ns with
  | nil =>
    intro vs w
    rw [List.map_nil] at w
    cases w
    exact .nil
  | cons n ns ih =>
    intro vs w
    rw [List.map_cons] at w
    cases w with
    | cons a b =>
      cases a
      exact .cons _ _ (ih _ b)

theorem script_of {l : OpenLaw} {n : Nat} (hn : l.most = some n) {P : Params} {h : Heap} {args : List WData} {vals : List Value}
    (hpre : l.row.toRowW.claim.pre args = true) (hwl : WellAll P h vals args) :
    ∃ a vs ns, vals = [Value.ref a] ∧ args = [WData.list (ns.map WData.int)] ∧ h.get? a = some { cls := .type "list", data := .seq vs.toArray } ∧ IntsAre vs ns ∧ ns.length ≤ n := by
  have hsh : WShape.hasAll [] args [.list .int] = true := (pre_splitW hpre).1
  have hc : l.pre.holds [] { args := args } = true := (pre_splitW hpre).2
  obtain ⟨d, r, rfl, h1, h2⟩ := hasAllW_cons hsh
  obtain rfl := hasAllW_nil h2
  obtain ⟨xs, rfl, h3⟩ := hasW_list h1
  obtain ⟨ns, rfl⟩ := items_int h3
  have hlen : ns.length ≤ n := by
    unfold OpenLaw.pre at hc
    have h4 : (WTm.not (.lt (.lit (.int (n : Int))) (.len (.arg 0)))).holds [] { args := [.list (ns.map .int)] } = true := by
      have h4 := (holds_andW hc).1
      rw [hn] at h4
      exact h4
    have h5 := condW_of h4 (w_not (w_lt w_lit (w_len_list (w_arg rfl))))
    rw [List.length_map] at h5
    refine Nat.le_of_not_lt fun q => ?_
    have q' : (n : Int) < ((ns.length : Nat) : Int) := by omega
    first
      | (rw [decide_eq_true q'] at h5; exact absurd h5 (by decide))
      | (simp at h5; omega)
  cases hwl with
  | cons w1 w2 =>
    cases w2
    cases w1 with
    | list ho hall => exact ⟨_, _, ns, rfl, rfl, ho, ints_of_wellAll ns _ hall, hlen⟩

theorem post_true (l : OpenLaw) (args : List WData) : l.row.toRowW.claim.post args (.bool true) args = true :=
  postW_of (r := l.row.toRowW) (X := (true == true))
    (show WShape.has [] (.bool true) .bool = true by first | rfl | decide | simp [WShape.has, WShape.arms, WShape.armsAll])
    (show (WTm.eq .res (.lit (.bool true))).value [] { args := args, res := some (.bool true), after := args } = some (.bool (true == true)) from w_eq_bool (w_res rfl) w_lit) rfl

/-! ### the attachment: holds_open's last premise (the goal 'hc' behind k_head) from a wpAny of the law's body -/
/-- the same from a codeAny of the CALL (for a layer whose function contracts speak of calls) -/
theorem attach_call {l : OpenLaw} {n : Nat} {q : Program} {loose : List Str} {XP : (Str → Option Value) → Heap → Prop} {YP : World → Heap → Prop} {d : DefRec}
    (hn : l.most = some n) (hdf : d.params.defaults = [])
    (call : ∀ (w : World) (s₀ s₁ : Shared) (mg mb : Str → Option Value) (fa : Addr) (o : Obj) (pm cd doc : Value) (a : Addr) (vs : List Value) (ns : List Int),
      Ground q loose [] XP w s₀ mg mb s₁.heap → YP w s₁.heap →
      s₁.heap.get? fa = some o → o.data = .func (docDef d.name d.params d.body d.scope pm cd doc) → s₁.heap.CodeRec cd d.name → mg d.name = some (.ref fa) →
      s₁.heap.get? a = some { cls := .type "list", data := .seq vs.toArray } → IntsAre vs ns → ns.length ≤ n → s₁.gens = #[] →
      codeAny (model l.prog w) callerA (.call (.ref fa) ⟨[.ref a], []⟩) (fun r s' => r = .ok (.ret (.bool true)) ∧ OldK s₁.heap s'.heap ∧ s'.os = s₁.os ∧ AllBare s'.gens) s₁) :
    WalkO q loose XP YP l.row.toRowW d [] (fun f vs => PySem.call f vs) := by
  intro w s₀ s₁ mg mb G Y fa o pm cd doc dV kV ho hd hcd hD hmg hg args vals as hpre hlay hrd hwl hlo
  obtain rfl : dV = .none := Dflts.none hD hdf
  obtain rfl : kV = .none := Dflts.noKw hD
  obtain ⟨a, vs, ns, rfl, rfl, hobj, hints, hlen⟩ := script_of hn hpre hwl
  refine enter_call (codeAny_mono (call w s₀ s₁ mg mb fa o pm cd doc a vs ns G Y ho (fd_plain hd) hcd hmg hobj hints hlen hg) fun r s' hq => ?_)
  obtain ⟨rfl, h2, h3, h4⟩ := hq
  exact ⟨.inl ⟨.bool true, .bool true, [], rfl, fun _ => rfl, .bool true, post_true l _, fun _ => ⟨List.Pairwise.nil, fun _ hm => (nomatch hm)⟩⟩, h2, h3, h4⟩

/-! ### rules over ANY heap (no ledger) from facts about the written part K: the library's own take a ledger (News) for what they write -/
section
variable {prog : Program} {w : World} {A : Around} {E : Value → Shared → Prop} {s : Shared} {K : Frag}

/-! the whole heap as the ledger: makes every rule that writes through a ledger a rule over any heap -/
end
end Att

namespace L2
open PySem PySem.Spec PyProof.Rows

theorem vals_ints : ∀ {vs : List Value} {ns : List Int}, IntsAre vs ns → Vals (ns.map V.int) vs
  | _, _, .nil => .nil
  | _, _, .cons n t h => .cons ⟨t, rfl⟩ (vals_ints h)

/-- nothing is tracked but the script, known to the object (or it is an object of the module) -/
def Only (H : Hp) : Prop := ∀ b, H b = none ∨ ∃ o xs, H b = some (.frz o (.lst xs))

/-- THE HEAD: the law's promise, at the heap behind the top. F, the promise of the law's def, may use that base is part of the heap (so K.In base, base.Ns mainGlobals mg stand in Mod) -/
theorem law_call {P : Program} {w : World} {K : PySem.W.Frag} {mg mb : Str → Option Value} {CX : CXT} {k : Nat} {fa a : Addr} {fd : FuncData} {x : Str} {sp : Sp} {s₁ : Shared} {vs : List Value} {ns : List Int}
    (KX : K.In s₁.heap) (hns : s₁.heap.Ns mainGlobals mg) (hb : s₁.heap.Ns builtinsNs mb) (hbb : ∀ x : Str, x ≠ "__name__" → mb x = bootBuiltins x) (hlim : s₁.heap.NoLimit) (hg : s₁.gens = #[])
    (ha : s₁.heap.get? a = some { cls := .type "list", data := .seq vs.toArray }) (hi : IntsAre vs ns) (hl : ns.length ≤ sizeLine) (hr : Room k callerA)
    (F : ∀ base : Heap, K.In base → base.Ns mainGlobals mg → FnOk P w K mg base CX k fa fd [x] sp) (hbind : ∀ (s : Shared) (u : Value), BindsTo s fd ⟨[u], []⟩ [(x, u)])
    (hsp : ∀ H : Hp, Only H → SqL K H a (ns.map V.int) → sp [.ref a] H (fun v _ => v = .bl true) fun _ _ _ => False)
    (hCX : ∀ H e s', CX [] H s₁ (fun _ _ _ => False) e s' → False) :
    codeAny (model P w) callerA (.call (.ref fa) ⟨[.ref a], []⟩) (fun r s' => r = .ok (.ret (.bool true)) ∧ OldK s₁.heap s'.heap ∧ s'.os = s₁.os ∧ AllBare s'.gens) s₁ := by
  have rv := vals_ints hi
  have lenV := hi.length
  -- from an abstract heap in which nothing but the script may be tracked
  have core : ∀ H : Hp, Only H → SqL K H a (ns.map V.int) → HOk P w H s₁.heap → (∀ b, H b ≠ none → b = a) → (H a ≠ none → K.lookup a = none) →
      codeAny (model P w) callerA (.call (.ref fa) ⟨[.ref a], []⟩) (fun r s' => r = .ok (.ret (.bool true)) ∧ OldK s₁.heap s'.heap ∧ s'.os = s₁.os ∧ AllBare s'.gens) s₁ := by
    intro H hO hS hok hA hK
    have base_of : ∀ {b : Addr} {o : Obj}, s₁.heap.get? b = some o → H b = none → (hidT s₁.heap H).get? b = some o := fun e n => hidT_get e n
    have noA : ∀ {b : Addr} {o : Obj} {es : Array DictEntry} {ep : Nat}, s₁.heap.get? b = some o → o.data = .dict es ep → H b = none := fun {b o es ep} e d => by
      cases q : H b with
      | none => rfl
      | some u =>
        have e' : b = a := hA b (by rw [q]; simp)
        subst e'
        rw [ha] at e; cases e
        have d' : Data.seq vs.toArray _ = Data.dict es ep := d
        cases d'
    have nsK : ∀ {b : Addr} {m : Str → Option Value}, s₁.heap.Ns b m → (hidT s₁.heap H).Ns b m := fun {b m} ⟨o, es, ep, e, d, r⟩ => ⟨o, es, ep, base_of e (noA e d), d, r⟩
    have hKb : K.In (hidT s₁.heap H) := fun b o e => base_of (KX b o e) (by
      cases q : H b with
      | none => rfl
      | some u =>
        have e' : b = a := hA b (by rw [q]; simp)
        subst e'
        rw [hK (by rw [q]; simp)] at e; cases e)
    have hM : Mod K mg (hidT s₁.heap H) := ⟨hKb, nsK hns, ⟨mb, nsK hb, hbb⟩, let ⟨mc, h1, h2⟩ := hlim; ⟨mc, nsK h1, h2⟩⟩
    have e0 : Env0 P w K mg (hidT s₁.heap H) callerA [] s₁ H := ⟨rfl, hM, fun b o e => of_hidT e, Nat.le_of_eq (hidT_size _ _), trivial, fun b hb => absurd (show b ∈ ([] : List Addr) from hb) (by simp), hok, .of_eq hg⟩
    refine codeAny_mono ((F _ hKb (nsK hns)).run callerA [] s₁ H ⟨[.ref a], []⟩ [.ref a] [.ref a] _ _ hr e0 (hbind s₁ (.ref a)) (.cons rfl .nil) (hsp H hO hS)) fun r s' h => ?_
    cases r with
    | error e => exact (hCX H e s' h).elim
    | ok fl =>
      cases fl with
      | next => exact False.elim h
      | brk => exact False.elim h
      | cont => exact False.elim h
      | ret u =>
        obtain ⟨v, H', os, bare, un, hok', r', q⟩ := h
        have q' : v = .bl true := q
        subst q'
        obtain rfl : u = Value.bool true := r'
        refine ⟨rfl, OldK.of_keep fun b o e => ?_, os, bare⟩
        cases q : H b with
        | none => exact un.keep b o e q (by intro z; exact absurd (show b ∈ ([] : List Addr) from z) (by simp)) (by simp)
        | some u =>
          rcases hO b with z | ⟨ob, xs, z⟩
          · rw [q] at z; cases z
          · have z2 := un.frzs b ob _ z
            obtain ⟨e1, _⟩ := hok b _ z
            obtain ⟨e2, _⟩ := hok' b _ z2
            rw [e] at e1; cases e1
            exact e2
  cases hk : K.lookup a with
  | some o =>
    -- the script is one of the module's own objects
    have e := KX a o hk
    rw [ha] at e
    cases e
    refine core (fun _ => none) (fun _ => .inl rfl) (.inr ⟨_, vs.toArray, _, hk, rfl, rfl, rfl, by rw [List.size_toArray, lenV]; exact hl, by simpa using rv⟩) (fun b u z => by have z' : (none : Option HO) = some u := z; cases z') (fun b z => absurd rfl z) fun z => absurd rfl z
  | none =>
    refine core (fun b => if b = a then some (.frz { cls := .type "list", data := .seq vs.toArray } (.lst (ns.map V.int))) else none) (fun b => ?_) (.inl (.inr ⟨{ cls := .type "list", data := .seq vs.toArray }, if_pos rfl⟩)) (fun b u z => ?_) (fun b z => ?_) fun _ => hk
    · by_cases hb : b = a
      · exact .inr ⟨_, _, if_pos hb⟩
      · exact .inl (if_neg hb)
    · by_cases hb : b = a
      · have z' := (if_pos hb).symm.trans z
        cases z'
        subst hb
        exact ⟨ha, by rw [List.length_map]; exact hl, vs, _, rv, ha⟩
      · have z' := (if_neg hb).symm.trans z
        cases z'
    · by_cases hb : b = a
      · exact hb
      · exact absurd (if_neg hb) z
end L2

namespace L2
open PySem PySem.Spec PyProof.Rows

/-- the goal that k_head leaves (case hc), from the law's promise. F gives the function object fd (K's own) once, then the promise over every base -/
theorem walk_of {l : PySem.W.OpenLaw} {n k : Nat} {q : Program} {loose : List Str} {XP : (Str → Option Value) → Heap → Prop} {YP : World → Heap → Prop} {d : DefRec} {K : Params → PySem.W.Frag} {CX : World → CXT} {sp : World → Sp} {x : Str}
    (hn : l.most = some n) (hn2 : n ≤ sizeLine) (hdf : d.params.defaults = []) (hr : Room k callerA)
    (hY : ∀ (w : World) (h : Heap), YP w h → (K w.params).In h)
    (F : ∀ (w : World) (mg : Str → Option Value) (fa : Addr) (h : Heap), (K w.params).In h → h.Ns mainGlobals mg → mg d.name = some (.ref fa) →
      ∃ fd : FuncData, (∀ (s : Shared) (u : Value), BindsTo s fd ⟨[u], []⟩ [(x, u)]) ∧
        ∀ base : Heap, (K w.params).In base → base.Ns mainGlobals mg → FnOk l.prog w (K w.params) mg base (CX w) k fa fd [x] (sp w))
    (hsp : ∀ (w : World) (H : Hp) (a : Addr) (ns : List Int), ns.length ≤ n → Only H → SqL (K w.params) H a (ns.map V.int) → sp w [.ref a] H (fun v _ => v = .bl true) fun _ _ _ => False)
    (hCX : ∀ (w : World) (H : Hp) (s : Shared) (e : Value) (s' : Shared), CX w [] H s (fun _ _ _ => False) e s' → False) :
    PySem.W.WalkO q loose XP YP l.row.toRowW d [] (fun f vs => PySem.call f vs) := by
  refine Att.attach_call hn hdf fun w s₀ s₁ mg mb fa o pm cd doc a vs ns G Y ho hd hcd hmg hobj hints hlen hg => ?_
  have KX := hY w _ Y
  obtain ⟨fd, hb, hF⟩ := F w mg fa _ KX G.T.g hmg
  exact law_call KX G.T.g G.T.b G.T.builtins G.T.nolimit hg hobj hints (Nat.le_trans hlen hn2) hr hF hb (fun H hO hS => hsp w H a ns hlen hO hS) fun H e s' => hCX w H s₁ e s'
end L2

/- THE LAST THEOREM (shape; LID, My.* are yours):
   My.Adr: a structure of the addresses that your layer names (classes, functions); My.Txt K t: a structure (Prop) of the equations over K;
   My.txt_mk : {K} {implicit addresses ..} (e1 : nsIn K mainGlobals "law" = some (some (.ref f))) (e2 : K.lookup f = some ⟨oc, od, .func (fnOf "law" "law" params body scope dV kV doc pm an cdv ct), sl⟩) (e3 : codeIn K cdv "law" = true) .. : ∃ t, My.Txt K t

set_option maxRecDepth 100000 in
set_option maxHeartbeats 0 in
(the tactic k_is has no namespace: write k_is) -/

/-! SHORT WORDS over the layer: a def of the text, its body, what a loop and a test want. -/
namespace L2
open PySem PySem.Spec PyProof.Rows

/-! ### the text by places -/
/-- the j-th statement of a class's body -/
def inClass (s : Stmt) (j : Nat) : Stmt := match s with
  | .ClassDef _ _ _ body _ _ _ _ _ _ _ => body.getD j (.Pass ⟨0, 0, 0, 0⟩)
  | _ => .Pass ⟨0, 0, 0, 0⟩
def defArgs (s : Stmt) : Arguments := match s with
  | .FunctionDef _ a _ _ _ _ _ _ _ _ => a
  | _ => { posonlyargs := [], args := [], vararg := none, kwonlyargs := [], kw_defaults := [], kwarg := none, defaults := [] }
def defBody (s : Stmt) : List Stmt := match s with
  | .FunctionDef _ _ b _ _ _ _ _ _ _ => b
  | _ => []
def defScope (s : Stmt) : Scope := match s with
  | .FunctionDef _ _ _ _ _ _ sc _ _ _ => sc
  | _ => { kind := .function, names := [], isGenerator := false, isCoroutine := false }

/-! ### no exception leaves a def -/
abbrev CX0 : CXT := fun _ _ _ _ _ _ => False
abbrev E0 : XK := fun _ _ _ => False
theorem pass0 {X : Cx} : Passes CX0 X E0 := fun _ _ _ _ _ _ _ h => h.elim

/-! ### a def (or method) of the text as it stands behind the top -/
structure Fun (K : PySem.W.Frag) (x qual : Str) (st : Stmt) (f : Addr) (fd : FuncData) : Prop where
  ex : ∃ (oc : Value) (od : Option Addr) (kV doc pm : Value) (an : Option Addr) (cdv ct : Value) (osl : Array (Option Value)),
    fd = PySem.W.fnOf x qual (defArgs st) (defBody st) (defScope st) .none kV doc pm an cdv ct ∧ K.lookup f = some ⟨oc, od, .func fd, osl⟩ ∧ PySem.W.codeIn K cdv qual = true
  kp : PySem.W.keepIn K (.ref f) = true
section
variable {P : Program} {w : World} {K : PySem.W.Frag} {mg : Str → Option Value} {base : Heap}
/-- THE RULE for a def: its body as a term of rules, and the reading of that term -/
theorem Fun.ok {x qual : Str} {st : Stmt} {f : Addr} {fd : FuncData} {N ps : List Str} {k : Nat} {sp : Sp} (F : Fun K x qual st f fd) (S : FnScope N ps (defScope st)) (len : ∀ vs H Q E, sp vs H Q E → vs.length = ps.length)
    (hbody : ∀ (cdv : Value) (A : Around) (outer : List Env) (s : Shared) (H : Hp) (vs : List V) (Q : VK) (E : XK), Room k (A.deeper (envOfC qual (defScope st) s.heap.objs.size f cdv)) → sp vs H Q E →
      ∃ t, PSs (cxOf CX0 P w K mg base N qual (defScope st) f cdv A outer s H E).nox (defBody st) t ∧ t { nx := fun _ H' => Q .non H', rt := Q } (start N vs) H) : FnOk P w K mg base CX0 (k + 1) f fd ps sp := by
  obtain ⟨oc, od, kV, doc, pm, an, cdv, ct, osl, rfl, lk, hcd⟩ := F.ex
  refine fn_of lk hcd S len fun A outer s H vs Q E hr hsp => ?_
  obtain ⟨t, h, q⟩ := hbody cdv A outer s H vs Q E hr hsp
  exact ⟨t, h.nox, q⟩
/-- how its arguments bind (no defaults): h is «fun _ _ _ _ _ _ us hl => match us, hl with | [_, _], _ => rfl», one _ a parameter -/
theorem Fun.binds {x qual : Str} {st : Stmt} {f : Addr} {fd : FuncData} {ps : List Str} (F : Fun K x qual st f fd)
    (h : ∀ (kV doc pm : Value) (an : Option Addr) (cdv ct : Value) (us : List Value), us.length = ps.length → bindArgs (PySem.W.fnOf x qual (defArgs st) (defBody st) (defScope st) .none kV doc pm an cdv ct) ⟨us, []⟩ = pure (ps.zip us)) : Binds K fd ps [] := by
  obtain ⟨oc, od, kV, doc, pm, an, cdv, ct, osl, rfl, lk, hcd⟩ := F.ex
  exact .all (h kV doc pm an cdv ct)
theorem fun_mk {x qual : Str} {st : Stmt} {f : Addr} {oc : Value} {od an : Option Addr} {osl : Array (Option Value)} {kV doc pm cdv ct : Value} (l : K.lookup f = some ⟨oc, od, .func (PySem.W.fnOf x qual (defArgs st) (defBody st) (defScope st) .none kV doc pm an cdv ct), osl⟩)
    (c : PySem.W.codeIn K cdv qual = true) (k : PySem.W.keepIn K (.ref f) = true) : Fun K x qual st f (PySem.W.fnOf x qual (defArgs st) (defBody st) (defScope st) .none kV doc pm an cdv ct) := ⟨⟨oc, od, kV, doc, pm, an, cdv, ct, osl, rfl, l, c⟩, k⟩
end
theorem hu_of {A : Around} {k : Nat} (hr : Room k A) : A.units + 1 < cLine := Nat.lt_of_le_of_lt (Nat.add_le_add_left (by decide : 1 ≤ 64) _) hr.units
theorem small1000 {n : Nat} (h : n ≤ 1000) : n < sizeLine := Nat.lt_of_le_of_lt h (by decide)

/-! ### expressions in short: the name that stands in the i-th slot -/
section
variable {X : Cx}
/-- len of a dict -/
theorem call_lenD : CallR X (.builtin "len") (fun xs H Q => ∃ a kvs, xs = [V.ref a] ∧ H a = some (.dK kvs) ∧ Q (.int kvs.length) H) := by
  intro pins s σ H xs us Q I r h
  obtain ⟨a, kvs, rfl, ha, q⟩ := h
  obtain ⟨u, rfl, ru⟩ := vals1 r
  cases ru
  exact d_len I (.inl ha) fun t s' I' => ⟨.int kvs.length, H, I', ⟨t, rfl⟩, q⟩
end

/-! ### tests -/
/-! ### heaps -/
/-- all that was tracked is as it was -/
def Same (H H' : Hp) : Prop := ∀ b o, H b = some o → H' b = some o
theorem Same.refl (H : Hp) : Same H H := fun _ _ h => h
theorem Same.trans {H H1 H2 : Hp} (a : Same H H1) (b : Same H1 H2) : Same H H2 := fun c o h => b c o (a c o h)
theorem Same.free {H H' : Hp} (e : Same H H') {l : Addr} (h : H' l = Option.none) : H l = Option.none := by
  cases q : H l with
  | none => rfl
  | some o =>
    rw [e l o q] at h
    cases h
theorem Same.seq {K : PySem.W.Frag} {H H' : Hp} {a : Addr} {xs : List V} (e : Same H H') (h : SqL K H a xs) : SqL K H' a xs := by
  rcases h with (h | ⟨o, h⟩) | h
  · exact .inl (.inl (e _ _ h))
  · exact .inl (.inr ⟨o, e _ _ h⟩)
  · exact .inr h

/-! ### a dict's pairs: keys that differ -/
section
variable {κ : Type} [DecidableEq κ]
theorem nd_snoc : ∀ {l : List κ} {k : κ}, l.Nodup → ¬ k ∈ l → (l ++ [k]).Nodup
  | [], k, _, _ => by simp
  | a :: r, k, h, hk => by
    obtain ⟨h1, h2⟩ := List.nodup_cons.mp h
    show (a :: (r ++ [k])).Nodup
    refine List.nodup_cons.mpr ⟨fun m => ?_, nd_snoc h2 fun m => hk (List.mem_cons.mpr (Or.inr m))⟩
    rcases List.mem_append.mp m with q | q
    · exact h1 q
    · exact hk (List.mem_cons.mpr (Or.inl (List.mem_singleton.mp q).symm))
end
end L2

set_option Elab.async false
set_option linter.all false
set_option maxRecDepth 100000
set_option maxHeartbeats 4000000

namespace L2
open PySem PySem.Spec PyProof.Rows

/-! ### my own: heaps that only grow -/
theorem same_upd {H : Hp} {p : Addr} {o : HO} (h : H p = none) : Same H (upd H p o) := fun b u e => by
  rw [upd_ne (ne_of_none e h)]
  exact e
theorem Same.put {H H' : Hp} {p : Addr} {o : HO} (s : Same H H') (h : H p = none) : Same H (L2.upd H' p o) := fun b u e => by
  rw [upd_ne (ne_of_none e h)]
  exact s b u e

/-! ### two ways -/
@[irreducible] def br (c : Bool) (A B : Prop) : Prop := match c with
  | true => A
  | false => B
theorem br_t {c : Bool} {A B : Prop} (hc : c = true) (h : A) : br c A B := by
  subst hc
  unfold br
  exact h
theorem br_f {c : Bool} {A B : Prop} (hc : c = false) (h : B) : br c A B := by
  subst hc
  unfold br
  exact h
theorem br_true {A B : Prop} : br true A B = A := by unfold br; rfl
theorem br_false {A B : Prop} : br false A B = B := by unfold br; rfl
theorem br_ite {c : Bool} {A B : Prop} (h : br c A B) : if c = true then A else B := by
  cases c
  · rw [br_false] at h
    simpa using h
  · rw [br_true] at h
    simpa using h
theorem br_of {c : Bool} {A B : Prop} (h1 : c = true → A) (h2 : c = false → B) : br c A B := by
  cases c
  · exact br_f rfl (h2 rfl)
  · exact br_t rfl (h1 rfl)
theorem br_dec {c : Prop} [Decidable c] {A B : Prop} (h1 : c → A) (h2 : ¬ c → B) : br (decide c) A B := br_of (fun h => h1 (of_decide_eq_true h)) (fun h => h2 (of_decide_eq_false h))
theorem br_not {c : Bool} {A B : Prop} (h : br c B A) : br (!c) A B := by
  cases c
  · rw [br_false] at h
    exact br_t rfl h
  · rw [br_true] at h
    exact br_f rfl h

/-! ### isinstance -/
theorem call_isinst {X : Cx} : CallR X (.builtin "isinstance") (fun xs H Q => ∃ (x : V) (t : Value) (b : Bool) (T : String), xs = [x, .ty T] ∧ TyOf X.K H x t ∧ PySem.W.kitOne X.K t (.type T) = some b ∧ Q (.bl b) H) := by
  intro pins s σ H xs us Q I r h
  obtain ⟨x, t, b, T, rfl, ty, e, q⟩ := h
  obtain ⟨u, w', rfl, ru, rw'⟩ := vals2 r
  cases rw'
  exact isinst_ok I ru ty e fun tk => ⟨.bl b, H, I.tok tk, rfl, q⟩
/-- the kinds, without the written part: what a value is, told apart by the abstract heap -/
def kindV (H : Hp) : V → Option String
  | .non => some "NoneType"
  | .bl _ => some "bool"
  | .int _ => some "int"
  | .str _ => some "str"
  | .ref a => match H a with
    | some (.lst _) => some "list"
    | some (.frz _ (.lst _)) => some "list"
    | some (.tup _) => some "tuple"
    | some (.dK _) => some "dict"
    | some (.dT _) => some "dict"
    | _ => none
  | _ => none
theorem tyOf_kind {K : PySem.W.Frag} {H : Hp} {x : V} {T : String} (e : kindV H x = some T) : TyOf K H x (.type T) := by
  unfold kindV at e
  split at e
  · cases e; exact .non
  · cases e; exact .bl _
  · cases e; exact .int _
  · cases e; exact .str _
  · split at e
    · cases e; exact .lst (by assumption)
    · cases e; exact .frz (by assumption)
    · cases e; exact .tup (by assumption)
    · cases e; exact .dK (by assumption)
    · cases e; exact .dT (by assumption)
    · cases e
  · cases e
/-- isinstance(a thing of kind S, T) for the built-in kinds -/
def isKind (S T : String) : Bool := S == T || (S == "bool" && T == "int")
def ownKinds : List String := ["NoneType", "bool", "int", "str", "list", "tuple", "dict"]
theorem kit_tt {K : PySem.W.Frag} {S T : String} {l : List Value} (hm : PySem.W.kitMeta T = true) (hl : fastBuiltinMro S = some l) : PySem.W.kitOne K (.type S) (.type T) = some ((Value.type S == Value.type T) || l.contains (.type T)) := by
  show (if (Value.type S == Value.type T) = true then some true else if PySem.W.kitMeta T = true then (fastBuiltinMro S).map (·.contains (.type T)) else none) = _
  rw [hm, hl]
  cases (Value.type S == Value.type T) <;> rfl
def rIsi : List V → Hp → VK → Prop := fun xs H Q => ∃ (x : V) (S T : String), xs = [x, .ty T] ∧ kindV H x = some S ∧ T ∈ ["str", "int", "bool", "list", "tuple", "dict"] ∧ Q (.bl (isKind S T)) H
theorem kindV_own {H : Hp} {x : V} {S : String} (e : kindV H x = some S) : S ∈ ownKinds := by
  unfold kindV at e
  split at e
  · cases e; decide
  · cases e; decide
  · cases e; decide
  · cases e; decide
  · split at e <;> first | (cases e; done) | (cases e; decide)
  · cases e
theorem kit_own {K : PySem.W.Frag} : ∀ S ∈ ownKinds, ∀ T ∈ ["str", "int", "bool", "list", "tuple", "dict"], PySem.W.kitOne K (.type S) (.type T) = some (isKind S T) := by
  intro S hS T hT
  have hm : PySem.W.kitMeta T = true := by
    revert T
    decide +kernel
  have hl : ∃ l, fastBuiltinMro S = some l ∧ ∀ T ∈ ["str", "int", "bool", "list", "tuple", "dict"], ((Value.type S == Value.type T) || l.contains (.type T)) = isKind S T := by
    revert S
    have : ∀ S ∈ ownKinds, (match fastBuiltinMro S with | some l => ["str", "int", "bool", "list", "tuple", "dict"].all fun T => ((Value.type S == Value.type T) || l.contains (.type T)) == isKind S T | none => false) = true := by decide +kernel
    intro S hS
    have e := this S hS
    split at e
    · rename_i l hl
      refine ⟨l, hl, fun T hT => ?_⟩
      exact eq_of_beq (List.all_eq_true.mp e T hT)
    · cases e
  obtain ⟨l, h1, h2⟩ := hl
  rw [kit_tt hm h1, h2 T hT]
theorem call_isi {X : Cx} : CallR X (.builtin "isinstance") rIsi := by
  intro pins s σ H xs us Q I r h
  obtain ⟨x, S, T, rfl, e, hT, q⟩ := h
  exact call_isinst pins s σ H _ us Q I r ⟨x, .type S, isKind S T, T, rfl, tyOf_kind e, kit_own S (kindV_own e) T hT, q⟩

/-! ### texts -/
theorem op_le_str {X : Cx} : OpR X (compareOp .LtE) (fun x y H Q => ∃ i j, x = .str i ∧ y = .str j ∧ Q (.bl (!decide (j.cps.toList < i.cps.toList))) H) := by
  intro pins s σ H x y v u Q I rx ry h
  obtain ⟨i, j, rfl, rfl, q⟩ := h
  obtain ⟨t, rfl⟩ := rx
  obtain ⟨t', rfl⟩ := ry
  exact PySem.P.le_str (fin_bl I q rfl)
theorem sl_str {X : Cx} : SlR X (fun x lo hi H Q => ∃ z, x = .str z ∧ z.length ≤ sizeLine ∧ Q (.str (Txt.slice z lo hi)) H) := by
  intro pins s σ H x v vl vu lo hi sl Q I rx hs pl pu h
  obtain ⟨z, rfl, hz, q⟩ := h
  obtain ⟨t, rfl⟩ := rx
  refine ⟨"str", _, F.slot_str_getitem.lookup, typeIs_str _ _ _, ?_⟩
  have go : ∀ (l u : Option (Int × Tok)), vl = partValue l → vu = partValue u → lo = l.map (·.1) → hi = u.map (·.1) → wpAny (model X.prog X.w) X.A (getItem (.str z t) (.ref sl)) (EP X pins σ Q) X.xe s := by
    intro l u e1 e2 e3 e4
    subst e1 e2 e3 e4
    refine wpAny_getItem_str_slice (l := l) (u := u) (st := none) hs rfl ?_
    exact post_val_or_str ⟨Nat.le_trans (Txt.slice_le z _ _) hz, fun t' k => ⟨.str _, H, I.tok k, ⟨t', rfl⟩, q⟩⟩
  cases pl with
  | none =>
    cases pu with
    | none => exact go none none rfl rfl rfl rfl
    | int i t' => exact go none (some (i, t')) rfl rfl rfl rfl
  | int j t2 =>
    cases pu with
    | none => exact go (some (j, t2)) none rfl rfl rfl rfl
    | int i t' => exact go (some (j, t2)) (some (i, t')) rfl rfl rfl rfl
/-- a text told n times -/
def repS (z : Str) (n : Nat) : Str := ⟨(List.replicate n z.cps.toList).flatten.toArray⟩
theorem repS_length (z : Str) (n : Nat) : (repS z n).length = n * z.length := by
  show ((List.replicate n z.cps.toList).flatten.toArray).size = n * z.cps.size
  rw [List.size_toArray, List.length_flatten, List.map_replicate, List.sum_replicate_nat, Array.length_toList]
theorem foldl_app (a : Array Nat) : ∀ (n : Nat) (acc : Array Nat), ((List.replicate n a).foldl (· ++ ·) acc).toList = acc.toList ++ (List.replicate n a.toList).flatten
  | 0, acc => by simp
  | n + 1, acc => by
    rw [List.replicate_succ, List.foldl_cons, foldl_app a n, Array.toList_append, List.replicate_succ, List.flatten_cons, List.append_assoc]
theorem op_mul_str {X : Cx} : OpR X (binaryOp .Mult) (fun x y H Q => ∃ z n, x = .str z ∧ y = .int n ∧ 0 < z.length ∧ 0 ≤ n ∧ n < 2 ^ 31 ∧ n.toNat * z.length ≤ sizeLine ∧ Q (.str (repS z n.toNat)) H) := by
  intro pins s σ H x y v u Q I rx ry h
  obtain ⟨z, n, rfl, rfl, h0, hn, h1, hz, q⟩ := h
  obtain ⟨t, rfl⟩ := rx
  obtain ⟨t', rfl⟩ := ry
  have hs : sizeLine = 16777216 := sizeLine_eq
  by_cases hn0 : n < 1
  · have e : n = 0 := by omega
    subst e
    refine PySem.P.mul_str_none (by decide) (by decide) ⟨.str (repS z 0), H, I.tok _, ⟨_, rfl⟩, q⟩
  · have hz' : z.length * n.toNat ≤ sizeLine := by rw [Nat.mul_comm]; exact hz
    have ez : ⟨(List.replicate n.toNat z.cps).foldl (· ++ ·) #[]⟩ = repS z n.toNat := by
      unfold repS
      congr 1
      apply Array.toList_inj.mp
      rw [foldl_app]
      simp
    refine PySem.P.mul_str (by simp; omega) (fun _ _ => ?_) (fun _ _ => ?_) ?_
    · have e1 : (z.length : Int) * n ≤ 16777216 := by
        have := hz'
        have e2 : ((z.length * n.toNat : Nat) : Int) = (z.length : Int) * n := by rw [Int.natCast_mul, Int.toNat_of_nonneg hn]
        omega
      intro h3
      have h4 : (2 ^ 63 - 1) / n < (z.length : Int) := h3
      have h5 : (2 ^ 63 - 1 : Int) < (z.length : Int) * n := Int.lt_mul_of_ediv_lt (by omega) h4
      omega
    · unfold Builtin.Str.tooLong
      exact decide_eq_false (by omega)
    · rw [if_neg hn0]
      by_cases h1' : (n == 1 || z.length == 0) = true
      · rw [if_pos h1']
        have en : n = 1 := by
          rcases Bool.or_eq_true _ _ ▸ h1' with z1 | z1
          · exact eq_of_beq z1
          · have := eq_of_beq z1; omega
        subst en
        have er : repS z (1 : Int).toNat = z := by
          unfold repS
          simp
        rw [er] at q
        exact ⟨.str z, H, I, ⟨_, rfl⟩, q⟩
      · rw [if_neg h1', ez]
        exact ⟨by show (repS z n.toNat).length ≤ sizeLine; rw [repS_length]; exact hz, .str _, H, I.tok _, ⟨_, rfl⟩, q⟩

/-! ### all of a list of truths -/
theorem call_all_bl {X : Cx} (hc : X.calm = true) : CallR X (.builtin "all") (fun xs H Q => ∃ p bs, xs = [.ref p] ∧ SqL X.K H p (List.map V.bl bs) ∧ Q (.bl (bs.all id)) H) := by
  intro pins s σ H xs us Q I r h
  obtain ⟨p, bs, rfl, hp, q⟩ := h
  obtain ⟨u, rfl, ru⟩ := vals1 r
  cases ru
  obtain ⟨its, rv, pl, hz⟩ := I.list hp
  have hlt : p < s.heap.objs.size := by
    obtain ⟨o, n, e, _⟩ := pl
    exact Heap.lt_size e
  have hlen : its.length = bs.length := by rw [← rv.length, List.length_map]
  refine call_all_walk (wpAny_pyIter_list pl.isList ?_)
  refine ⟨s.heap.objs.size, _, _, _, _, _, fun i => bs.getD i true, rfl, Walks.list (show X.A.in1.handled = none from I.ok.hd hc) s.heap.objs.size p (Nat.ne_of_lt hlt) its.toArray, ⟨⟨_, Heap.get?_push_size _ rfl, rfl, rfl⟩, pl.isList.at fun o e => Heap.get?_push_of_some _ e⟩, ?_, ?_⟩
  · intro i v s' Q' E' hv hq
    have hv' : its[i]? = some v := by simpa using hv
    have hb : bs[i]? = some (bs.getD i true) := by
      have hi : i < bs.length := by rw [← hlen]; exact (List.getElem?_eq_some_iff.mp hv').1
      simp [List.getD, hi]
    obtain ⟨u, hu, ru⟩ := rv.get (i := i) (x := .bl (bs.getD i true)) (by rw [List.getElem?_map, hb]; rfl)
    rw [hv'] at hu
    cases hu
    cases ru
    exact wpAny_truthy_bool hq
  · intro h' tk hk
    have e : ((List.range its.toArray.size).all fun i => bs.getD i true) = bs.all id := by
      rw [List.size_toArray, hlen]
      rw [Bool.eq_iff_iff, List.all_eq_true, List.all_eq_true]
      constructor
      · intro h b hb
        obtain ⟨i, hi, e⟩ := List.mem_iff_getElem.mp hb
        have := h i (List.mem_range.mpr hi)
        simp [List.getD, hi, e] at this
        exact this
      · intro h i hi
        have hi' := List.mem_range.mp hi
        have := h bs[i] (List.getElem_mem hi')
        simp [List.getD, hi']
        exact this
    rw [e]
    exact ⟨.bl _, H, I.kept (h' := h') (t' := tk) fun b o eo => hk b o (by
      have : b < s.heap.objs.size := Heap.lt_size eo
      simp
      exact Nat.ne_of_lt this) (Heap.get?_push_of_some _ eo), rfl, q⟩
/-- the same of a list that is tracked -/
theorem call_all0 {X : Cx} (hc : X.calm = true) : CallR X (.builtin "all") (fun xs H Q => ∃ p bs, xs = [.ref p] ∧ Rd H p (.lst (List.map V.bl bs)) ∧ Q (.bl (bs.all id)) H) := by
  intro pins s σ H xs us Q I r h
  obtain ⟨p, bs, e, hp, q⟩ := h
  exact call_all_bl hc pins s σ H xs us Q I r ⟨p, bs, e, .inl hp, q⟩

/-! ### what may be walked: tracked things -/
theorem Turn.imp {P : Program} {w : World} {K : PySem.W.Frag} {tg : Expr} {J J' : It} {fp : List Addr} {it : Addr} {tn : Nat → Heap → Prop} (T : Turn P w K tg J fp it tn)
    (hg : ∀ i H, J'.go i H → J.go i H) (hy : ∀ i H x H', J'.go i H → J.yld i H x H' → J'.yld i H x H') (hs : ∀ i H, J'.stop i H → J.stop i H) : Turn P w K tg J' fp it tn :=
  ⟨T.mem, T.obj, T.keep, fun X e1 e2 e3 hc i pins s σ H E I hf st g => thn (T.item X e1 e2 e3 hc i pins s σ H E I hf st (hg i H g)) fun r s1 ⟨u, e, h⟩ => ⟨u, e, thn h fun _ s2 ⟨x, H', I', rx, y, st', fr⟩ => ⟨x, H', I', rx, hy i H x H' g y, st', fr⟩⟩,
    fun X e1 e2 e3 hc i pins s σ H E I hf st g => T.done X e1 e2 e3 hc i pins s σ H E I hf st (hs i H g), T.self⟩
/-- a tracked list; a tracked tuple; a text -/
def Itl0 (a : Addr) : It := ⟨fun i H => ∃ xs x, Rd H a (.lst xs) ∧ xs[i]? = some x, fun i H x H' => H' = H ∧ ∀ xs, Rd H a (.lst xs) → xs[i]? = some x, fun i H => ∃ xs, Rd H a (.lst xs) ∧ xs.length ≤ i⟩
def Itt0 (a : Addr) : It := ⟨fun i H => ∃ xs x, Rd H a (.tup xs) ∧ xs[i]? = some x, fun i H x H' => H' = H ∧ ∀ xs, Rd H a (.tup xs) → xs[i]? = some x, fun i H => ∃ xs, Rd H a (.tup xs) ∧ xs.length ≤ i⟩
def Its (z : Str) : It := ⟨fun i _ => i < z.length, fun i H x H' => H' = H ∧ ∃ c, z.cps[i]? = some c ∧ x = .str ⟨#[c]⟩, fun i _ => z.length ≤ i⟩
theorem turn_str {P : Program} {w : World} {K : PySem.W.Frag} {tg : Expr} (it : Addr) (z : Str) (t : Tok) (ty : String) (hty : ty = "str_ascii_iterator" ∨ ty = "str_iterator") : Turn P w K tg (Its z) [it] it (fun i h => h.IsStrIter it ty z t i) where
  mem := by simp
  obj := fun i h st b hb => by
    have e : b = it := by simpa using hb
    subst e
    obtain ⟨o, e, c, d⟩ := st
    exact ⟨o, e, fun v z => by rw [d] at z; cases z⟩
  keep := fun i h h' st k => by
    obtain ⟨o, e, r⟩ := st
    exact ⟨o, k it (by simp) o e, r⟩
  item := by
    intro X hP hw hK hc i pins s σ H E I hf st hg
    subst hP hw hK
    obtain ⟨f0, f1, f2, f3, f4, f5⟩ := hf it (by simp)
    have hg' : i < z.cps.size := hg
    have W : Walks X.prog X.w X.A it [it] [it] z.cps.size (SignAt z) (fun i h => h.IsStrIter it ty z t i) := by
      rcases hty with rfl | rfl
      · exact Walks.strAscii (I.ok.hd hc) it z t
      · exact Walks.strWide (I.ok.hd hc) it z t
    refine W.item i s _ _ hg' st fun v h' tk hv st' kk => ?_
    obtain ⟨c, u, hcu, rfl⟩ := hv
    have I1 : Inv X pins σ H { s with heap := h', toks := tk } := I.turned (fun b o hb e => kk b o (by simpa using hb) e) f0 f1 f3 f4 f5
    obtain ⟨o, e, cl, d⟩ := id st'
    have hn : ["enumerate", "zip", "dict_itemiterator", "dict_reverseitemiterator", "odict_iterator", "itertools.zip_longest", "itertools.pairwise"].contains ty = false := by
      rcases hty with rfl | rfl <;> decide
    exact ⟨_, rfl, go_of (s := { s with heap := h', toks := tk }) e cl d hn ⟨.str ⟨#[c]⟩, H, I1, ⟨u, rfl⟩, ⟨rfl, c, hcu, rfl⟩, st', fun b hb => (hf b hb).1⟩⟩
  done := by
    intro X hP hw hK hc i pins s σ H E I hf st hg
    subst hP hw hK
    obtain ⟨f0, f1, f2, f3, f4, f5⟩ := hf it (by simp)
    have hg' : z.cps.size ≤ i := hg
    rcases hty with rfl | rfl
    · exact wpAny_pyNext_ascii_end (I.ok.hd hc) st (by simp; omega) fun h' eb => ⟨rfl, I.turned (t' := s.toks) (fun b o hb e => eb b o hb e) f0 f1 f3 f4 f5⟩
    · exact wpAny_pyNext_wide_end (I.ok.hd hc) st (by simp; omega) fun h' eb => ⟨rfl, I.turned (t' := s.toks) (fun b o hb e => eb b o hb e) f0 f1 f3 f4 f5⟩
  self := fun A i s Q E st h => by
    rcases hty with rfl | rfl
    · exact wpAny_pyIter_striter_ascii st h
    · exact wpAny_pyIter_striter_wide st h
section
variable {X : Cx} {tg : Expr}
/-- (a, b, ..) = a tracked tuple of that length -/
def gTup0 (n : Nat) (t : TGs) : TG := fun v σ H Q => ∃ a xs, v = .ref a ∧ Rd H a (.tup xs) ∧ xs.length = n ∧ t xs σ H Q
theorem pg_tup0 {es : List Expr} {k : Nat} {t : TGs} {n : Nat} {pos : Pos} (hc : X.calm = true) (h : PGs X es t) (hn : (assignEach es X.env).length = n := by rfl) (hst : (assignEach es X.env).findIdx? (·.1) = none := by rfl) : PG X (.Tuple es k pos) (gTup0 n t) :=
  fun pins s σ H v u Q I r ⟨a, xs, e, hq, hl, hw⟩ => pg_tup (X := X) hc h hn hst pins s σ H v u Q I r ⟨a, xs, e, .inl hq, hl, hw⟩
/-- o.f of an instance of the class at C -/
def tFld0 (C : Addr) (ta : TE) (f : Str) : TE := fun σ H Q => ta σ H fun x H1 => ∃ a dx fs v, x = .ref a ∧ H1 a = some (.ins C dx fs) ∧ fs.lookup f = some v ∧ Q v H1
theorem pe_fld0 {C : Addr} {e : Expr} {f : Str} {pos : Pos} {ta : TE} (c : Cls X.K C) (n : NoAttr X.K C f) (he : PE X e ta) (hb : attributeBase e f X.env (eval e X.env) = eval e X.env) : PE X (.Attribute e f pos) (tFld0 C ta f) := by
  intro pins s σ H Q I h
  refine attr_of hb (thn (he pins s σ H _ I h) fun u s1 ⟨x, H1, I1, rx, a, dx, fs, v, ex, ea, l, q⟩ => ?_)
  subst ex
  obtain rfl : u = Value.ref a := rx
  exact getattr_ok I1 ea c n l fun u' s2 I2 ru => ⟨v, H1, I2, ru, q⟩
end
/-- loops over tracked lists, over texts -/
theorem for_list0 {a : Addr} {xs : List V} {g : TG} {tb : TS} {D : Ends} {σ : St} {H : Hp} (Pv : Nat → St → Hp → Prop) (h0 : Pv 0 σ H) (hl : ∀ i σ H, i ≤ xs.length → Pv i σ H → Rd H a (.lst xs))
    (hs : ∀ i x σ H, xs[i]? = some x → Pv i σ H → g x σ H fun σ2 H2 => tb { D with nx := Pv (i + 1), ct := Pv (i + 1), bk := D.nx } σ2 H2) (hd : ∀ σ H, Pv xs.length σ H → D.nx σ H) :
    ∃ W : Nat → Nat → St → Hp → Prop, (∃ m, W 0 m σ H) ∧ ∀ i m σ H, W i m σ H →
      ((Itl0 a).stop i H ∧ D.nx σ H) ∨ ((Itl0 a).go i H ∧ ∃ N : St → Hp → Prop, (∀ σ' H', N σ' H' → ∃ m', m' < m ∧ W (i + 1) m' σ' H') ∧ ∀ x H', (Itl0 a).yld i H x H' → g x σ H' fun σ2 H2 => tb { D with nx := N, ct := N, bk := D.nx } σ2 H2) := by
  refine ⟨fun i m σ H => m = xs.length - i ∧ i ≤ xs.length ∧ Pv i σ H, ⟨xs.length, by simp, Nat.zero_le _, h0⟩, ?_⟩
  rintro i m σ H ⟨rfl, hi, p⟩
  have q := hl i σ H hi p
  by_cases hlt : i < xs.length
  · refine .inr ⟨⟨xs, xs[i], q, by simp [hlt]⟩, Pv (i + 1), fun σ' H' p' => ⟨xs.length - (i + 1), by omega, rfl, hlt, p'⟩, fun x H' y => ?_⟩
    obtain ⟨e, y⟩ := y
    subst e
    exact hs i x σ _ (y xs q) p
  · have e : i = xs.length := by omega
    subst e
    exact .inl ⟨⟨xs, q, Nat.le_refl _⟩, hd σ H p⟩
/-! ### a comprehension -/
/-- the tests of a clause -/
def PIfs (X : Cx) (ifs : List Expr) (t : TT) : Prop :=
  ∀ (pins : List (Addr × Obj)) (s : Shared) (σ : St) (H : Hp) (Q : Bool → Hp → Prop), Inv X pins σ H s → t σ H Q →
    wpAny (model X.prog X.w) X.A (forIn ifs true fun c r => if r = true then do let ok ← isTrue c X.env (eval c X.env); pure (ForInStep.yield ok) else pure (ForInStep.yield r)) (TP X pins σ Q) X.xe s
def tYes : TT := fun _ H Q => Q true H
theorem pif_nil {X : Cx} : PIfs X [] tYes := fun pins s σ H Q I h => by
  rw [List.forIn_nil]
  exact wpAny_pure ⟨H, I, h⟩
theorem pif_one {X : Cx} {c : Expr} {t : TT} (hc : PT X c t) : PIfs X [c] t := fun pins s σ H Q I h => by
  rw [List.forIn_cons, if_pos rfl]
  refine wpAny_bind (wpAny_bind (thn (hc pins s σ H Q I h) fun b s1 q => ?_))
  refine wpAny_pure ?_
  dsimp only
  rw [List.forIn_nil]
  exact wpAny_pure q

/-- the names that a comprehension takes from around it: each with its slot there -/
inductive FreeOk (X : Cx) (scope : Scope) (cl : List (Str × Addr)) : List (Str × Nat) → Prop where
  | nil : FreeOk X scope cl []
  | cons {x : Str} {j : Nat} {fr : List (Str × Nat)} (h1 : X.N[j]? = some x) (h2 : X.env.kindOf x = some .cell) (h3 : (relabel scope X.env).names.lookup x = some .cell) (h4 : cl.lookup x = X.env.cells.lookup x) (r : FreeOk X scope cl fr) : FreeOk X scope cl ((x, j) :: fr)
theorem FreeOk.get {X : Cx} {scope : Scope} {cl : List (Str × Addr)} : ∀ {fr : List (Str × Nat)}, FreeOk X scope cl fr → ∀ {k : Nat} {q : Str × Nat}, fr[k]? = some q →
    X.N[q.2]? = some q.1 ∧ X.env.kindOf q.1 = some .cell ∧ (relabel scope X.env).names.lookup q.1 = some .cell ∧ cl.lookup q.1 = X.env.cells.lookup q.1
  | _, .nil, _, _, h => by simp at h
  | _, .cons h1 h2 h3 h4 r, 0, q, h => by
    simp at h
    subst h
    exact ⟨h1, h2, h3, h4⟩
  | _, .cons _ _ _ _ r, k + 1, q, h => r.get (k := k) (by simpa using h)
/-- what is only known when it runs -/
structure CDyn where
  fp : List Addr
  pins : List (Addr × Obj)
  s : Shared
  H : Hp
  C : Addr
/-- the context of a comprehension's block -/
def compCx (X : Cx) (tn : List Str) (fr : List (Str × Nat)) (scope : Scope) (cl : List (Str × Addr)) (d : CDyn) : Cx where
  prog := X.prog
  w := X.w
  K := X.K
  mg := X.mg
  base := X.base
  A := X.A
  N := tn ++ fr.map (·.1)
  s₀ := d.s
  H₀ := d.H
  env := compEnvC scope cl d.C X.env
  outer := X.stack
  stack := X.stack
  ex := d.fp
  fn := fun _ => false
  calm := X.calm
  pn := X.pn ++ d.pins
  xe := fun _ _ => False
def inn (tn : List Str) (fr : List (Str × Nat)) (σ : St) : St := tn.map (fun _ => none) ++ fr.map fun q => (σ[q.2]?).join
/-- targets store into the first n slots alone -/
def KeepsG (n : Nat) (g : TG) : Prop := ∀ v σ H Q, g v σ H Q → g v σ H fun σ' H' => Q σ' H' ∧ σ'.drop n = σ.drop n
def KeepsGs (n : Nat) (g : TGs) : Prop := ∀ v σ H Q, g v σ H Q → g v σ H fun σ' H' => Q σ' H' ∧ σ'.drop n = σ.drop n
theorem kg_name {n i : Nat} (h : i < n := by decide) : KeepsG n (gName i) := fun v σ H Q q => ⟨q, List.drop_set_of_lt h⟩
theorem kg_nil {n : Nat} : KeepsGs n gNil := fun v σ H Q ⟨e, q⟩ => ⟨e, q, rfl⟩
theorem kg_tup {n k : Nat} {t : TGs} (h : KeepsGs n t) : KeepsG n (gTup0 k t) := fun v σ H Q ⟨a, xs, e, hr, hl, q⟩ => ⟨a, xs, e, hr, hl, h _ _ _ _ q⟩

def tComp (wi : TI) (tn : List Str) (fr : List (Str × Nat)) (g : TG) (tt : TT) (te : TE) : TE := fun σ H Q => wi σ H fun J H1 => ∀ p, H1 p = none →
  ∃ W : Nat → Nat → Hp → Prop, (∃ m, W 0 m (upd H1 p (.lst []))) ∧ ∀ i m G, W i m G →
    (J.stop i G ∧ Q (.ref p) G) ∨ (J.go i G ∧ ∃ N : Hp → Prop, (∀ G', N G' → ∃ m', m' < m ∧ W (i + 1) m' G') ∧ ∀ x G', J.yld i G x G' →
      g x (inn tn fr σ) G' fun σ2 G2 => tt σ2 G2 fun b G3 => br b (te σ2 G3 fun y G4 => ∃ ys, G4 p = some (.lst ys) ∧ ys.length < sizeLine ∧ N (upd G4 p (.lst (ys ++ [y])))) (N G3))

section
variable {prog : Program} {w : World} {A : Around} {R : Result → Shared → Prop} {s : Shared}
theorem compLoop_go {elt target iter : Expr} {ifs : List Expr} {scope : Scope} {pos : Pos} {it acc : Value} {env : Env} (I : Nat → Shared → Prop)
    (turn : ∀ n s, I n s → wpAny (model prog w) A (pyNext it) (fun r s₁ => match r with
      | none => R (.ok .next) s₁
      | some v => wpAny (model prog w) A (letOwnedTupleGo target it v) (fun _ s₀ => wpAny (model prog w) A (assign target env v) (fun _ s₂ =>
          wpAny (model prog w) A (forIn ifs true fun c r => if r = true then do let ok ← isTrue c env (eval c env); pure (ForInStep.yield ok) else pure (ForInStep.yield r)) (fun ok s₃ =>
            if ok = true then wpAny (model prog w) A (eval elt env) (fun x s₄ =>
              wpAny (model prog w) A (call (.builtin "list.append") [acc, x]) (fun _ s₅ => ∃ m, m < n ∧ I m s₅) (fun _ _ => False) s₄) (fun _ _ => False) s₃
            else ∃ m, m < n ∧ I m s₃) (fun _ _ => False) s₂) (fun _ _ => False) s₀) (fun _ _ => False) s₁) (fun _ _ => False) s)
    (n : Nat) (h : I n s) :
    codeAny (model prog w) A (.compLoop (.ListComp elt [⟨target, iter, ifs, 0⟩] scope pos) 0 it acc env) R s := by
  refine codeAny_loop rfl I (fun n s hI => ?_) n h
  show wpAny _ A ((compTurn (.ListComp elt [⟨target, iter, ifs, 0⟩] scope pos) 0 it acc env).onRaise (fun x => do noteFrame x env; theTreesLotGoes x)) _ _ s
  refine wpAny_noted ?_
  rw [compTurn_list]
  refine wpAny_bind (wpAny_standAt (wpAny_bind (wpAny_mono (turn n s hI) (fun r s₁ h₁ => ?_) fun _ _ z => z.elim)))
  cases r with
  | none => exact wpAny_pure h₁
  | some v =>
    refine wpAny_bind (wpAny_mono h₁ (fun _ s₀ h₀ => ?_) fun _ _ z => z.elim)
    refine wpAny_bind (wpAny_mono h₀ (fun _ s₂ h₂ => wpAny_bind (wpAny_mono h₂ (fun ok s₃ h₃ => ?_) fun _ _ z => z.elim)) fun _ _ z => z.elim)
    cases ok with
    | false => exact wpAny_pure ⟨rfl, h₃⟩
    | true =>
      exact wpAny_bind (wpAny_bind (wpAny_mono h₃ (fun x s₄ h₄ => wpAny_bind (wpAny_mono h₄ (fun _ s₅ h₅ => wpAny_pure (wpAny_pure ⟨rfl, h₅⟩)) fun _ _ z => z.elim)) fun _ _ z => z.elim))
end

section
variable {X : Cx} {elt tg iter : Expr} {ifs : List Expr} {scope : Scope} {pos : Pos} {tn : List Str} {fr : List (Str × Nat)} {cl : List (Str × Addr)} {wi : TI} {g : TG} {tt : TT} {te : TE}
/-- what the text of a comprehension must have -/
structure CompOk (X : Cx) (scope : Scope) (tn : List Str) (fr : List (Str × Nat)) (cl : List (Str × Addr)) : Prop where
  clos : closureFor scope X.env = pure cl
  kind : scope.kind = .function
  nocell : ∀ y ∈ scope.names, y.2 ≠ .cell
  names : ∀ y ∈ scope.names, y.2 = .local → scope.names.lookup y.1 = some .local
  free : FreeOk X scope cl fr
  has : ∀ x, ((relabel scope X.env).names.lookup x = some .cell ∨ (relabel scope X.env).names.lookup x = some .free) → ∃ c, cl.lookup x = some c
  sub : ∀ x c, cl.lookup x = some c → X.env.cells.lookup x = some c

theorem comp_core {RR : Value → Addr → Result → Shared → Prop} {pins : List (Addr × Obj)} {s : Shared} {σ : St} {H : Hp} {Q : VK} (hc : X.calm = true) (ok : CompOk X scope tn fr cl) (kg : KeepsG tn.length g) (hi : PI X tg iter wi)
    (hg : ∀ d, PG (compCx X tn fr scope cl d) tg g) (ht : ∀ d, PIfs (compCx X tn fr scope cl d) ifs tt) (he : ∀ d, PE (compCx X tn fr scope cl d) elt te) (I : Inv X pins σ H s) (h : tComp wi tn fr g tt te σ H Q)
    (hRR : ∀ (p C : Addr) (G : Hp) (s' : Shared), Inv X pins σ G s' → FpOk X pins G C → (∃ m, s'.heap.Ns C m) → Q (.ref p) G → RR (.ref p) C (.ok .next) s') :
    wpAny (model X.prog X.w) X.A (eval iter X.env) (fun x s₁ => wpAny (model X.prog X.w) X.A (pyIter x) (fun it s₂ => wpAny (model X.prog X.w) X.A (newList []) (fun acc s₃ =>
      wpAny (model X.prog X.w) X.A (newFunctionEnv scope X.env.globals cl [] X.env.qual none .none (some X.env)) (fun cenv s₄ =>
        codeAny (model X.prog X.w) X.A (.compStart (.ListComp elt [⟨tg, iter, ifs, 0⟩] scope pos) 0 it acc { cenv with scope := relabel scope X.env }) (RR acc cenv.locals) s₄) X.xe s₃) X.xe s₂) X.xe s₁) X.xe s := by
  refine thn (hi pins s σ H _ I h) fun v s1 h1 => thn h1 fun itv s2 h2 => ?_
  obtain ⟨it, fp, tk, J, H2, e, I2, T, st2, f2, hq⟩ := h2
  subst e
  refine wpAny_newObj_type (wpAny_newFunctionEnv ok.nocell (by intro y hy; simp at hy) (fun h₁ hns₁ hsb₁ => ?_) ok.kind)
  dsimp only at hns₁ hsb₁ ⊢
  generalize hH2 : s2.heap.push { cls := .type "list", dict := none, data := .seq ([] : List Value).toArray } = HH at hns₁ hsb₁ ⊢
  have hC : HH.objs.size = s2.heap.objs.size + 1 := by rw [← hH2, Heap.size_push]
  have hDC : s2.heap.objs.size ≠ HH.objs.size := by rw [hC]; exact Nat.ne_of_lt (Nat.lt_succ_self _)
  have hCle : s2.heap.objs.size ≤ HH.objs.size := by rw [hC]; exact Nat.le_succ _
  have below : ∀ b, b < s2.heap.objs.size → b ≠ HH.objs.size := fun b hb => by rw [hC]; exact Nat.ne_of_lt (Nat.lt_succ_of_lt hb)
  have old : ∀ b o, s2.heap.get? b = some o → h₁.get? b = some o := fun b o e => hsb₁.extBut b o (below b (Heap.lt_size e)) (Heap.get?_push_of_some _ (hH2 ▸ Heap.get?_push_of_some _ e))
  have hacc : h₁.get? s2.heap.objs.size = some { cls := .type "list", data := .seq ([] : List Value).toArray } := hsb₁.extBut _ _ hDC (Heap.get?_push_of_some _ (hH2 ▸ Heap.get?_push_size _ rfl))
  generalize hp : s2.heap.objs.size = p at hDC hCle hacc
  generalize hCC : HH.objs.size = C at hDC hCle below hns₁
  have hnp : H2 p = none := I2.hok.fresh (by rw [← hp]; exact Nat.le_refl _)
  have hnC : H2 C = none := I2.hok.fresh (by rw [hp]; exact hCle)
  obtain ⟨W, ⟨m0, w0⟩, turn⟩ := hq p hnp
  have lt2 : ∀ b o, s2.heap.get? b = some o → b ≠ C := fun b o e => below b (Heap.lt_size e)
  -- the block's context and its first state
  have ok' : (compCx X tn fr scope cl ⟨fp, pins, s2, H2, C⟩).Ok := by
    refine ⟨I2.ok.mod, ok.kind, I2.ok.glob, I2.ok.blt, (by show s2.heap.objs.size ≤ C; rw [hp]; exact hCle), fun x y c h1 h2 => I2.ok.inj x y c (ok.sub x c h1) (ok.sub y c h2), ok.has, fun x c z => absurd z (by simp [compCx]), I2.ok.hd, I2.ok.frames, .inl rfl, fun b hb => ⟨?_, fun x c h => (f2 b hb).2.2.2.2.1 x c (ok.sub x c h)⟩, I2.bs,
      Nat.le_trans I2.ok.bsz I2.sz, fun b o e hb => ?_, fun b hb hf => ?_, I2.stack, I2.stkFree⟩
    · obtain ⟨o, e, _⟩ := T.obj 0 _ st2 b hb
      exact lt2 b o e
    · rcases (f2 b hb).2.2.2.1 with z | z
      · exact I2.ok.noex b o e z
      · have := Nat.lt_of_lt_of_le (Heap.lt_size e) (Nat.le_trans I2.ok.bsz z)
        exact absurd this (Nat.lt_irrefl _)
    · rcases List.mem_cons.mp (I2.stkSub b hf) with z | z
      · exact (f2 b hb).2.1 z
      · exact (f2 b hb).2.2.1 z
  have new : ObjOk X.prog X.w (upd H2 p (.lst [])) h₁ p (.lst []) := ⟨Nat.zero_le _, [], 0, .nil, hacc⟩
  have J0 : ∀ tk', Inv (compCx X tn fr scope cl ⟨fp, pins, s2, H2, C⟩) [] (inn tn fr σ) (upd H2 p (.lst [])) { s2 with heap := h₁, toks := tk' } := fun tk' => by
    refine ⟨ok', rfl, I2.bare, Un.laid old (by rw [← hp]; exact Nat.le_refl _) hnp, ⟨_, hns₁, fun i x v h1 h2 h3 => ?_⟩, fun x c h => ?_, ?_, fun x c h => ?_, fun q hq => ?_, I2.hok.laid old (by rw [← hp]; exact Nat.le_refl _) new, ?_⟩
    · -- a name from around
      have h2' : (tn.map (fun _ => (none : Option V)) ++ fr.map fun q => (σ[q.2]?).join)[i]? = some (some v) := h2
      have h1' : (tn ++ fr.map (·.1))[i]? = some x := h1
      by_cases hi : i < tn.length
      · rw [List.getElem?_append_left (by simpa using hi), List.getElem?_map] at h2'
        cases e : tn[i]? with
        | none => rw [e] at h2'; cases h2'
        | some a => rw [e] at h2'; cases h2'
      · rw [List.getElem?_append_right (by simpa using hi), List.length_map, List.getElem?_map] at h2'
        rw [List.getElem?_append_right (by omega), List.getElem?_map] at h1'
        cases e : fr[i - tn.length]? with
        | none => rw [e] at h2'; cases h2'
        | some q =>
          rw [e] at h1' h2'
          have e1 : q.1 = x := Option.some.inj h1'
          have e2 : (σ[q.2]?).join = some v := Option.some.inj h2'
          have e3 : σ[q.2]? = some (some v) := by
            cases z : σ[q.2]? with
            | none => rw [z] at e2; cases e2
            | some o => rw [z] at e2; exact congrArg some e2
          obtain ⟨g1, g2, g3, g4⟩ := ok.free.get e
          obtain ⟨m, hn, hl⟩ := I2.loc
          obtain ⟨u, ru, lk⟩ := hl q.2 q.1 v g1 e3 (.inr (.inl g2))
          refine ⟨u, ru, .inr ⟨.inl (by rw [← e1]; exact g3), ?_⟩⟩
          rcases lk with ⟨z, _⟩ | ⟨_, c, hcl, hcell⟩
          · rw [g2] at z; cases z
          · obtain ⟨o, ho, hd⟩ := hcell
            exact ⟨c, by rw [← e1]; exact g4.trans hcl, o, old c o ho, hd⟩
    · obtain ⟨v, o, ho, hd⟩ := I2.cell x c (ok.sub x c h)
      exact ⟨v, o, old c o ho, hd⟩
    · show upd H2 p (.lst []) C = none
      rw [upd_ne (Ne.symm hDC)]
      exact hnC
    · obtain ⟨v, o, ho, hd⟩ := I2.cell x c (ok.sub x c h)
      show upd H2 p (.lst []) c = none
      rw [upd_ne (Nat.ne_of_lt (by rw [← hp]; exact Heap.lt_size ho))]
      exact I2.freeC x c (ok.sub x c h)
    · have hq' : q ∈ X.pn ++ pins := by simpa [compCx] using hq
      obtain ⟨e, n, ne, nf, d⟩ := I2.pin q hq'
      refine ⟨old _ _ e, ?_, lt2 _ _ e, fun hf => ?_, d⟩
      · show upd H2 p (.lst []) q.1 = none
        rw [upd_ne (Nat.ne_of_lt (by rw [← hp]; exact Heap.lt_size e))]
        exact n
      · rcases List.mem_cons.mp (I2.stkSub _ hf) with z | z
        · exact ne z
        · exact nf z
    · show (inn tn fr σ).length = (tn ++ fr.map (·.1)).length
      unfold inn
      simp
  -- the loop
  have stat : ∀ {G : Hp}, (∀ b ∈ fp, G b = none) → ∀ b ∈ fp, FpOk (compCx X tn fr scope cl ⟨fp, pins, s2, H2, C⟩) [] G b := fun {G} hn b hb => by
    obtain ⟨f0, f1, f3, f4, f5, f6⟩ := f2 b hb
    obtain ⟨o, e, _⟩ := T.obj 0 _ st2 b hb
    refine ⟨hn b hb, lt2 b o e, fun hf => ?_, .inl hb, fun x c h => f5 x c (ok.sub x c h), fun q hq => f6 q (by simpa [compCx] using hq)⟩
    rcases List.mem_cons.mp (I2.stkSub _ hf) with z | z
    · exact f1 z
    · exact f3 z
  have wk : ∀ {σ9 : St}, σ9.drop tn.length = (inn tn fr σ).drop tn.length → ∀ (i : Nat) (v : V), (inn tn fr σ)[i]? = some (some v) → σ9[i]? = some (some v) := fun {σ9} hd i v h => by
    by_cases hi : i < tn.length
    · have h' : (tn.map (fun _ => (none : Option V)) ++ fr.map fun q => (σ[q.2]?).join)[i]? = some (some v) := h
      rw [List.getElem?_append_left (by simpa using hi), List.getElem?_map] at h'
      cases e : tn[i]? with
      | none => rw [e] at h'; cases h'
      | some a => rw [e] at h'; cases h'
    · have e1 : ((inn tn fr σ).drop tn.length)[i - tn.length]? = some (some v) := by
        rw [List.getElem?_drop]
        rw [show tn.length + (i - tn.length) = i by omega]
        exact h
      rw [← hd, List.getElem?_drop, show tn.length + (i - tn.length) = i by omega] at e1
      exact e1
  have loop : ∀ tk', codeAny (model X.prog X.w) X.A (.compLoop (.ListComp elt [⟨tg, iter, ifs, 0⟩] scope pos) 0 (.ref it) (.ref p) (compEnvC scope cl C X.env)) (RR (.ref p) C) { s2 with heap := h₁, toks := tk' } := fun tk' => by
    refine compLoop_go (fun n s' => ∃ i G, Inv (compCx X tn fr scope cl ⟨fp, pins, s2, H2, C⟩) [] (inn tn fr σ) G s' ∧ tk i s'.heap ∧ (∀ b ∈ fp, G b = none) ∧ W i n G) ?_ m0
      ⟨0, _, J0 tk', T.keep 0 _ _ st2 fun b _ o e => old b o e, fun b hb => ?_, w0⟩
    · rintro n s3 ⟨i, G, I3, st3, fr3, w3⟩
      rcases turn i n G w3 with ⟨stop, qn⟩ | ⟨go, N, hN, step⟩
      · refine thn (T.done (compCx X tn fr scope cl ⟨fp, pins, s2, H2, C⟩) rfl rfl rfl hc i [] s3 _ G _ I3 (stat fr3) st3 stop) fun r s4 ⟨hr, I4⟩ => ?_
        subst hr
        obtain ⟨m, hm, _⟩ := I4.loc
        refine hRR p C G s4 ?_ ?_ ⟨m, hm⟩ qn
        · exact I2.call' (ch := fp) I4.os I4.base I4.hok I4.bare fun b hb => ⟨(f2 b hb).2.2.2.1, (f2 b hb).2.1, (f2 b hb).2.2.2.2.1, (f2 b hb).2.2.2.2.2⟩
        · exact I2.fpOk (by rw [hp]; exact hCle) I4.free
      · refine thn (T.item (compCx X tn fr scope cl ⟨fp, pins, s2, H2, C⟩) rfl rfl rfl hc i [] s3 _ G _ I3 (stat fr3) st3 go) fun r s4 ⟨u, hr, h4⟩ => ?_
        subst hr
        refine thn h4 fun _ s5 ⟨x, H5, I5, r5, y5, st5, fr5⟩ => ?_
        have I5' := I5.pinned (stat fr5) (T.obj _ _ st5)
        refine thn (hg _ _ s5 _ H5 x u _ I5' r5 (kg _ _ _ _ (step x H5 y5))) fun _ s6 ⟨σ6, H6, I6, q6, k6⟩ => ?_
        have again : ∀ {H9 : Hp} {s9 : Shared}, Inv (compCx X tn fr scope cl ⟨fp, pins, s2, H2, C⟩) ([] ++ pinsAt fp s5.heap) σ6 H9 s9 → N H9 → ∃ m, m < n ∧ ∃ i G, Inv (compCx X tn fr scope cl ⟨fp, pins, s2, H2, C⟩) [] (inn tn fr σ) G s9 ∧ tk i s9.heap ∧ (∀ b ∈ fp, G b = none) ∧ W i m G := fun {H9 s9} I9 n9 => by
          obtain ⟨m', hm, w9⟩ := hN H9 n9
          refine ⟨m', hm, i + 1, H9, ?_, T.keep _ _ _ st5 fun b hb o e => (I9.pin (b, o) (List.mem_append_right _ (List.mem_append_right _ (mem_pinsAt hb e)))).1, fun b hb => ?_, w9⟩
          · refine (I9.unpinned).weak ?_ (wk k6)
            rw [I9.len, I3.len]
          · obtain ⟨o, e, d⟩ := T.obj _ _ st5 b hb
            exact (I9.pin (b, o) (List.mem_append_right _ (List.mem_append_right _ (mem_pinsAt hb e)))).2.1
        refine thn (ht _ _ s6 σ6 H6 _ I6 q6) fun b s7 ⟨H7, I7, q7⟩ => ?_
        cases b with
        | false =>
          rw [if_neg Bool.false_ne_true]
          rw [br_false] at q7
          exact again I7 q7
        | true =>
          rw [if_pos rfl]
          rw [br_true] at q7
          refine thn (he _ _ s7 σ6 H7 _ I7 q7) fun y s8 ⟨yv, H8, I8, r8, ys, hp8, hl8, n8⟩ => ?_
          refine thn (mt_append _ s8 σ6 H8 (.ref p) [yv] (.ref p) [y] (fun _ H9 => N H9) I8 rfl (.cons r8 .nil) ⟨p, ys, yv, rfl, rfl, hp8, hl8, n8⟩) fun _ s9 ⟨v9, H9, I9, r9, q9⟩ => ?_
          exact again I9 q9
    · obtain ⟨o, e, _⟩ := T.obj 0 _ st2 b hb
      rw [upd_ne (Nat.ne_of_lt (by rw [← hp]; exact Heap.lt_size e))]
      exact (f2 b hb).1
  subst hp
  subst hCC
  exact codeAny_compStart_list (loop _) (T.self _ _ _ _ _ (T.keep 0 _ _ st2 fun b _ o e => old b o e) (loop _))

/-- [elt for tg in iter if ..] -/
theorem pe_comp (hc : X.calm = true) (ok : CompOk X scope tn fr cl) (kg : KeepsG tn.length g) (hi : PI X tg iter wi)
    (hg : ∀ d, PG (compCx X tn fr scope cl d) tg g) (ht : ∀ d, PIfs (compCx X tn fr scope cl d) ifs tt) (he : ∀ d, PE (compCx X tn fr scope cl d) elt te)
    (hs : ∀ x, foldedSetIterable iter X.env x = pure x := by intro _; rfl) : PE X (.ListComp elt [⟨tg, iter, ifs, 0⟩] scope pos) (tComp wi tn fr g tt te) := by
  intro pins s σ H Q I h
  rw [eval_ListComp]
  refine wpAny_comprehension_free (use := none) rfl hs ok.clos ok.kind ok.names (comp_core (RR := fun acc C => compPost (model X.prog X.w) X.A X.xe none (EP X pins σ Q) acc C) hc ok kg hi hg ht he I h ?_)
  intro p C G s' I' f m q
  obtain ⟨m, hm⟩ := m
  refine ⟨m, hm, fun h' hs' => ⟨.ref p, G, ?_, rfl, q⟩⟩
  exact I'.turned (it := C) (h' := h') (t' := s'.toks) (fun b o hb e => hs'.extBut b o hb e) f.1 f.2.1 f.2.2.2.1 f.2.2.2.2.1 f.2.2.2.2.2
end
end L2

namespace L2
open PySem PySem.Spec PyProof.Rows
/-- a comprehension over a text whose turns leave the heap as it is -/
theorem comp_str {z : Str} {g : TG} {tt : TT} {te : TE} {τ : St} {p : Addr} {H1 : Hp} {Q : VK} (f : Nat → Option V) (hz : z.length < sizeLine)
    (turn : ∀ (i c : Nat), z.cps[i]? = some c → ∀ (G : Hp) (k : Option V → Hp → Prop), k (f c) G → g (.str ⟨#[c]⟩) τ G fun σ2 G2 => tt σ2 G2 fun b G3 => br b (te σ2 G3 fun y G4 => k (some y) G4) (k none G3))
    (fin : Q (.ref p) (upd H1 p (.lst (z.cps.toList.filterMap f)))) :
    ∃ W : Nat → Nat → Hp → Prop, (∃ m, W 0 m (upd H1 p (.lst []))) ∧ ∀ i m G, W i m G →
    ((Its z).stop i G ∧ Q (.ref p) G) ∨ ((Its z).go i G ∧ ∃ N : Hp → Prop, (∀ G', N G' → ∃ m', m' < m ∧ W (i + 1) m' G') ∧ ∀ x G', (Its z).yld i G x G' →
      g x τ G' fun σ2 G2 => tt σ2 G2 fun b G3 => br b (te σ2 G3 fun y G4 => ∃ ys, G4 p = some (.lst ys) ∧ ys.length < sizeLine ∧ N (upd G4 p (.lst (ys ++ [y])))) (N G3)) := by
  have hzl : z.cps.toList.length = z.length := by simp [Str.length]
  refine ⟨fun i m G => m = z.length - i ∧ i ≤ z.length ∧ G = upd H1 p (.lst ((z.cps.toList.take i).filterMap f)), ⟨z.length, by simp, Nat.zero_le _, by simp⟩, ?_⟩
  rintro i m G ⟨rfl, hi, rfl⟩
  by_cases hlt : i < z.length
  · refine .inr ⟨hlt, fun G' => G' = upd H1 p (.lst ((z.cps.toList.take (i + 1)).filterMap f)), fun G' e => ⟨z.length - (i + 1), by omega, rfl, hlt, e⟩, fun x G' y => ?_⟩
    obtain ⟨e, c, hc, ex⟩ := y
    subst e ex
    have hc' : z.cps.toList[i]? = some c := by simpa using hc
    have et : (z.cps.toList.take (i + 1)).filterMap f = (z.cps.toList.take i).filterMap f ++ (f c).toList := by
      rw [List.take_add_one, hc', List.filterMap_append]
      cases e : f c <;> simp [e]
    have hlen : ((z.cps.toList.take i).filterMap f).length < sizeLine := Nat.lt_of_le_of_lt (Nat.le_trans (List.length_filterMap_le _ _) (by rw [List.length_take]; exact Nat.min_le_right _ _)) (by rw [hzl]; exact hz)
    refine turn i c hc _ (fun o G' => match o with | some y => ∃ ys, G' p = some (.lst ys) ∧ ys.length < sizeLine ∧ upd G' p (.lst (ys ++ [y])) = upd H1 p (.lst ((z.cps.toList.take (i + 1)).filterMap f)) | none => G' = upd H1 p (.lst ((z.cps.toList.take (i + 1)).filterMap f))) ?_
    rw [et]
    cases f c with
    | some y => exact ⟨_, upd_same, hlen, by rw [upd_upd]; simp⟩
    | none => simp
  · have e : i = z.length := by omega
    subst e
    refine .inl ⟨Nat.le_refl _, ?_⟩
    rw [← hzl, List.take_length]
    exact fin
theorem app_list (a b : Str) : (a ++ b).cps.toList = a.cps.toList ++ b.cps.toList := by
  show (a.cps ++ b.cps).toList = _
  simp
theorem app_len (a b : Str) : (a ++ b).length = a.length + b.length := by
  show (a.cps ++ b.cps).size = _
  simp [Str.length]
end L2

/-! ### a def of the text with its name, and its call -/
namespace L2
open PySem PySem.Spec PyProof.Rows
structure FnAt (K : PySem.W.Frag) (mg : Str → Option Value) (x : Str) (st : Stmt) (ps : List Str) (f : Addr) (fd : FuncData) : Prop where
  fn : Fun K x x st f fd
  b : Binds K fd ps []
  m : mg x = some (.ref f)
section
variable {X : Cx} {CX : CXT} {k : Nat} {f : Addr} {fd : FuncData} {st : Stmt} {ps : List Str} {sp : Sp} {x : Str} {p pos : Pos} {e : Expr} {es : List Expr} {t : TA}
end
end L2

namespace L2
open PySem PySem.Spec PyProof.Rows
end L2

set_option Elab.async false
set_option linter.all false
set_option maxRecDepth 100000
set_option maxHeartbeats 4000000

/-! ### readings by computation: each rule is a function of the values, so that a straight row of code vanishes by unfolding -/
namespace Tv
open PySem PySem.Spec PyProof.Rows L2
abbrev St := L2.St

section
variable {X : Cx}
theorem PE.imp {e : Expr} {t u : TE} (h : PE X e t) (i : ∀ σ H Q, u σ H Q → t σ H Q) : PE X e u := fun pins s σ H Q I q => h pins s σ H Q I (i σ H Q q)
theorem PT.imp {e : Expr} {t u : TT} (h : PT X e t) (i : ∀ σ H Q, u σ H Q → t σ H Q) : PT X e u := fun pins s σ H Q I q => h pins s σ H Q I (i σ H Q q)
theorem OpR.imp {f : Value → Value → Sem Value} {r r' : R2} (h : OpR X f r) (i : ∀ x y H Q, r' x y H Q → r x y H Q) : OpR X f r' := fun pins s σ H x y v u Q I rx ry q => h pins s σ H x y v u Q I rx ry (i x y H Q q)
theorem CallR.imp {f : Value} {r r' : List V → Hp → VK → Prop} (h : CallR X f r) (i : ∀ xs H Q, r' xs H Q → r xs H Q) : CallR X f r' := fun pins s σ H xs us Q I rx q => h pins s σ H xs us Q I rx (i xs H Q q)
theorem IxR.imp {r r' : R2} (h : IxR X r) (i : ∀ x y H Q, r' x y H Q → r x y H Q) : IxR X r' := fun value slice pins s σ H x y v u Q I rx ry q => h value slice pins s σ H x y v u Q I rx ry (i x y H Q q)
/-- nothing is known: never come to -/
def xE : TE := fun _ _ _ => False
def xT : TT := fun _ _ _ => False
def xS : TS := fun _ _ _ => False
def xA : TA := fun _ _ _ => False
def xG : TG := fun _ _ _ _ => False
def xR : R2 := fun _ _ _ _ => False
theorem pe_x {e : Expr} : PE X e xE := fun _ _ _ _ _ _ h => h.elim
theorem pt_x {e : Expr} : PT X e xT := fun _ _ _ _ _ _ h => h.elim
theorem ps_x {e : Stmt} : PS X e xS := fun _ _ _ _ _ _ h => h.elim
theorem pa_x {e : List Expr} : PA X e xA := fun _ _ _ _ _ _ _ h => h.elim
theorem pg_x {e : Expr} : PG X e xG := fun _ _ _ _ _ _ _ _ _ h => h.elim
theorem op_x {f : Value → Value → Sem Value} : OpR X f xR := fun _ _ _ _ _ _ _ _ _ _ _ _ h => h.elim

/-! ### names -/
def gv (i : Nat) : TE := fun σ H Q => match σ[i]? with | some (some v) => Q v H | _ => False
theorem pe_gv {i : Nat} {x : Str} {pos : Pos} (hN : X.N[i]? = some x) (hv : Vis X.env.scope x) (hd : (x == ("__debug__" : Str)) = false) (hcd : (x == ("__classdict__" : Str)) = false) : PE X (.Name x pos) (gv i) :=
  PE.imp (pe_var hN hv hd hcd) fun σ H Q h => by
    unfold gv at h
    split at h
    · exact ⟨_, by assumption, h⟩
    · exact h.elim
def slotOf : List Str → Str → Option Nat
  | [], _ => none
  | y :: r, x => if y = x then some 0 else (slotOf r x).map (· + 1)
theorem slotOf_get : ∀ {N : List Str} {x : Str} {i : Nat}, slotOf N x = some i → N[i]? = some x
  | [], _, _, h => by simp [slotOf] at h
  | y :: r, x, i, h => by
    unfold slotOf at h
    split at h
    · rename_i e
      cases h
      simp [e]
    · cases e : slotOf r x with
      | none => rw [e] at h; cases h
      | some j =>
        rw [e] at h
        cases h
        simpa using slotOf_get e

/-! ### a new object -/
@[irreducible] def newO (H : Hp) (o : HO) (Q : VK) : Prop := ∀ p, H p = none → Q (.ref p) (upd H p o)
theorem newO_eq {H : Hp} {o : HO} {Q : VK} : newO H o Q = ∀ p, H p = none → Q (.ref p) (upd H p o) := by unfold newO; rfl
theorem newO.at {H : Hp} {o : HO} {Q : VK} (h : newO H o Q) : ∀ p, H p = none → Q (.ref p) (upd H p o) := by
  rw [newO_eq] at h
  exact h
/-- the heap behind it is a letter -/
theorem new_i {H : Hp} {o : HO} {Q : VK} (h : ∀ p G, H p = none → Same H G → G p = some o → Q (.ref p) G) : newO H o Q := by
  rw [newO_eq]
  exact fun p hp => h p _ hp (same_upd hp) upd_same
theorem new_u {H : Hp} {o : HO} {Q : VK} (h : ∀ p, H p = none → Q (.ref p) (upd H p o)) : newO H o Q := by
  rw [newO_eq]
  exact h
/-! ### two-place operations -/
@[irreducible] def addH (l b : Addr) (H : Hp) (Q : VK) : Prop := match H l, H b with
  | some (.lst xs), some (.lst ys) => xs.length + ys.length ≤ sizeLine ∧ newO H (.lst (xs ++ ys)) Q
  | _, _ => False
def addG : R2 := fun x y H Q => match x, y with
  | .int i, .int j => Q (.int (i + j)) H
  | .str a, .str b => a.length + b.length ≤ sizeLine ∧ Q (.str (a ++ b)) H
  | .ref l, .ref b => addH l b H Q
  | _, _ => False
theorem op_addG : OpR X (binaryOp .Add) addG := OpR.imp (OpR.or op_add (OpR.or op_add_str op_cat)) fun x y H Q h => by
  unfold addG at h
  split at h
  · exact .inl ⟨_, _, rfl, rfl, h⟩
  · exact .inr (.inl ⟨_, _, rfl, rfl, h⟩)
  · unfold addH at h
    split at h
    · exact .inr (.inr ⟨_, _, _, _, rfl, rfl, by assumption, by assumption, h.1, h.2.at⟩)
    · exact h.elim
  · exact h.elim
def subG : R2 := fun x y H Q => match x, y with
  | .int i, .int j => Q (.int (i - j)) H
  | _, _ => False
theorem op_subG : OpR X (binaryOp .Sub) subG := OpR.imp op_sub fun x y H Q h => by
  unfold subG at h
  split at h
  · exact ⟨_, _, rfl, rfl, h⟩
  · exact h.elim
def mulG : R2 := fun x y H Q => match x, y with
  | .int i, .int j => CMul i j ∧ Q (.int (i * j)) H
  | .str z, .int n => (0 < z.length ∧ 0 ≤ n ∧ n < 2 ^ 31 ∧ n.toNat * z.length ≤ sizeLine) ∧ Q (.str (repS z n.toNat)) H
  | .ref l, .int k => match H l with
    | some (.lst xs) => (-(2 ^ 63) ≤ k ∧ k < 2 ^ 63 ∧ xs.length * k.toNat ≤ sizeLine) ∧ newO H (.lst (List.replicate k.toNat xs).flatten) Q
    | _ => False
  | _, _ => False
theorem op_mulG : OpR X (binaryOp .Mult) mulG := OpR.imp (OpR.or op_mul (OpR.or op_mul_str op_rep)) fun x y H Q h => by
  unfold mulG at h
  split at h
  · exact .inl ⟨_, _, rfl, rfl, h⟩
  · obtain ⟨⟨h1, h2, h3, h4⟩, q⟩ := h
    exact .inr (.inl ⟨_, _, rfl, rfl, h1, h2, h3, h4, q⟩)
  · split at h
    · obtain ⟨⟨h1, h2, h3⟩, q⟩ := h
      exact .inr (.inr ⟨_, _, _, rfl, rfl, by assumption, h1, h2, h3, q.at⟩)
    · exact h.elim
  · exact h.elim
def fdivG : R2 := fun x y H Q => match x, y with
  | .int i, .int j => (0 < j ∧ j < 2 ^ 200) ∧ Q (.int (i / j)) H
  | _, _ => False
theorem log_small {j : Int} (h0 : 0 < j) (h : j < 2 ^ 200) : j.natAbs.log2 < 9000 := by
  have h1 : j.natAbs ≠ 0 := by omega
  have h2 : j.natAbs < 2 ^ 200 := by
    have e : ((j.natAbs : Nat) : Int) = j := by omega
    have h3 : ((j.natAbs : Nat) : Int) < ((2 ^ 200 : Nat) : Int) := by rw [e]; exact h
    exact Int.ofNat_lt.mp h3
  have h3 := (Nat.log2_lt h1).mpr h2
  omega
theorem op_fdivG : OpR X (binaryOp .FloorDiv) fdivG := by
  intro pins s σ H x y v u Q I rx ry h
  unfold fdivG at h
  split at h
  · obtain ⟨⟨hj, hj2⟩, q⟩ := h
    obtain ⟨t, rfl⟩ := rx
    obtain ⟨t', rfl⟩ := ry
    rename_i i j
    exact floordiv_int (by omega) (by rw [Int.fdiv_eq_ediv_of_nonneg i (by omega)]; exact ⟨.int (i / j), H, I.tok _, ⟨_, rfl⟩, q⟩) (.inl (PyProof.noPylong_of_log2 (log_small hj hj2)))
  · exact h.elim
def modG : R2 := fun x y H Q => match x, y with
  | .int i, .int j => 0 < j ∧ Q (.int (i % j)) H
  | _, _ => False
theorem op_modG : OpR X (binaryOp .Mod) modG := OpR.imp op_mod fun x y H Q h => by
  unfold modG at h
  split at h
  · exact ⟨_, _, rfl, rfl, h⟩
  · exact h.elim
def powG : R2 := fun x y H Q => match x, y with
  | .int i, .int j => CPow i j ∧ Q (.int (i ^ j.toNat)) H
  | _, _ => False
theorem op_powG : OpR X (binaryOp .Pow) powG := OpR.imp op_pow fun x y H Q h => by
  unfold powG at h
  split at h
  · exact ⟨_, _, rfl, rfl, h⟩
  · exact h.elim
def binG : Operator → R2
  | .Add => addG | .Sub => subG | .Mult => mulG | .FloorDiv => fdivG | .Mod => modG | .Pow => powG | _ => xR
theorem op_binG : ∀ op, OpR X (binaryOp op) (binG op)
  | .Add => op_addG | .Sub => op_subG | .Mult => op_mulG | .FloorDiv => op_fdivG | .Mod => op_modG | .Pow => op_powG
  | .MatMult => op_x | .Div => op_x | .LShift => op_x | .RShift => op_x | .BitOr => op_x | .BitXor => op_x | .BitAnd => op_x
end

/-! ### data without dicts, read off the abstract heap -/
def rdD : Nat → Hp → V → Option PyData
  | _, _, .non => some .none
  | _, _, .bl b => some (.bool b)
  | _, _, .int i => some (.int i)
  | _, _, .str x => some (.str x)
  | n + 1, H, .ref a => match H a with
    | some (.lst xs) => (xs.mapM (rdD n H)).map .list
    | some (.tup xs) => (xs.mapM (rdD n H)).map .tuple
    | _ => none
  | _, _, _ => none
theorem mapM_cons {α β : Type} {f : α → Option β} {x : α} {xs : List α} : (x :: xs).mapM f = (f x).bind fun y => (xs.mapM f).bind fun ys => some (y :: ys) := by
  simp [List.mapM_cons]
theorem mapM_some {α β : Type} {f : α → Option β} : ∀ {xs : List α} {ys : List β}, xs.mapM f = some ys → ys.length = xs.length ∧ ∀ (i : Nat) x, xs[i]? = some x → ∃ y, ys[i]? = some y ∧ f x = some y
  | [], ys, h => by
    simp at h
    subst h
    exact ⟨rfl, fun i x e => by simp at e⟩
  | x :: xs, ys, h => by
    rw [mapM_cons] at h
    cases e : f x with
    | none => rw [e] at h; cases h
    | some y =>
      cases e2 : xs.mapM f with
      | none => rw [e, e2] at h; cases h
      | some r =>
        rw [e, e2] at h
        cases h
        obtain ⟨h1, h2⟩ := mapM_some e2
        refine ⟨by simp [h1], fun i z hz => ?_⟩
        cases i with
        | zero =>
          simp at hz
          subst hz
          exact ⟨y, rfl, e⟩
        | succ i => exact h2 i z (by simpa using hz)
theorem mapM_same {α β : Type} {f g : α → Option β} (fg : ∀ x y, f x = some y → g x = some y) : ∀ {xs : List α} {ys : List β}, xs.mapM f = some ys → xs.mapM g = some ys
  | [], ys, h => by simpa using h
  | x :: xs, ys, h => by
    rw [mapM_cons] at h ⊢
    cases e : f x with
    | none => rw [e] at h; cases h
    | some y =>
      cases e2 : xs.mapM f with
      | none => rw [e, e2] at h; cases h
      | some r =>
        rw [e, e2] at h
        rw [fg x y e, mapM_same fg e2]
        exact h
theorem eqvAll_of : ∀ {ds es : List PyData}, ds.length = es.length → PyData.eqvAll ds es = (List.range ds.length).all fun j => PyData.eqv (ds.getD j .none) (es.getD j .none)
  | [], [], _ => rfl
  | [], _ :: _, h => by simp at h
  | _ :: _, [], h => by simp at h
  | d :: ds, e :: es, h => by
    show (PyData.eqv d e && PyData.eqvAll ds es) = _
    rw [eqvAll_of (by simpa using h), List.length_cons, List.range_succ_eq_map, List.all_cons, List.all_map]
    rfl
theorem eqvAll_ne : ∀ {ds es : List PyData}, ds.length ≠ es.length → PyData.eqvAll ds es = false
  | [], [], h => absurd rfl h
  | [], _ :: _, _ => rfl
  | _ :: _, [], _ => rfl
  | d :: ds, e :: es, h => by
    show (PyData.eqv d e && PyData.eqvAll ds es) = _
    rw [eqvAll_ne (by simpa using h), Bool.and_false]
theorem eqvAll_self {f : V → Option PyData} (hf : ∀ x d, f x = some d → PyData.eqv d d = true) : ∀ {xs : List V} {ds : List PyData}, xs.mapM f = some ds → PyData.eqvAll ds ds = true
  | [], ds, h => by simp at h; subst h; rfl
  | x :: xs, ds, h => by
    rw [mapM_cons] at h
    cases e : f x with
    | none => rw [e] at h; cases h
    | some y =>
      cases e2 : xs.mapM f with
      | none => rw [e, e2] at h; cases h
      | some r =>
        rw [e, e2] at h
        cases h
        show (PyData.eqv y y && PyData.eqvAll r r) = true
        rw [hf x y e, eqvAll_self hf e2]
        rfl
theorem eqv_self {H : Hp} : ∀ (n : Nat) (x : V) (d : PyData), rdD n H x = some d → PyData.eqv d d = true
  | n, .non, d, h => by cases n <;> (cases h; rfl)
  | n, .bl b, d, h => by cases n <;> (cases h; exact beq_self_eq_true b)
  | n, .int b, d, h => by cases n <;> (cases h; exact beq_self_eq_true b)
  | n, .str b, d, h => by cases n <;> (cases h; exact beq_self_eq_true b)
  | n, .byt b, d, h => by cases n <;> cases h
  | n, .flt b, d, h => by cases n <;> cases h
  | n, .ty b, d, h => by cases n <;> cases h
  | 0, .ref a, d, h => by cases h
  | n + 1, .ref a, d, h => by
    unfold rdD at h
    cases e : H a with
    | none => rw [e] at h; cases h
    | some o =>
      rw [e] at h
      cases o <;> first | (cases h; done) | skip
      all_goals
        rename_i xs
        simp only at h
        cases e2 : xs.mapM (rdD n H) with
        | none => rw [e2] at h; cases h
        | some ds =>
          rw [e2] at h
          cases h
          exact eqvAll_self (eqv_self n) e2
def flatD : V → PyData
  | .non => .none
  | .bl b => .bool b
  | .int i => .int i
  | .str z => .str z
  | _ => .none
section
variable {X : Cx} {pins : List (Addr × Obj)} {σ : St} {H : Hp} {s : Shared}
/-- what a tracked list or tuple is in the heap -/
theorem at_lst (I : Inv X pins σ H s) {a : Addr} {xs : List V} (e : H a = some (.lst xs)) : ∃ its : List Value, Vals xs its ∧ s.heap.IsList a its.toArray := by
  obtain ⟨its, r, p, _⟩ := I.list (.inl (.inl e))
  exact ⟨its, r, p.isList⟩
theorem at_tup (I : Inv X pins σ H s) {a : Addr} {xs : List V} (e : H a = some (.tup xs)) : ∃ its : List Value, Vals xs its ∧ s.heap.IsTuple a its.toArray := by
  obtain ⟨its, r, p, _⟩ := I.tuple (.inl (.inl e))
  exact ⟨its, r, p⟩
theorem in1_units (A : Around) : A.in1.units = A.units + 1 := rfl
/-- flat against a list or a tuple -/
theorem eqAt_fs {A : Around} {x : V} {u : Value} {a : Addr} (rx : RelV x u) (fx : flatV x = true) (hu : A.units < cLine) (h : (∃ its, s.heap.IsList a its) ∨ ∃ its, s.heap.IsTuple a its) : SeqAt.EqAt A s u (.ref a) false ∧ SeqAt.EqAt A s (.ref a) u false := by
  cases x with
  | non =>
    cases rx
    rcases h with ⟨its, h⟩ | ⟨its, h⟩
    · exact ⟨SeqAt.EqAt.none_list h hu, SeqAt.EqAt.list_none h hu⟩
    · exact ⟨SeqAt.EqAt.none_tuple h hu, SeqAt.EqAt.tuple_none h hu⟩
  | bl b =>
    cases rx
    rcases h with ⟨its, h⟩ | ⟨its, h⟩
    · exact ⟨SeqAt.EqAt.bool_list b h hu, SeqAt.EqAt.list_bool b h hu⟩
    · exact ⟨SeqAt.EqAt.bool_tuple b h hu, SeqAt.EqAt.tuple_bool b h hu⟩
  | int i =>
    obtain ⟨t, rfl⟩ := rx
    rcases h with ⟨its, h⟩ | ⟨its, h⟩
    · exact ⟨SeqAt.EqAt.int_list i t h hu, SeqAt.EqAt.list_int i t h hu⟩
    · exact ⟨SeqAt.EqAt.int_tuple i t h hu, SeqAt.EqAt.tuple_int i t h hu⟩
  | str i =>
    obtain ⟨t, rfl⟩ := rx
    rcases h with ⟨its, h⟩ | ⟨its, h⟩
    · exact ⟨SeqAt.EqAt.str_list i t h hu, SeqAt.EqAt.list_str i t h hu⟩
    · exact ⟨SeqAt.EqAt.str_tuple i t h hu, SeqAt.EqAt.tuple_str i t h hu⟩
  | _ => cases fx
theorem rdD_ref {n : Nat} {a : Addr} {d : PyData} (h : rdD n H (.ref a) = some d) : ∃ m, n = m + 1 ∧ ((∃ xs ds, H a = some (.lst xs) ∧ xs.mapM (rdD m H) = some ds ∧ d = .list ds) ∨ ∃ xs ds, H a = some (.tup xs) ∧ xs.mapM (rdD m H) = some ds ∧ d = .tuple ds) := by
  cases n with
  | zero => cases h
  | succ m =>
    refine ⟨m, rfl, ?_⟩
    unfold rdD at h
    cases e : H a with
    | none => rw [e] at h; cases h
    | some o =>
      rw [e] at h
      cases o <;> first | (cases h; done) | skip
      · rename_i xs
        simp only at h
        cases e2 : xs.mapM (rdD m H) with
        | none => rw [e2] at h; cases h
        | some ds => rw [e2] at h; cases h; exact .inl ⟨xs, ds, rfl, e2, rfl⟩
      · rename_i xs
        simp only at h
        cases e2 : xs.mapM (rdD m H) with
        | none => rw [e2] at h; cases h
        | some ds => rw [e2] at h; cases h; exact .inr ⟨xs, ds, rfl, e2, rfl⟩
theorem rdD_flat {n : Nat} {x : V} {d : PyData} (h : rdD n H x = some d) (hx : ∀ a, x ≠ .ref a) : flatV x = true ∧ d = flatD x := by
  cases x with
  | ref a => exact absurd rfl (hx a)
  | _ => cases n <;> first | (cases h; exact ⟨rfl, rfl⟩) | cases h
end
end Tv

set_option Elab.async false
set_option linter.all false
set_option maxRecDepth 100000
set_option maxHeartbeats 4000000
namespace Tv
open PySem PySem.Spec PyProof.Rows L2
section
variable {X : Cx} {pins : List (Addr × Obj)} {σ : St} {H : Hp} {s : Shared}
theorem getD_of {α : Type} {xs : List α} {i : Nat} {x d : α} (h : xs[i]? = some x) : xs.getD i d = x := by
  simp [List.getD, h]
theorem notRef_or (x : V) : (∃ a, x = .ref a) ∨ ∀ a, x ≠ .ref a := by
  cases x <;> first | exact .inl ⟨_, rfl⟩ | exact .inr fun a h => by cases h
/-- == over data read off the abstract heap -/
theorem eqAt_D (I : Inv X pins σ H s) : ∀ (n : Nat) (A : Around) (x y : V) (u v : Value) (d e : PyData), rdD n H x = some d → rdD n H y = some e → RelV x u → RelV y v → A.units + n < cLine → SeqAt.EqAt A s u v (PyData.eqv d e) := by
  intro n
  induction n with
  | zero =>
    intro A x y u v d e hx hy rx ry hu
    rcases notRef_or x with ⟨a, rfl⟩ | nx
    · cases hx
    rcases notRef_or y with ⟨a, rfl⟩ | ny
    · cases hy
    obtain ⟨fx, rfl⟩ := rdD_flat hx nx
    obtain ⟨fy, rfl⟩ := rdD_flat hy ny
    have := eqAt_V (A := A) (s := s) rx ry fx fy
    cases x <;> cases y <;> first | (cases fx; done) | (cases fy; done) | exact this
  | succ n ih =>
    intro A x y u v d e hx hy rx ry hu
    have hu' : A.units < cLine := by omega
    rcases notRef_or x with ⟨a, rfl⟩ | nx
    · obtain ⟨m, em, hx'⟩ := rdD_ref hx
      cases em
      cases rx
      rcases notRef_or y with ⟨b, rfl⟩ | ny
      · obtain ⟨m', em', hy'⟩ := rdD_ref hy
        cases em'
        cases ry
        by_cases hab : a = b
        · subst hab
          rw [hx] at hy
          cases hy
          rw [eqv_self _ _ _ hx]
          exact SeqAt.EqAt.same _
        · rcases hx' with ⟨xs, ds, ha, hd, rfl⟩ | ⟨xs, ds, ha, hd, rfl⟩
          · obtain ⟨its, r1, l1⟩ := at_lst I ha
            obtain ⟨q1, q2⟩ := mapM_some hd
            rcases hy' with ⟨ys, es, hb, he, rfl⟩ | ⟨ys, es, hb, he, rfl⟩
            · obtain ⟨jts, r2, l2⟩ := at_lst I hb
              obtain ⟨p1, p2⟩ := mapM_some he
              have e1 := r1.length
              have e2 := r2.length
              show SeqAt.EqAt A s _ _ (PyData.eqvAll ds es)
              by_cases hl : its.length = jts.length
              · have ez : PyData.eqvAll ds es = (List.range its.toArray.size).all fun j => PyData.eqv (ds.getD j .none) (es.getD j .none) := by
                  rw [eqvAll_of (by omega)]
                  congr 2
                  simp
                  omega
                rw [ez]
                refine SeqAt.EqAt.of_refs hab (SeqAt.RcAt.lists l1 l2 (by simpa using hl) hu' fun j j1 j2 => ?_)
                have j1' : j < xs.length := by simpa [e1] using j1
                have j2' : j < ys.length := by simpa [e2] using j2
                obtain ⟨y1, g1, k1⟩ := q2 j xs[j] (by simp [j1'])
                obtain ⟨y2, g2, k2⟩ := p2 j ys[j] (by simp [j2'])
                obtain ⟨u1, w1, z1⟩ := r1.get (i := j) (x := xs[j]) (by simp [j1'])
                obtain ⟨u2, w2, z2⟩ := r2.get (i := j) (x := ys[j]) (by simp [j2'])
                rw [getD_of g1, getD_of g2]
                have o1 : its.toArray[j] = u1 := by
                  obtain ⟨_, o⟩ := List.getElem?_eq_some_iff.mp w1
                  simpa using o
                have o2 : jts.toArray[j] = u2 := by
                  obtain ⟨_, o⟩ := List.getElem?_eq_some_iff.mp w2
                  simpa using o
                rw [o1, o2]
                exact ih A.in1 _ _ _ _ _ _ k1 k2 z1 z2 (by rw [in1_units]; omega)
              · rw [eqvAll_ne (by omega)]
                exact SeqAt.EqAt.of_refs hab (SeqAt.RcAt.lists_lengths l1 l2 (by simpa using hl) hu')
            · obtain ⟨jts, r2, l2⟩ := at_tup I hb
              exact SeqAt.EqAt.list_tuple l1 l2 hu'
          · obtain ⟨its, r1, l1⟩ := at_tup I ha
            obtain ⟨q1, q2⟩ := mapM_some hd
            rcases hy' with ⟨ys, es, hb, he, rfl⟩ | ⟨ys, es, hb, he, rfl⟩
            · obtain ⟨jts, r2, l2⟩ := at_lst I hb
              exact SeqAt.EqAt.tuple_list l1 l2 hu'
            · obtain ⟨jts, r2, l2⟩ := at_tup I hb
              obtain ⟨p1, p2⟩ := mapM_some he
              have e1 := r1.length
              have e2 := r2.length
              show SeqAt.EqAt A s _ _ (PyData.eqvAll ds es)
              have ez : PyData.eqvAll ds es = ((List.range (min its.toArray.size jts.toArray.size)).all (fun j => PyData.eqv (ds.getD j .none) (es.getD j .none)) && its.toArray.size == jts.toArray.size) := by
                by_cases hl : its.length = jts.length
                · rw [eqvAll_of (by omega)]
                  have : (its.toArray.size == jts.toArray.size) = true := by simpa using hl
                  rw [this, Bool.and_true]
                  congr 2
                  simp
                  omega
                · rw [eqvAll_ne (by omega)]
                  have : (its.toArray.size == jts.toArray.size) = false := by simpa using hl
                  rw [this, Bool.and_false]
              rw [ez]
              refine SeqAt.EqAt.of_refs hab (SeqAt.RcAt.tuples l1 l2 hu' fun j j1 j2 => ?_)
              have j1' : j < xs.length := by simpa [e1] using j1
              have j2' : j < ys.length := by simpa [e2] using j2
              obtain ⟨y1, g1, k1⟩ := q2 j xs[j] (by simp [j1'])
              obtain ⟨y2, g2, k2⟩ := p2 j ys[j] (by simp [j2'])
              obtain ⟨u1, w1, z1⟩ := r1.get (i := j) (x := xs[j]) (by simp [j1'])
              obtain ⟨u2, w2, z2⟩ := r2.get (i := j) (x := ys[j]) (by simp [j2'])
              rw [getD_of g1, getD_of g2]
              have o1 : its.toArray[j] = u1 := by
                obtain ⟨_, o⟩ := List.getElem?_eq_some_iff.mp w1
                simpa using o
              have o2 : jts.toArray[j] = u2 := by
                obtain ⟨_, o⟩ := List.getElem?_eq_some_iff.mp w2
                simpa using o
              rw [o1, o2]
              exact ih A.in1 _ _ _ _ _ _ k1 k2 z1 z2 (by rw [in1_units]; omega)
      · obtain ⟨fy, rfl⟩ := rdD_flat hy ny
        have hs : (∃ its, s.heap.IsList a its) ∨ ∃ its, s.heap.IsTuple a its := by
          rcases hx' with ⟨xs, ds, ha, _, _⟩ | ⟨xs, ds, ha, _, _⟩
          · obtain ⟨its, _, l⟩ := at_lst I ha; exact .inl ⟨_, l⟩
          · obtain ⟨its, _, l⟩ := at_tup I ha; exact .inr ⟨_, l⟩
        have z := (eqAt_fs ry fy hu' hs).2
        rcases hx' with ⟨xs, ds, ha, hd, rfl⟩ | ⟨xs, ds, ha, hd, rfl⟩ <;> (cases y <;> first | (cases fy; done) | exact z)
    · obtain ⟨fx, rfl⟩ := rdD_flat hx nx
      rcases notRef_or y with ⟨b, rfl⟩ | ny
      · obtain ⟨m', em', hy'⟩ := rdD_ref hy
        cases em'
        cases ry
        have hs : (∃ its, s.heap.IsList b its) ∨ ∃ its, s.heap.IsTuple b its := by
          rcases hy' with ⟨xs, ds, ha, _, _⟩ | ⟨xs, ds, ha, _, _⟩
          · obtain ⟨its, _, l⟩ := at_lst I ha; exact .inl ⟨_, l⟩
          · obtain ⟨its, _, l⟩ := at_tup I ha; exact .inr ⟨_, l⟩
        have z := (eqAt_fs rx fx hu' hs).1
        rcases hy' with ⟨xs, ds, ha, hd, rfl⟩ | ⟨xs, ds, ha, hd, rfl⟩ <;> (cases x <;> first | (cases fx; done) | exact z)
      · obtain ⟨fy, rfl⟩ := rdD_flat hy ny
        have := eqAt_V (A := A) (s := s) rx ry fx fy
        cases x <;> cases y <;> first | (cases fx; done) | (cases fy; done) | exact this
/-- == and != of flat values -/
theorem rc_flat {A : Around} {x y : V} {u v : Value} (rx : RelV x u) (ry : RelV y v) (fx : flatV x = true) (fy : flatV y = true) : SeqAt.RcAt A s u v (eqV x y) ∧ SeqAt.RcNeAt A s u v (!eqV x y) := by
  cases x with
  | non =>
    cases rx
    cases y with
    | non =>
      cases ry
      exact ⟨SeqAt.RcAt.none_none, SeqAt.RcNeAt.none_none⟩
    | bl c =>
      cases ry
      exact ⟨SeqAt.RcAt.none_bool _, SeqAt.RcNeAt.none_bool _⟩
    | int c =>
      obtain ⟨t2, rfl⟩ := ry
      exact ⟨SeqAt.RcAt.none_int _ _, SeqAt.RcNeAt.none_int _ _⟩
    | str c =>
      obtain ⟨t2, rfl⟩ := ry
      exact ⟨SeqAt.RcAt.none_str _ _, SeqAt.RcNeAt.none_str _ _⟩
    | _ => cases fy
  | bl a =>
    cases rx
    cases y with
    | non =>
      cases ry
      exact ⟨SeqAt.RcAt.bool_none _, SeqAt.RcNeAt.bool_none _⟩
    | bl c =>
      cases ry
      exact ⟨SeqAt.RcAt.bool_bool _ _, SeqAt.RcNeAt.bool_bool _ _⟩
    | int c =>
      obtain ⟨t2, rfl⟩ := ry
      exact ⟨SeqAt.RcAt.bool_int _ _ _, SeqAt.RcNeAt.bool_int _ _ _⟩
    | str c =>
      obtain ⟨t2, rfl⟩ := ry
      exact ⟨SeqAt.RcAt.bool_str _ _ _, SeqAt.RcNeAt.bool_str _ _ _⟩
    | _ => cases fy
  | int a =>
    obtain ⟨t1, rfl⟩ := rx
    cases y with
    | non =>
      cases ry
      exact ⟨SeqAt.RcAt.int_none _ _, SeqAt.RcNeAt.int_none _ _⟩
    | bl c =>
      cases ry
      exact ⟨SeqAt.RcAt.int_bool _ _ _, SeqAt.RcNeAt.int_bool _ _ _⟩
    | int c =>
      obtain ⟨t2, rfl⟩ := ry
      exact ⟨SeqAt.RcAt.int_int _ _ _ _, SeqAt.RcNeAt.int_int _ _ _ _⟩
    | str c =>
      obtain ⟨t2, rfl⟩ := ry
      exact ⟨SeqAt.RcAt.int_str _ _ _ _, SeqAt.RcNeAt.int_str _ _ _ _⟩
    | _ => cases fy
  | str a =>
    obtain ⟨t1, rfl⟩ := rx
    cases y with
    | non =>
      cases ry
      exact ⟨SeqAt.RcAt.str_none _ _, SeqAt.RcNeAt.str_none _ _⟩
    | bl c =>
      cases ry
      exact ⟨SeqAt.RcAt.str_bool _ _ _, SeqAt.RcNeAt.str_bool _ _ _⟩
    | int c =>
      obtain ⟨t2, rfl⟩ := ry
      exact ⟨SeqAt.RcAt.str_int _ _ _ _, SeqAt.RcNeAt.str_int _ _ _ _⟩
    | str c =>
      obtain ⟨t2, rfl⟩ := ry
      exact ⟨SeqAt.RcAt.str_str _ _ _ _, SeqAt.RcNeAt.str_str _ _ _ _⟩
    | _ => cases fy
  | _ => cases fx
/-- flat against a list or a tuple -/
theorem rc_fs {A : Around} {x : V} {u : Value} {a : Addr} (rx : RelV x u) (fx : flatV x = true) (hu : A.units < cLine) (h : (∃ its, s.heap.IsList a its) ∨ ∃ its, s.heap.IsTuple a its) :
    (SeqAt.RcAt A s u (.ref a) false ∧ SeqAt.RcNeAt A s u (.ref a) true) ∧ SeqAt.RcAt A s (.ref a) u false ∧ SeqAt.RcNeAt A s (.ref a) u true := by
  cases x with
  | non =>
    cases rx
    rcases h with ⟨its, h⟩ | ⟨its, h⟩
    · exact ⟨⟨SeqAt.RcAt.none_list h hu, SeqAt.RcNeAt.none_list h hu⟩, SeqAt.RcAt.list_none h hu, SeqAt.RcNeAt.list_none h hu⟩
    · exact ⟨⟨SeqAt.RcAt.none_tuple h hu, SeqAt.RcNeAt.none_tuple h hu⟩, SeqAt.RcAt.tuple_none h hu, SeqAt.RcNeAt.tuple_none h hu⟩
  | bl a =>
    cases rx
    rcases h with ⟨its, h⟩ | ⟨its, h⟩
    · exact ⟨⟨SeqAt.RcAt.bool_list _ h hu, SeqAt.RcNeAt.bool_list _ h hu⟩, SeqAt.RcAt.list_bool _ h hu, SeqAt.RcNeAt.list_bool _ h hu⟩
    · exact ⟨⟨SeqAt.RcAt.bool_tuple _ h hu, SeqAt.RcNeAt.bool_tuple _ h hu⟩, SeqAt.RcAt.tuple_bool _ h hu, SeqAt.RcNeAt.tuple_bool _ h hu⟩
  | int a =>
    obtain ⟨t1, rfl⟩ := rx
    rcases h with ⟨its, h⟩ | ⟨its, h⟩
    · exact ⟨⟨SeqAt.RcAt.int_list _ _ h hu, SeqAt.RcNeAt.int_list _ _ h hu⟩, SeqAt.RcAt.list_int _ _ h hu, SeqAt.RcNeAt.list_int _ _ h hu⟩
    · exact ⟨⟨SeqAt.RcAt.int_tuple _ _ h hu, SeqAt.RcNeAt.int_tuple _ _ h hu⟩, SeqAt.RcAt.tuple_int _ _ h hu, SeqAt.RcNeAt.tuple_int _ _ h hu⟩
  | str a =>
    obtain ⟨t1, rfl⟩ := rx
    rcases h with ⟨its, h⟩ | ⟨its, h⟩
    · exact ⟨⟨SeqAt.RcAt.str_list _ _ h hu, SeqAt.RcNeAt.str_list _ _ h hu⟩, SeqAt.RcAt.list_str _ _ h hu, SeqAt.RcNeAt.list_str _ _ h hu⟩
    · exact ⟨⟨SeqAt.RcAt.str_tuple _ _ h hu, SeqAt.RcNeAt.str_tuple _ _ h hu⟩, SeqAt.RcAt.tuple_str _ _ h hu, SeqAt.RcNeAt.tuple_str _ _ h hu⟩
  | _ => cases fx
theorem rcAt_D (I : Inv X pins σ H s) {n : Nat} {A : Around} {x y : V} {u v : Value} {d e : PyData} (hx : rdD n H x = some d) (hy : rdD n H y = some e) (rx : RelV x u) (ry : RelV y v) (hu : A.units + n < cLine) :
    SeqAt.RcAt A s u v (PyData.eqv d e) ∧ SeqAt.RcNeAt A s u v (!PyData.eqv d e) := by
  have hu' : A.units < cLine := by omega
  have seq : ∀ {a : Addr} {d : PyData}, rdD n H (.ref a) = some d → (∃ its, s.heap.IsList a its) ∨ ∃ its, s.heap.IsTuple a its := fun {a d} h => by
    obtain ⟨m, em, h'⟩ := rdD_ref h
    rcases h' with ⟨xs, ds, ha, _, _⟩ | ⟨xs, ds, ha, _, _⟩
    · obtain ⟨its, _, l⟩ := at_lst I ha; exact .inl ⟨_, l⟩
    · obtain ⟨its, _, l⟩ := at_tup I ha; exact .inr ⟨_, l⟩
  have sd : ∀ {a : Addr} {d : PyData}, rdD n H (.ref a) = some d → (∃ ds, d = .list ds) ∨ ∃ ds, d = .tuple ds := fun {a d} h => by
    obtain ⟨m, em, h'⟩ := rdD_ref h
    rcases h' with ⟨xs, ds, _, _, e⟩ | ⟨xs, ds, _, _, e⟩
    · exact .inl ⟨ds, e⟩
    · exact .inr ⟨ds, e⟩
  rcases notRef_or x with ⟨a, rfl⟩ | nx
  · rcases notRef_or y with ⟨b, rfl⟩ | ny
    · cases rx
      cases ry
      obtain ⟨m, em, hx'⟩ := rdD_ref hx
      obtain ⟨m', em', hy'⟩ := rdD_ref hy
      subst em
      cases em'
      rcases hx' with ⟨xs, ds, ha, hd, rfl⟩ | ⟨xs, ds, ha, hd, rfl⟩
      · obtain ⟨its, r1, l1⟩ := at_lst I ha
        obtain ⟨q1, q2⟩ := mapM_some hd
        rcases hy' with ⟨ys, es, hb, he, rfl⟩ | ⟨ys, es, hb, he, rfl⟩
        · obtain ⟨jts, r2, l2⟩ := at_lst I hb
          obtain ⟨p1, p2⟩ := mapM_some he
          have e1 := r1.length
          have e2 := r2.length
          show SeqAt.RcAt A s _ _ (PyData.eqvAll ds es) ∧ SeqAt.RcNeAt A s _ _ (!PyData.eqvAll ds es)
          by_cases hl : its.length = jts.length
          · have ez : PyData.eqvAll ds es = (List.range its.toArray.size).all fun j => PyData.eqv (ds.getD j .none) (es.getD j .none) := by
              rw [eqvAll_of (by omega)]
              congr 2
              simp
              omega
            rw [ez]
            have each : ∀ j (j1 : j < its.toArray.size) (j2 : j < jts.toArray.size), SeqAt.EqAt A.in1 s its.toArray[j] jts.toArray[j] (PyData.eqv (ds.getD j .none) (es.getD j .none)) := fun j j1 j2 => by
              have j1' : j < xs.length := by simpa [e1] using j1
              have j2' : j < ys.length := by simpa [e2] using j2
              obtain ⟨y1, g1, k1⟩ := q2 j xs[j] (by simp [j1'])
              obtain ⟨y2, g2, k2⟩ := p2 j ys[j] (by simp [j2'])
              obtain ⟨u1, w1, z1⟩ := r1.get (i := j) (x := xs[j]) (by simp [j1'])
              obtain ⟨u2, w2, z2⟩ := r2.get (i := j) (x := ys[j]) (by simp [j2'])
              rw [getD_of g1, getD_of g2]
              have o1 : its.toArray[j] = u1 := by
                obtain ⟨_, o⟩ := List.getElem?_eq_some_iff.mp w1
                simpa using o
              have o2 : jts.toArray[j] = u2 := by
                obtain ⟨_, o⟩ := List.getElem?_eq_some_iff.mp w2
                simpa using o
              rw [o1, o2]
              exact eqAt_D I m A.in1 _ _ _ _ _ _ k1 k2 z1 z2 (by rw [in1_units]; omega)
            exact ⟨SeqAt.RcAt.lists l1 l2 (by simpa using hl) hu' each, SeqAt.RcNeAt.lists l1 l2 (by simpa using hl) hu' each⟩
          · rw [eqvAll_ne (by omega)]
            exact ⟨SeqAt.RcAt.lists_lengths l1 l2 (by simpa using hl) hu', SeqAt.RcNeAt.lists_lengths l1 l2 (by simpa using hl) hu'⟩
        · obtain ⟨jts, r2, l2⟩ := at_tup I hb
          exact ⟨SeqAt.RcAt.list_tuple l1 l2 hu', SeqAt.RcNeAt.list_tuple l1 l2 hu'⟩
      · obtain ⟨its, r1, l1⟩ := at_tup I ha
        obtain ⟨q1, q2⟩ := mapM_some hd
        rcases hy' with ⟨ys, es, hb, he, rfl⟩ | ⟨ys, es, hb, he, rfl⟩
        · obtain ⟨jts, r2, l2⟩ := at_lst I hb
          exact ⟨SeqAt.RcAt.tuple_list l1 l2 hu', SeqAt.RcNeAt.tuple_list l1 l2 hu'⟩
        · obtain ⟨jts, r2, l2⟩ := at_tup I hb
          obtain ⟨p1, p2⟩ := mapM_some he
          have e1 := r1.length
          have e2 := r2.length
          show SeqAt.RcAt A s _ _ (PyData.eqvAll ds es) ∧ SeqAt.RcNeAt A s _ _ (!PyData.eqvAll ds es)
          have ez : PyData.eqvAll ds es = ((List.range (min its.toArray.size jts.toArray.size)).all (fun j => PyData.eqv (ds.getD j .none) (es.getD j .none)) && its.toArray.size == jts.toArray.size) := by
            by_cases hl : its.length = jts.length
            · rw [eqvAll_of (by omega)]
              have : (its.toArray.size == jts.toArray.size) = true := by simpa using hl
              rw [this, Bool.and_true]
              congr 2
              simp
              omega
            · rw [eqvAll_ne (by omega)]
              have : (its.toArray.size == jts.toArray.size) = false := by simpa using hl
              rw [this, Bool.and_false]
          rw [ez]
          have each : ∀ j (j1 : j < its.toArray.size) (j2 : j < jts.toArray.size), SeqAt.EqAt A.in1 s its.toArray[j] jts.toArray[j] (PyData.eqv (ds.getD j .none) (es.getD j .none)) := fun j j1 j2 => by
            have j1' : j < xs.length := by simpa [e1] using j1
            have j2' : j < ys.length := by simpa [e2] using j2
            obtain ⟨y1, g1, k1⟩ := q2 j xs[j] (by simp [j1'])
            obtain ⟨y2, g2, k2⟩ := p2 j ys[j] (by simp [j2'])
            obtain ⟨u1, w1, z1⟩ := r1.get (i := j) (x := xs[j]) (by simp [j1'])
            obtain ⟨u2, w2, z2⟩ := r2.get (i := j) (x := ys[j]) (by simp [j2'])
            rw [getD_of g1, getD_of g2]
            have o1 : its.toArray[j] = u1 := by
              obtain ⟨_, o⟩ := List.getElem?_eq_some_iff.mp w1
              simpa using o
            have o2 : jts.toArray[j] = u2 := by
              obtain ⟨_, o⟩ := List.getElem?_eq_some_iff.mp w2
              simpa using o
            rw [o1, o2]
            exact eqAt_D I m A.in1 _ _ _ _ _ _ k1 k2 z1 z2 (by rw [in1_units]; omega)
          exact ⟨SeqAt.RcAt.tuples l1 l2 hu' each, SeqAt.RcNeAt.tuples l1 l2 hu' each⟩
    · obtain ⟨fy, rfl⟩ := rdD_flat hy ny
      have z := (rc_fs (A := A) ry fy hu' (seq hx)).2
      cases rx
      rcases sd hx with ⟨ds, rfl⟩ | ⟨ds, rfl⟩ <;> (cases y <;> first | (cases fy; done) | exact z)
  · obtain ⟨fx, rfl⟩ := rdD_flat hx nx
    rcases notRef_or y with ⟨b, rfl⟩ | ny
    · cases ry
      have z := (rc_fs rx fx hu' (seq hy)).1
      rcases sd hy with ⟨ds, rfl⟩ | ⟨ds, rfl⟩ <;> (cases x <;> first | (cases fx; done) | exact z)
    · obtain ⟨fy, rfl⟩ := rdD_flat hy ny
      have := rc_flat (A := A) (s := s) rx ry fx fy
      cases x <;> cases y <;> first | (cases fx; done) | (cases fy; done) | exact this
def isRf : V → Bool
  | .ref _ => true
  | _ => false
def eqD (x y : V) (H : Hp) (Q : VK) : Prop := match rdD 8 H x, rdD 8 H y with
  | some d, some e => Q (.bl (PyData.eqv d e)) H
  | _, _ => False
/-- equal by sight: the same object, equal data, or lists of such -/
inductive EqT (H : Hp) : Nat → V → V → Prop where
  | same (n : Nat) (a : Addr) : EqT H n (.ref a) (.ref a)
  | data {n : Nat} {x y : V} {d e : PyData} (hx : rdD n H x = some d) (hy : rdD n H y = some e) (h : PyData.eqv d e = true) : EqT H n x y
  | lst {n : Nat} {p q : Addr} {xs ys : List V} (hne : p ≠ q) (hp : H p = some (.lst xs)) (hq : H q = some (.lst ys)) (hl : xs.length = ys.length) (he : ∀ (i : Nat) x y, xs[i]? = some x → ys[i]? = some y → EqT H n x y) : EqT H (n + 1) (.ref p) (.ref q)
theorem list_T (I : Inv X pins σ H s) {A : Around} {p q : Addr} {xs ys : List V} (hp : H p = some (.lst xs)) (hq : H q = some (.lst ys)) (hl : xs.length = ys.length) (hu : A.units < cLine)
    (he : ∀ (i : Nat) x y u v, xs[i]? = some x → ys[i]? = some y → RelV x u → RelV y v → SeqAt.EqAt A.in1 s u v true) : SeqAt.RcAt A s (.ref p) (.ref q) true ∧ SeqAt.RcNeAt A s (.ref p) (.ref q) false := by
  obtain ⟨its, r1, l1⟩ := at_lst I hp
  obtain ⟨jts, r2, l2⟩ := at_lst I hq
  have e1 := r1.length
  have e2 := r2.length
  have each : ∀ j (j1 : j < its.toArray.size) (j2 : j < jts.toArray.size), SeqAt.EqAt A.in1 s its.toArray[j] jts.toArray[j] ((fun _ : Nat => true) j) := fun j j1 j2 => by
    have j1' : j < xs.length := by simpa [e1] using j1
    have j2' : j < ys.length := by simpa [e2] using j2
    obtain ⟨u1, w1, z1⟩ := r1.get (i := j) (x := xs[j]) (by simp [j1'])
    obtain ⟨u2, w2, z2⟩ := r2.get (i := j) (x := ys[j]) (by simp [j2'])
    have o1 : its.toArray[j] = u1 := by
      obtain ⟨_, o⟩ := List.getElem?_eq_some_iff.mp w1
      simpa using o
    have o2 : jts.toArray[j] = u2 := by
      obtain ⟨_, o⟩ := List.getElem?_eq_some_iff.mp w2
      simpa using o
    rw [o1, o2]
    exact he j xs[j] ys[j] u1 u2 (by simp [j1']) (by simp [j2']) z1 z2
  have all : (List.range its.toArray.size).all (fun _ : Nat => true) = true := by simp
  have a := SeqAt.RcAt.lists l1 l2 (by simp; omega) hu each
  have b := SeqAt.RcNeAt.lists l1 l2 (by simp; omega) hu each
  rw [all] at a b
  exact ⟨a, b⟩
theorem eqT_at (I : Inv X pins σ H s) : ∀ {n : Nat} {x y : V}, EqT H n x y → ∀ {A : Around} {u v : Value}, RelV x u → RelV y v → A.units + n < cLine → SeqAt.EqAt A s u v true := fun {n x y} h => by
  induction h with
  | same n a =>
    intro A u v ru rv hu
    cases ru
    cases rv
    exact SeqAt.EqAt.same _
  | data hx hy h =>
    intro A u v ru rv hu
    have := eqAt_D I _ A _ _ _ _ _ _ hx hy ru rv hu
    rw [h] at this
    exact this
  | lst hne hp hq hl he ih =>
    intro A u v ru rv hu
    cases ru
    cases rv
    exact SeqAt.EqAt.of_refs hne (list_T I hp hq hl (by omega) fun i x y u v h1 h2 r1 r2 => ih i x y h1 h2 r1 r2 (by rw [in1_units]; omega)).1
/-- two lists, equal by sight -/
def eqL (x y : V) (H : Hp) (Q : VK) : Prop := ∃ (p q : Addr) (xs ys : List V), x = .ref p ∧ y = .ref q ∧ H p = some (.lst xs) ∧ H q = some (.lst ys) ∧ xs.length = ys.length ∧ (∀ (i : Nat) x y, xs[i]? = some x → ys[i]? = some y → EqT H 8 x y) ∧ Q (.bl true) H
@[irreducible] def eqH (x y : V) (H : Hp) (Q : VK) : Prop := eqD x y H Q ∨ eqL x y H Q
def eqG : R2 := fun x y H Q => match isRf x || isRf y with
  | true => eqH x y H Q
  | false => eqD x y H Q
theorem eqG_D {x y : V} {H : Hp} {Q : VK} (h : eqG x y H Q) : eqD x y H Q ∨ eqL x y H Q := by
  unfold eqG at h
  split at h
  · unfold eqH at h
    exact h
  · exact .inl h
def neG : R2 := fun x y H Q => eqG x y H fun v H1 => match v with
  | .bl b => Q (.bl (!b)) H1
  | _ => False
theorem op_eqG {k : Nat} (hr : Room k X.A) : OpR X (compareOp .Eq) eqG := fun pins s σ H x y v u Q I rx ry h => by
  rcases eqG_D h with h | ⟨p, q, xs, ys, rfl, rfl, hp, hq, hl, he, h⟩
  · unfold eqD at h
    split at h
    · rename_i d e h1 h2
      exact (rcAt_D I h1 h2 rx ry (by have := hr.un; omega)).1 X.prog X.w X.xe _ ⟨.bl _, H, I, rfl, h⟩
    · exact h.elim
  · cases rx
    cases ry
    exact (list_T I hp hq hl (by have := hr.un; omega) fun i x y u v h1 h2 r1 r2 => eqT_at I (he i x y h1 h2) r1 r2 (by rw [in1_units]; have := hr.un; omega)).1 X.prog X.w X.xe _ ⟨.bl _, H, I, rfl, h⟩
theorem op_neG {k : Nat} (hr : Room k X.A) : OpR X (compareOp .NotEq) neG := fun pins s σ H x y v u Q I rx ry h => by
  rcases eqG_D h with h | ⟨p, q, xs, ys, rfl, rfl, hp, hq, hl, he, h⟩
  · unfold eqD at h
    split at h
    · rename_i d e h1 h2
      exact (rcAt_D I h1 h2 rx ry (by have := hr.un; omega)).2 X.prog X.w X.xe _ ⟨.bl _, H, I, rfl, h⟩
    · exact h.elim
  · cases rx
    cases ry
    exact (list_T I hp hq hl (by have := hr.un; omega) fun i x y u v h1 h2 r1 r2 => eqT_at I (he i x y h1 h2) r1 r2 (by rw [in1_units]; have := hr.un; omega)).2 X.prog X.w X.xe _ ⟨.bl _, H, I, rfl, h⟩
end
end Tv

set_option Elab.async false
set_option linter.all false
set_option maxRecDepth 100000
set_option maxHeartbeats 4000000
namespace Tv
open PySem PySem.Spec PyProof.Rows L2
/-! ### dicts -/
def keyOf : V → Option Key
  | .int i => some (.inl i)
  | .str x => some (.inr x)
  | _ => none
theorem keyOf_kV {x : V} {k : Key} (h : keyOf x = some k) : x = kV k := by
  cases x <;> first | (cases h; rfl) | cases h
def keysOf (xs : List V) : Option (List Key) := xs.mapM keyOf
theorem keysOf_kV : ∀ {xs : List V} {ks : List Key}, keysOf xs = some ks → xs = ks.map kV
  | [], ks, h => by
    unfold keysOf at h
    simp at h
    subst h
    rfl
  | x :: xs, ks, h => by
    unfold keysOf at h
    rw [mapM_cons] at h
    cases e : keyOf x with
    | none => rw [e] at h; cases h
    | some y =>
      cases e2 : xs.mapM keyOf with
      | none => rw [e, e2] at h; cases h
      | some r =>
        rw [e, e2] at h
        cases h
        rw [List.map_cons, ← keyOf_kV e, ← keysOf_kV e2]
/-- what the dict at a holds at y: none where that is not known -/
def dLook (H : Hp) (a : Addr) (y : V) : Option (Option V) := match H a with
  | some (.dK kvs) => (keyOf y).map (valV kvs)
  | some (.frz _ (.dK kvs)) => (keyOf y).map (valV kvs)
  | some (.dT kvs) => match y with
    | .ref b => match H b with
      | some (.tup xs) => (keysOf xs).map (valV kvs)
      | _ => none
    | _ => none
  | _ => none
theorem dLook_get {H : Hp} {a : Addr} {y : V} {r : Option V} (h : dLook H a y = some r) : DGet H a y r := by
  unfold dLook at h
  split at h
  · rename_i kvs e
    cases e2 : keyOf y with
    | none => rw [e2] at h; cases h
    | some k => rw [e2] at h; cases h; rw [keyOf_kV e2]; exact DGet.k e
  · rename_i ob kvs e
    cases e2 : keyOf y with
    | none => rw [e2] at h; cases h
    | some k => rw [e2] at h; cases h; rw [keyOf_kV e2]; exact .inl ⟨_, _, .inr ⟨_, e⟩, rfl, rfl⟩
  · rename_i kvs e
    split at h
    · split at h
      · rename_i xs e3
        cases e2 : keysOf xs with
        | none => rw [e2] at h; cases h
        | some k => rw [e2] at h; cases h; rw [keysOf_kV e2] at e3; exact DGet.t e e3
      · cases h
    · cases h
  · cases h
section
variable {X : Cx} {pins : List (Addr × Obj)} {σ : St} {H : Hp} {s : Shared}
/-! ### x[y] -/
@[irreducible] def getG : R2 := fun x y H Q => match x with
  | .str z => match y with
    | .int i => match atI z.cps.toList i with
      | some c => z.length ≤ sizeLine ∧ Q (.str ⟨#[c]⟩) H
      | none => False
    | _ => False
  | .ref p => match H p with
    | some (.lst xs) => match y with
      | .int i => match atI xs i with
        | some v => Q v H
        | none => False
      | _ => False
    | some (.tup xs) => match y with
      | .int i => match atI xs i with
        | some v => Q v H
        | none => False
      | _ => False
    | _ => match dLook H p y with
      | some (some v) => Q v H
      | _ => False
  | _ => False
theorem ix_dict (hu : X.A.units + 1 < cLine) : IxR X (fun x y H Q => ∃ a v, x = .ref a ∧ DGet H a y (some v) ∧ Q v H) := by
  intro value slice pins s σ H x y v u Q I rx ry h hs
  obtain ⟨a, z, rfl, g, q⟩ := h
  cases rx
  exact tail_any (dict_typeIs I g) PySem.F.slot_dict_getitem.lookup (d_getItem hu I g ry fun w' s3 I3 rw' => ⟨z, H, I3, rw', q⟩) hs
theorem ix_getG (hu : X.A.units + 1 < cLine) : IxR X getG := IxR.imp (IxR.or ix_list (IxR.or ix_tup (IxR.or ix_str (ix_dict hu)))) fun x y H Q h => by
  unfold getG at h
  split at h
  · split at h
    · split at h
      · exact .inr (.inr (.inl ⟨_, _, _, rfl, rfl, h.1, by assumption, h.2⟩))
      · exact h.elim
    · exact h.elim
  · split at h
    · split at h
      · split at h
        · exact .inl ⟨_, _, _, _, rfl, rfl, .inl (.inl (by assumption)), by assumption, h⟩
        · exact h.elim
      · exact h.elim
    · split at h
      · split at h
        · exact .inr (.inl ⟨_, _, _, _, rfl, rfl, .inl (.inl (by assumption)), by assumption, h⟩)
        · exact h.elim
      · exact h.elim
    · split at h
      · exact .inr (.inr (.inr ⟨_, _, rfl, dLook_get (by assumption), h⟩))
      · exact h.elim
  · exact h.elim
/-! ### x in y -/
def rdAll (H : Hp) (xs : List V) : Option (List PyData) := xs.mapM (rdD 7 H)
@[irreducible] def inG (neg : Bool) : R2 := fun x y H Q => match y with
  | .ref p => match H p with
    | some (.lst ys) => match rdAll H ys, rdD 7 H x with
      | some es, some d => Q (.bl (neg ^^ es.any fun e => PyData.eqv e d)) H
      | _, _ => False
    | some (.tup ys) => match rdAll H ys, rdD 7 H x with
      | some es, some d => Q (.bl (neg ^^ es.any fun e => PyData.eqv e d)) H
      | _, _ => False
    | _ => match dLook H p x with
      | some o => Q (.bl (neg ^^ o.isSome)) H
      | _ => False
  | .str j => match x with
    | .str i => Q (.bl (neg ^^ !(Builtin.Str.occurrences j i 0 j.length 1).isEmpty)) H
    | _ => False
  | _ => False
theorem any_items {n : Nat} {d : PyData} {f : Value → Bool} : ∀ {ys : List V} {us : List Value} {es : List PyData}, Vals ys us → ys.mapM (rdD n H) = some es → (∀ y u e, RelV y u → rdD n H y = some e → f u = PyData.eqv e d) → us.any f = es.any fun e => PyData.eqv e d
  | _, _, _, .nil, h, _ => by
    simp at h
    subst h
    rfl
  | y :: ys, u :: us, es, .cons r t, h, hf => by
    rw [mapM_cons] at h
    cases e : rdD n H y with
    | none => rw [e] at h; cases h
    | some z =>
      cases e2 : ys.mapM (rdD n H) with
      | none => rw [e, e2] at h; cases h
      | some r2 =>
        rw [e, e2] at h
        cases h
        rw [List.any_cons, List.any_cons, hf y u z r e, any_items t e2 hf]
/-- the answer, read off the value -/
def ansOf (n : Nat) (H : Hp) (d : PyData) (u : Value) : Bool := match absV u with
  | some y => match rdD n H y with
    | some e => PyData.eqv e d
    | none => false
  | none => false
theorem ansOf_eq {n : Nat} {d e : PyData} {y : V} {u : Value} (r : RelV y u) (h : rdD n H y = some e) : ansOf n H d u = PyData.eqv e d := by
  unfold ansOf
  rw [r.abs]
  simp only [h]
theorem each_item {n : Nat} {d : PyData} {x : V} {v : Value} {A : Around} (I : Inv X pins σ H s) (hu : A.units + n < cLine) (hx : rdD n H x = some d) (rx : RelV x v) : ∀ {ys : List V} {us : List Value} {es : List PyData}, Vals ys us → ys.mapM (rdD n H) = some es → ∀ u ∈ us, SeqAt.EqAt A s u v (ansOf n H d u)
  | _, _, _, .nil, _, u, h => by cases h
  | y :: ys, u :: us, es, .cons r t, h, w, hw => by
    rw [mapM_cons] at h
    cases e : rdD n H y with
    | none => rw [e] at h; cases h
    | some z =>
      cases e2 : ys.mapM (rdD n H) with
      | none => rw [e, e2] at h; cases h
      | some r2 =>
        rcases List.mem_cons.mp hw with rfl | hw
        · rw [ansOf_eq r e]
          exact eqAt_D I n A y x _ _ _ _ e hx r rx hu
        · exact each_item I hu hx rx t e2 w hw
theorem in_D {k : Nat} (hr : Room k X.A) {p : Addr} {ys : List V} {es : List PyData} {d : PyData} {x : V} {v : Value} {Q : VK} (I : Inv X pins σ H s) (hp : H p = some (.lst ys) ∨ H p = some (.tup ys)) (he : rdAll H ys = some es) (hx : rdD 7 H x = some d) (rx : RelV x v) :
    (Q (.bl (es.any fun e => PyData.eqv e d)) H → wpAny (model X.prog X.w) X.A (compareOp .In v (.ref p)) (EP X pins σ Q) X.xe s) ∧
    (Q (.bl (!es.any fun e => PyData.eqv e d)) H → wpAny (model X.prog X.w) X.A (compareOp .NotIn v (.ref p)) (EP X pins σ Q) X.xe s) := by
  have hu : X.A.in1.units + 7 < cLine := by
    have := hr.un
    rw [in1_units]
    omega
  rcases hp with hp | hp
  · obtain ⟨its, r, l⟩ := at_lst I hp
    have ea : its.toArray.any (ansOf 7 H d) = es.any fun e => PyData.eqv e d := by
      rw [show its.toArray.any (ansOf 7 H d) = its.any (ansOf 7 H d) by simp]
      exact any_items r he fun y u e ru hy => ansOf_eq ru hy
    refine ⟨fun q => SeqAt.in_listAt (ansOf 7 H d) l (fun w hw => each_item I hu hx rx r he w (by simpa using hw)) ⟨.bl _, H, I, rfl, ?_⟩, fun q => SeqAt.notIn_listAt (ansOf 7 H d) l (fun w hw => each_item I hu hx rx r he w (by simpa using hw)) ⟨.bl _, H, I, rfl, ?_⟩⟩ <;> (rw [ea]; exact q)
  · obtain ⟨its, r, l⟩ := at_tup I hp
    have ea : its.toArray.any (ansOf 7 H d) = es.any fun e => PyData.eqv e d := by
      rw [show its.toArray.any (ansOf 7 H d) = its.any (ansOf 7 H d) by simp]
      exact any_items r he fun y u e ru hy => ansOf_eq ru hy
    refine ⟨fun q => SeqAt.in_tupleAt (ansOf 7 H d) l (fun w hw => each_item I hu hx rx r he w (by simpa using hw)) ⟨.bl _, H, I, rfl, ?_⟩, fun q => SeqAt.notIn_tupleAt (ansOf 7 H d) l (fun w hw => each_item I hu hx rx r he w (by simpa using hw)) ⟨.bl _, H, I, rfl, ?_⟩⟩ <;> (rw [ea]; exact q)
theorem op_inG {k : Nat} (hr : Room k X.A) : OpR X (compareOp .In) (inG false) := fun pins s σ H x y v u Q I rx ry h => by
  unfold inG at h
  simp only [Bool.false_bne] at h
  split at h
  · cases ry
    split at h
    · split at h
      · exact (in_D hr I (.inl (by assumption)) (by assumption) (by assumption) rx).1 (by simpa using h)
      · exact h.elim
    · split at h
      · exact (in_D hr I (.inr (by assumption)) (by assumption) (by assumption) rx).1 (by simpa using h)
      · exact h.elim
    · split at h
      · exact d_in (hu_of hr) I (dLook_get (by assumption)) rx fun s' I' => ⟨.bl _, H, I', rfl, by simpa using h⟩
      · exact h.elim
  · split at h
    · exact op_in_str pins s σ H _ _ v u Q I rx ry ⟨_, _, rfl, rfl, by simpa using h⟩
    · exact h.elim
  · exact h.elim
theorem op_notInG {k : Nat} (hr : Room k X.A) : OpR X (compareOp .NotIn) (inG true) := fun pins s σ H x y v u Q I rx ry h => by
  unfold inG at h
  split at h
  · cases ry
    split at h
    · split at h
      · exact (in_D hr I (.inl (by assumption)) (by assumption) (by assumption) rx).2 (by simpa using h)
      · exact h.elim
    · split at h
      · exact (in_D hr I (.inr (by assumption)) (by assumption) (by assumption) rx).2 (by simpa using h)
      · exact h.elim
    · split at h
      · exact d_notIn (hu_of hr) I (dLook_get (by assumption)) rx fun s' I' => ⟨.bl _, H, I', rfl, by simpa using h⟩
      · exact h.elim
  · split at h
    · exact op_notin_str pins s σ H _ _ v u Q I rx ry ⟨_, _, rfl, rfl, by simpa using h⟩
    · exact h.elim
  · exact h.elim
/-! ### the other comparisons -/
def ltG : R2 := fun x y H Q => match x, y with
  | .int i, .int j => Q (.bl (decide (i < j))) H
  | .str i, .str j => Q (.bl (decide (i.cps.toList < j.cps.toList))) H
  | _, _ => False
def leG : R2 := fun x y H Q => match x, y with
  | .int i, .int j => Q (.bl (decide (i ≤ j))) H
  | .str i, .str j => Q (.bl (!decide (j.cps.toList < i.cps.toList))) H
  | _, _ => False
def gtG : R2 := fun x y H Q => match x, y with
  | .int i, .int j => Q (.bl (decide (j < i))) H
  | _, _ => False
def geG : R2 := fun x y H Q => match x, y with
  | .int i, .int j => Q (.bl (decide (j ≤ i))) H
  | _, _ => False
theorem op_ltG : OpR X (compareOp .Lt) ltG := OpR.imp (OpR.or op_lt op_lt_str) fun x y H Q h => by
  unfold ltG at h
  split at h
  · exact .inl ⟨_, _, rfl, rfl, h⟩
  · exact .inr ⟨_, _, rfl, rfl, h⟩
  · exact h.elim
theorem op_leG : OpR X (compareOp .LtE) leG := OpR.imp (OpR.or op_le op_le_str) fun x y H Q h => by
  unfold leG at h
  split at h
  · exact .inl ⟨_, _, rfl, rfl, h⟩
  · exact .inr ⟨_, _, rfl, rfl, h⟩
  · exact h.elim
theorem op_gtG : OpR X (compareOp .Gt) gtG := OpR.imp op_gt fun x y H Q h => by
  unfold gtG at h
  split at h
  · exact ⟨_, _, rfl, rfl, h⟩
  · exact h.elim
theorem op_geG : OpR X (compareOp .GtE) geG := OpR.imp op_ge fun x y H Q h => by
  unfold geG at h
  split at h
  · exact ⟨_, _, rfl, rfl, h⟩
  · exact h.elim
def isG (neg : Bool) : R2 := fun x y H Q => match y with
  | .non => Q (.bl (neg ^^ decide (x = .non))) H
  | .bl b => Q (.bl (neg ^^ decide (x = .bl b))) H
  | _ => False
end
end Tv

set_option Elab.async false
set_option linter.all false
set_option maxRecDepth 100000
set_option maxHeartbeats 4000000
namespace Tv
open PySem PySem.Spec PyProof.Rows L2
section
variable {X : Cx} {pins : List (Addr × Obj)} {σ : St} {H : Hp} {s : Shared}
theorem op_isG : OpR X (compareOp .Is) (isG false) := fun pins s σ H x y v u Q I rx ry h => by
  unfold isG at h
  split at h
  · exact op_isN pins s σ H x _ v u Q I rx ry ⟨rfl, by simpa using h⟩
  · rename_i b
    cases ry
    have e : (v == Value.bool b) = decide (x = .bl b) := by
      cases x <;> first
        | (cases rx; rfl)
        | (obtain ⟨t, rfl⟩ := rx; rfl)
        | (cases rx; rename_i c; cases b <;> cases c <;> rfl)
    refine wpAny_is_plain (by cases x <;> first | (cases rx; rfl) | (obtain ⟨t, rfl⟩ := rx; rfl)) ⟨.bl _, H, I, rfl, ?_⟩
    rw [e]
    simpa using h
  · exact h.elim
theorem op_isNotG : OpR X (compareOp .IsNot) (isG true) := fun pins s σ H x y v u Q I rx ry h => by
  unfold isG at h
  split at h
  · exact op_notN pins s σ H x _ v u Q I rx ry ⟨rfl, by simpa using h⟩
  · rename_i b
    cases ry
    have e : (v == Value.bool b) = decide (x = .bl b) := by
      cases x <;> first
        | (cases rx; rfl)
        | (obtain ⟨t, rfl⟩ := rx; rfl)
        | (cases rx; rename_i c; cases b <;> cases c <;> rfl)
    refine wpAny_isNot_plain (by cases x <;> first | (cases rx; rfl) | (obtain ⟨t, rfl⟩ := rx; rfl)) ⟨.bl _, H, I, rfl, ?_⟩
    rw [show (!(v == Value.bool b)) = !decide (x = .bl b) by rw [e]]
    simpa using h
  · exact h.elim
def cmpG : CmpOp → R2
  | .Eq => eqG | .NotEq => neG | .Lt => ltG | .LtE => leG | .Gt => gtG | .GtE => geG | .In => inG false | .NotIn => inG true | .Is => isG false | .IsNot => isG true
theorem op_cmpG {k : Nat} (hr : Room k X.A) : ∀ op, OpR X (compareOp op) (cmpG op)
  | .Eq => op_eqG hr | .NotEq => op_neG hr | .Lt => op_ltG | .LtE => op_leG | .Gt => op_gtG | .GtE => op_geG | .In => op_inG hr | .NotIn => op_notInG hr | .Is => op_isG | .IsNot => op_isNotG
/-! ### truth -/
@[irreducible] def truH (p : Addr) (H : Hp) (Q : Bool → Hp → Prop) : Prop := match H p with
  | some (.lst xs) => Q (!xs.isEmpty) H
  | some (.tup xs) => Q (!xs.isEmpty) H
  | some (.dK kvs) => Q (!kvs.isEmpty) H
  | _ => False
def truG (x : V) (H : Hp) (Q : Bool → Hp → Prop) : Prop := match x with
  | .non => Q false H
  | .bl b => Q b H
  | .int i => Q (i != 0) H
  | .str y => y.length ≤ sizeLine ∧ Q ((y.length : Int) != 0) H
  | .ref p => truH p H Q
  | _ => False
theorem truG_of {x : V} {H : Hp} {Q : Bool → Hp → Prop} {K : PySem.W.Frag} (h : truG x H Q) : ∃ k, TruV K x H k ∧ Q k H := by
  unfold truG at h
  split at h
  · exact ⟨_, rfl, h⟩
  · exact ⟨_, rfl, h⟩
  · exact ⟨_, rfl, h⟩
  · exact ⟨_, ⟨h.1, rfl⟩, h.2⟩
  · unfold truH at h
    split at h
    · exact ⟨_, .inl ⟨_, .inl (.inl (by assumption)), rfl⟩, h⟩
    · exact ⟨_, .inr (.inl ⟨_, .inl (.inl (by assumption)), rfl⟩), h⟩
    · exact ⟨_, .inr (.inr ⟨_, by assumption, rfl⟩), h⟩
    · exact h.elim
  · exact h.elim
/-- a value as a test -/
def ptG (t : TE) : TT := fun σ H Q => t σ H fun x H1 => truG x H1 Q
theorem pt_G {e : Expr} {t : TE} (h : PE X e t) (he : ∀ whole, isTrue e X.env whole = (do let v ← whole; standAt e.pos; holding [v] (truthy v))) : PT X e (ptG t) := by
  intro pins s σ H Q I q
  rw [he]
  refine wpAny_bind (thn (h pins s σ H _ I q) fun v s1 ⟨x, H1, I1, r1, q1⟩ => wpAny_bind (wpAny_standAt (wpAny_holding ?_)))
  exact tru_ok pins s1 σ H1 x v Q I1 r1 (truG_of q1)
end
end Tv

set_option Elab.async false
set_option linter.all false
set_option maxRecDepth 100000
set_option maxHeartbeats 4000000
namespace Tv
open PySem PySem.Spec PyProof.Rows L2
/-! ### closures: any reading may be asked for more than is wanted -/
def moE (t : TE) : TE := fun σ H Q => ∃ Q0 : VK, t σ H Q0 ∧ ∀ v H', Q0 v H' → Q v H'
def moT (t : TT) : TT := fun σ H Q => ∃ Q0 : Bool → Hp → Prop, t σ H Q0 ∧ ∀ v H', Q0 v H' → Q v H'
def moA (t : TA) : TA := fun σ H Q => ∃ Q0 : List V → Hp → Prop, t σ H Q0 ∧ ∀ v H', Q0 v H' → Q v H'
section
variable {X : Cx} {e a b c o : Expr} {te ta tb tc to : TE} {t u : TT} {es : List Expr} {tas : TA}
theorem PE.mo (h : PE X e te) : PE X e (moE te) := fun pins s σ H Q I ⟨Q0, q, i⟩ => thn (h pins s σ H Q0 I q) fun v s1 ⟨x, H1, I1, r1, q1⟩ => ⟨x, H1, I1, r1, i x H1 q1⟩
theorem PT.mo (h : PT X e t) : PT X e (moT t) := fun pins s σ H Q I ⟨Q0, q, i⟩ => thn (h pins s σ H Q0 I q) fun v s1 ⟨H1, I1, q1⟩ => ⟨H1, I1, i v H1 q1⟩
theorem PA.mo (h : PA X es tas) : PA X es (moA tas) := fun pos pins s σ H Q I ⟨Q0, q, i⟩ => thn (h pos pins s σ H Q0 I q) fun v s1 ⟨x, H1, I1, r1, q1⟩ => ⟨x, H1, I1, r1, i x H1 q1⟩
/-! ### and, or, not, if -/
def tAndG (ta tb : TE) : TE := fun σ H Q => ta σ H fun x H1 => match x with
  | .bl c => br c (tb σ H1 Q) (Q (.bl false) H1)
  | _ => False
def tOrG (ta tb : TE) : TE := fun σ H Q => ta σ H fun x H1 => match x with
  | .bl c => br c (Q (.bl true) H1) (tb σ H1 Q)
  | _ => False
def tNotG (ta : TE) : TE := fun σ H Q => ta σ H fun x H1 => match x with
  | .bl c => Q (.bl (!c)) H1
  | _ => False
def tIfG (t : TT) (ta tb : TE) : TE := fun σ H Q => t σ H fun c H1 => br c (ta σ H1 Q) (tb σ H1 Q)
variable {rest : List Expr} {pos : Pos}
theorem pe_andG (ha : PE X a ta) (hb : PE X (.BoolOp .And (b :: rest) pos) tb) : PE X (.BoolOp .And (a :: b :: rest) pos) (tAndG ta tb) :=
  PE.imp (pe_and (PE.mo ha) hb) fun σ H Q h => ⟨_, h, fun x H1 q => by
    cases x <;> first | exact ⟨_, rfl, br_ite q⟩ | exact q.elim⟩
theorem pe_orG (ha : PE X a ta) (hb : PE X (.BoolOp .Or (b :: rest) pos) tb) : PE X (.BoolOp .Or (a :: b :: rest) pos) (tOrG ta tb) :=
  PE.imp (pe_or (PE.mo ha) hb) fun σ H Q h => ⟨_, h, fun x H1 q => by
    cases x <;> first | exact ⟨_, rfl, br_ite q⟩ | exact q.elim⟩
theorem pe_notG (ha : PE X a ta) : PE X (.UnaryOp .Not a pos) (tNotG ta) :=
  PE.imp (pe_not (PE.mo ha)) fun σ H Q h => ⟨_, h, fun x H1 q => by
    cases x <;> first | exact ⟨_, rfl, q⟩ | exact q.elim⟩
theorem pe_ifG (hc : PT X c t) (ha : PE X a ta) (hb : PE X b tb) : PE X (.IfExp c a b pos) (tIfG t ta tb) :=
  PE.imp (pe_ifExp (PT.mo hc) ha hb) fun σ H Q h => ⟨_, h, fun x H1 q => br_ite q⟩
def negG : V → Hp → VK → Prop := fun x H Q => match x with
  | .int i => Q (.int (-i)) H
  | _ => False
theorem un_negG : UnR X (unaryOp .USub) negG := fun pins s σ H x v Q I r h => by
  cases x <;> first | exact un_neg pins s σ H _ v Q I r ⟨_, rfl, h⟩ | exact h.elim
/-- comparisons -/
def chainG (r r' : R2) (ta tb tc : TE) : TE := fun σ H Q => ta σ H fun x H1 => tb σ H1 fun y H2 => r x y H2 fun z H3 => match z with
  | .bl k => br k (tc σ H3 fun w' H4 => r' y w' H4 Q) (Q (.bl false) H3)
  | _ => False
def moR (r : R2) : R2 := fun x y H Q => ∃ Q0 : VK, r x y H Q0 ∧ ∀ v H', Q0 v H' → Q v H'
theorem OpR.mo {f : Value → Value → Sem Value} {r : R2} (h : OpR X f r) : OpR X f (moR r) := fun pins s σ H x y v u Q I rx ry ⟨Q0, q, i⟩ => thn (h pins s σ H x y v u Q0 I rx ry q) fun w' s1 ⟨z, H1, I1, r1, q1⟩ => ⟨z, H1, I1, r1, i z H1 q1⟩
theorem pe_chainG {op op' : CmpOp} {r r' : R2} (ho : OpR X (compareOp op) r) (ho' : OpR X (compareOp op') r') (ha : PE X a ta) (hb : PE X b tb) (hc : PE X c tc) (hm : lastMarks [op, op'] [b, c] = false) : PE X (.Compare a [op, op'] [b, c] pos) (chainG r r' ta tb tc) :=
  PE.imp (pe_chain (OpR.mo ho) ho' (PE.mo ha) (PE.mo hb) hc hm) fun σ H Q h => ⟨_, h, fun x H1 q => ⟨_, q, fun y H2 q2 => ⟨_, q2, fun z H3 q3 => by
    cases z <;> first | exact ⟨_, rfl, br_ite q3⟩ | exact q3.elim⟩⟩⟩
/-- a bool as a test -/
def bT (t : TE) : TT := fun σ H Q => t σ H fun x H1 => match x with
  | .bl k => Q k H1
  | _ => False
theorem pt_cmpG {op : CmpOp} {r : R2} (ho : OpR X (compareOp op) r) (ha : PE X a ta) (hb : PE X b tb) (hm : behindInMarks op b = false) : PT X (.Compare a [op] [b] pos) (bT (tOp r ta tb)) :=
  PT.imp (pt_cmpR (OpR.mo ho) (PE.mo ha) (PE.mo hb) hm) fun σ H Q h => ⟨_, h, fun x H1 q => ⟨_, q, fun y H2 q2 => ⟨_, q2, fun z H3 q3 => by
    cases z <;> first | exact ⟨_, rfl, q3⟩ | exact q3.elim⟩⟩⟩
theorem pt_chainG {op op' : CmpOp} {r r' : R2} (ho : OpR X (compareOp op) r) (ho' : OpR X (compareOp op') r') (ha : PE X a ta) (hb : PE X b tb) (hc : PE X c tc) (hm : lastMarks [op, op'] [b, c] = false) : PT X (.Compare a [op, op'] [b, c] pos) (bT (chainG r r' ta tb tc)) :=
  PT.imp (pt_chain (OpR.mo ho) (OpR.mo ho') (PE.mo ha) (PE.mo hb) (PE.mo hc) hm) fun σ H Q h => ⟨_, h, fun x H1 q => ⟨_, q, fun y H2 q2 => ⟨_, q2, fun z H3 q3 => by
    cases z with
    | bl k =>
      refine ⟨k, rfl, ?_⟩
      have q3 := br_ite q3
      cases k with
      | true => exact ⟨_, q3, fun w' H4 q4 => ⟨_, q4, fun z' H5 q5 => by cases z' <;> first | exact ⟨_, rfl, q5⟩ | exact q5.elim⟩⟩
      | false => exact ⟨false, rfl, q3⟩
    | _ => exact q3.elim⟩⟩⟩
/-- tests -/
def tAndB (t u : TT) : TT := fun σ H Q => t σ H fun c H1 => br c (u σ H1 Q) (Q false H1)
def tOrB (t u : TT) : TT := fun σ H Q => t σ H fun c H1 => br c (Q true H1) (u σ H1 Q)
theorem pw_andB (ha : PT X a t) (hb : PW X (.BoolOp .And (b :: rest) pos) u) : PW X (.BoolOp .And (a :: b :: rest) pos) (tAndB t u) := fun wh pins s σ H Q I h =>
  pw_and (PT.mo ha) hb wh pins s σ H Q I ⟨_, h, fun c H1 q => br_ite q⟩
theorem pw_orB (ha : PT X a t) (hb : PW X (.BoolOp .Or (b :: rest) pos) u) : PW X (.BoolOp .Or (a :: b :: rest) pos) (tOrB t u) := fun wh pins s σ H Q I h =>
  pw_or (PT.mo ha) hb wh pins s σ H Q I ⟨_, h, fun c H1 q => br_ite q⟩
/-! ### fields, methods -/
@[irreducible] def fldK (cl : Addr) (f : Str) (x : V) (H1 : Hp) (Q : VK) : Prop := match x with
  | .ref p => match H1 p with
    | some (.ins C dx fs) => C = cl ∧ match fs.lookup f with
      | some v => Q v H1
      | none => False
    | _ => False
  | _ => False
def tFldG (cl : Addr) (f : Str) (to : TE) : TE := fun σ H Q => to σ H fun x H1 => fldK cl f x H1 Q
theorem pe_fldG {cl : Addr} {f : Str} (cc : Cls X.K cl) (n : NoAttr X.K cl f) (ho : PE X o to) (hb : attributeBase o f X.env (eval o X.env) = eval o X.env) : PE X (.Attribute o f pos) (tFldG cl f to) :=
  PE.imp (pe_fld0 cc n (PE.mo ho) hb) fun σ H Q h => ⟨_, h, fun x H1 q => by
    unfold fldK at q
    split at q
    · split at q
      · obtain ⟨rfl, q⟩ := q
        split at q
        · exact ⟨_, _, _, _, rfl, by assumption, by assumption, q⟩
        · exact q.elim
      · exact q.elim
    · exact q.elim⟩
@[irreducible] def methK (cl : Addr) (m : Str) (x : V) (H1 : Hp) (R : Prop) : Prop := match x with
  | .ref p => match H1 p with
    | some (.ins C dx fs) => C = cl ∧ fs.lookup m = none ∧ R
    | _ => False
  | _ => False
def tMethG (cl : Addr) (m : Str) (sp : Sp) (E : XK) (to : TE) (t : TA) : TE := fun σ H Q => to σ H fun x H1 => methK cl m x H1 (t σ H1 fun vs H2 => sp (x :: (vs ++ [])) H2 Q E)
def notSuper : Expr → Bool
  | .Call (.Name id _) [] [] _ => id != "super"
  | _ => true
theorem base_of {f : Str} {env : Env} {w : Sem Value} (h : notSuper o = true) : attributeBase o f env w = w := by
  unfold attributeBase
  split
  · rename_i id _ _
    have h' : (id != "super") = true := h
    simp [h']
  · rfl
end
end Tv

set_option Elab.async false
set_option linter.all false
set_option maxRecDepth 100000
set_option maxHeartbeats 4000000
/-! ### a dict that is walked stands still meanwhile -/
namespace Tv
open PySem PySem.Spec PyProof.Rows L2
def dictO : HO → Bool
  | .dK _ => true
  | .dT _ => true
  | _ => false
abbrev Th := Option (Addr × HO)
def NF (X : Cx) (a : Addr) : Prop := ∀ o u, X.H₀ a ≠ some (.frz o u)
section
variable {X : Cx} {pins : List (Addr × Obj)} {σ : St} {H : Hp} {s : Shared} {a : Addr} {u : HO} {o : Obj}
theorem obj_at (hd : dictO u = true) {P : Program} {w : World} {h : Heap} (x : ObjOk P w H h a u) : ∃ o, h.get? a = some o := by
  cases u <;> first | (cases hd; done) | skip
  · obtain ⟨_, _, vs, _, ob, es, ep, e, _⟩ := x
    exact ⟨ob, e⟩
  · obtain ⟨_, _, xs, _, ob, es, ep, e, _⟩ := x
    exact ⟨ob, e⟩
/-- another word for the same object -/
theorem inv_word {v u' : HO} (I : Inv X pins σ H s) (h : H a = some v) (hv : ∀ xs, v ≠ .tup xs) (ho : ∀ b, v ≠ .own b) (hb : ∀ ps, v ≠ .tbl ps) (nf : (∀ o u, v ≠ .frz o u) ∨ NF X a) (new : ObjOk X.prog X.w H s.heap a u') : Inv X pins σ (upd H a u') s := by
  have ne : ∀ b w, H b = some w → w ≠ v → b ≠ a := fun b w e hw z => by
    rw [z, h] at e
    cases e
    exact hw rfl
  have non : ∀ b, H b = none → b ≠ a := fun b e z => by rw [z, h] at e; cases e
  have ou : ∀ b c, H b = some (.own c) → upd H a u' b = some (.own c) := fun b c e => by
    rw [upd_ne (ne b _ e fun z => ho _ z.symm)]
    exact e
  have tu : ∀ b xs, H b = some (.tup xs) → upd H a u' b = some (.tup xs) := fun b xs e => by
    rw [upd_ne (ne b _ e fun z => hv _ z.symm)]
    exact e
  refine ⟨I.ok, I.os, I.bare, ?_, I.loc, I.cell, ?_, fun x c e => ?_, fun p hp => ?_, fun b w e => ?_, I.len⟩
  · refine ⟨I.base.keep, I.base.slot, fun b ob e n x => ?_, I.base.there, fun b xs e => tu b xs (I.base.tups b xs e), fun b ob w e => ?_, fun b ps e => ?_⟩
    · have := I.base.free b ob e n x
      rw [upd_ne (non b this)]
      exact this
    · have q := I.base.frzs b ob w e
      by_cases z : b = a
      · subst z
        rcases nf with nf | nf
        · rw [h] at q
          cases q
          exact absurd rfl (nf _ _)
        · exact absurd e (nf _ _)
      · rw [upd_ne z]
        exact q
    · obtain ⟨more, q⟩ := I.base.tbls b ps e
      refine ⟨more, ?_⟩
      rw [upd_ne (ne b _ q fun z => hb _ z.symm)]
      exact q
  · rw [upd_ne (non _ I.free)]
    exact I.free
  · rw [upd_ne (non _ (I.freeC x c e))]
    exact I.freeC x c e
  · obtain ⟨p1, p2, r⟩ := I.pin p hp
    refine ⟨p1, ?_, r⟩
    rw [upd_ne (non _ p2)]
    exact p2
  · by_cases z : b = a
    · subst z
      rw [upd_same] at e
      cases e
      exact new.stay (fun _ _ _ q => q) (fun c q => ou c _ q) tu
    · rw [upd_ne z] at e
      exact (I.hok b w e).stay (fun _ _ _ q => q) (fun c q => ou c _ q) tu
theorem inv_freeze (I : Inv X pins σ H s) (h : H a = some u) (hd : dictO u = true) : NF X a ∧ ∃ o, s.heap.get? a = some o ∧ Inv X pins σ (upd H a (.frz o u)) s := by
  have ok := I.hok a u h
  obtain ⟨o, e⟩ := obj_at hd ok
  have nf : ∀ o v, u ≠ .frz o v := fun o v z => by rw [z] at hd; cases hd
  refine ⟨fun ob v z => ?_, o, e, ?_⟩
  · have := I.base.frzs a ob v z
    rw [h] at this
    cases this
    exact nf _ _ rfl
  · exact inv_word I h (fun xs z => by rw [z] at hd; cases hd) (fun xs z => by rw [z] at hd; cases hd) (fun xs z => by rw [z] at hd; cases hd) (.inl nf) ⟨e, ok⟩
theorem inv_thaw (I : Inv X pins σ H s) (h : H a = some (.frz o u)) (nf : NF X a) : Inv X pins σ (upd H a u) s := by
  obtain ⟨_, ok⟩ := I.hok a _ h
  exact inv_word I h (fun xs z => by cases z) (fun xs z => by cases z) (fun xs z => by cases z) (.inr nf) ok
end
/-! ### what is walked, and what thaws behind it -/
abbrev TI2 := St → Hp → (It → Hp → Th → Prop) → Prop
def PIE2 (X : Cx) (pins : List (Addr × Obj)) (σ : St) (tg : Expr) (R : It → Hp → Th → Prop) (itv : Value) (s2 : Shared) : Prop := ∃ th : Th, (∀ a u, th = some (a, u) → NF X a) ∧ PIE X pins σ tg (fun J H => R J H th) itv s2
def PI2 (X : Cx) (tg iter : Expr) (wi : TI2) : Prop :=
  ∀ (pins : List (Addr × Obj)) (s : Shared) (σ : St) (H : Hp) (R : It → Hp → Th → Prop), Inv X pins σ H s → wi σ H R →
    wpAny (model X.prog X.w) X.A (eval iter X.env) (fun v s1 => wpAny (model X.prog X.w) X.A (pyIter v) (PIE2 X pins σ tg R) X.xe s1) X.xe s
def thD (th : Th) (D : Ends) : Ends := match th with
  | none => D
  | some (a, u) => ⟨fun σ H => (∃ o, H a = some (.frz o u)) ∧ D.nx σ (upd H a u), fun v H => (∃ o, H a = some (.frz o u)) ∧ D.rt v (upd H a u), fun σ H => (∃ o, H a = some (.frz o u)) ∧ D.bk σ (upd H a u), fun σ H => (∃ o, H a = some (.frz o u)) ∧ D.ct σ (upd H a u)⟩
def thQ (th : Th) (Q : VK) : VK := match th with
  | none => Q
  | some (a, u) => fun v H => (∃ o, H a = some (.frz o u)) ∧ Q v (upd H a u)
@[irreducible] def loopJ (J : It) (g : TG) (tb : TS) (D : Ends) (σ : St) (H : Hp) : Prop := ∃ W : Nat → Nat → St → Hp → Prop, (∃ m, W 0 m σ H) ∧ ∀ i m σ H, W i m σ H →
  (J.stop i H ∧ D.nx σ H) ∨ (J.go i H ∧ ∃ N : St → Hp → Prop, (∀ σ' H', N σ' H' → ∃ m', m' < m ∧ W (i + 1) m' σ' H') ∧ ∀ x H', J.yld i H x H' → g x σ H' fun σ2 H2 => tb { D with nx := N, ct := N, bk := D.nx } σ2 H2)
@[irreducible] def compJ (J : It) (tn : List Str) (fr : List (Str × Nat)) (g : TG) (tt : TT) (te : TE) (σ : St) (H1 : Hp) (Q : VK) : Prop := ∀ p, H1 p = none →
  ∃ W : Nat → Nat → Hp → Prop, (∃ m, W 0 m (upd H1 p (.lst []))) ∧ ∀ i m G, W i m G →
    (J.stop i G ∧ Q (.ref p) G) ∨ (J.go i G ∧ ∃ N : Hp → Prop, (∀ G', N G' → ∃ m', m' < m ∧ W (i + 1) m' G') ∧ ∀ x G', J.yld i G x G' →
      g x (inn tn fr σ) G' fun σ2 G2 => tt σ2 G2 fun b G3 => br b (te σ2 G3 fun y G4 => ∃ ys, G4 p = some (.lst ys) ∧ ys.length < sizeLine ∧ N (upd G4 p (.lst (ys ++ [y])))) (N G3))
@[irreducible] def sFor (wi : TI2) (g : TG) (tb : TS) : TS := fun D σ H => wi σ H fun J H1 th => loopJ J g tb (thD th D) σ H1
@[irreducible] def tCompI (wi : TI2) (tn : List Str) (fr : List (Str × Nat)) (g : TG) (tt : TT) (te : TE) : TE := fun σ H Q => wi σ H fun J H1 th => compJ J tn fr g tt te σ H1 (thQ th Q)
theorem sFor_i {wi : TI2} {g : TG} {tb : TS} {D : Ends} {σ : St} {H : Hp} (h : wi σ H fun J H1 th => loopJ J g tb (thD th D) σ H1) : sFor wi g tb D σ H := by
  unfold sFor
  exact h
theorem comp_i {wi : TI2} {tn : List Str} {fr : List (Str × Nat)} {g : TG} {tt : TT} {te : TE} {σ : St} {H : Hp} {Q : VK} (h : wi σ H fun J H1 th => compJ J tn fr g tt te σ H1 (thQ th Q)) : tCompI wi tn fr g tt te σ H Q := by
  unfold tCompI
  exact h
/-! closures -/
def Ends.le (D D' : Ends) : Prop := (∀ σ H, D.nx σ H → D'.nx σ H) ∧ (∀ v H, D.rt v H → D'.rt v H) ∧ (∀ σ H, D.bk σ H → D'.bk σ H) ∧ ∀ σ H, D.ct σ H → D'.ct σ H
def moS (t : TS) : TS := fun D σ H => ∃ D0 : Ends, t D0 σ H ∧ Ends.le D0 D
def moG (g : TG) : TG := fun v σ H Q => ∃ Q0 : St → Hp → Prop, g v σ H Q0 ∧ ∀ σ' H', Q0 σ' H' → Q σ' H'
section
variable {X : Cx} {tg it : Expr}
theorem SP.le {pins : List (Addr × Obj)} {D D' : Ends} {f : Flow} {s : Shared} (h : SP X pins D f s) (l : Ends.le D D') : SP X pins D' f s := by
  cases f with
  | next => obtain ⟨σ, H, I, q⟩ := h; exact ⟨σ, H, I, l.1 _ _ q⟩
  | brk => obtain ⟨σ, H, I, q⟩ := h; exact ⟨σ, H, I, l.2.2.1 _ _ q⟩
  | cont => obtain ⟨σ, H, I, q⟩ := h; exact ⟨σ, H, I, l.2.2.2 _ _ q⟩
  | ret u => obtain ⟨v, σ, H, I, r, q⟩ := h; exact ⟨v, σ, H, I, r, l.2.1 _ _ q⟩
theorem PSs.mo {ss : List Stmt} {t : TS} (h : PSs X ss t) : PSs X ss (moS t) := fun pins s σ H D I ⟨D0, q, l⟩ => thn (h pins s σ H D0 I q) fun f s' sp => SP.le sp l
theorem PG.mo {g : TG} (h : PG X tg g) : PG X tg (moG g) := fun pins s σ H v u Q I r ⟨Q0, q, l⟩ => thn (h pins s σ H v u Q0 I r q) fun _ s' ⟨σ', H', I', q'⟩ => ⟨σ', H', I', l _ _ q'⟩
/-- the ends of a walk, thawed or not -/
def anyD (X : Cx) (D : Ends) : Ends := ⟨fun σ H => D.nx σ H ∨ ∃ a o u, NF X a ∧ H a = some (.frz o u) ∧ D.nx σ (upd H a u), fun v H => D.rt v H ∨ ∃ a o u, NF X a ∧ H a = some (.frz o u) ∧ D.rt v (upd H a u),
  fun σ H => D.bk σ H ∨ ∃ a o u, NF X a ∧ H a = some (.frz o u) ∧ D.bk σ (upd H a u), fun σ H => D.ct σ H ∨ ∃ a o u, NF X a ∧ H a = some (.frz o u) ∧ D.ct σ (upd H a u)⟩
theorem thD_any {th : Th} {D : Ends} (hn : ∀ a u, th = some (a, u) → NF X a) : Ends.le (thD th D) (anyD X D) := by
  cases th with
  | none => exact ⟨fun _ _ h => .inl h, fun _ _ h => .inl h, fun _ _ h => .inl h, fun _ _ h => .inl h⟩
  | some p =>
    obtain ⟨a, u⟩ := p
    have nf := hn a u rfl
    exact ⟨fun _ _ ⟨⟨o, e⟩, h⟩ => .inr ⟨a, o, u, nf, e, h⟩, fun _ _ ⟨⟨o, e⟩, h⟩ => .inr ⟨a, o, u, nf, e, h⟩, fun _ _ ⟨⟨o, e⟩, h⟩ => .inr ⟨a, o, u, nf, e, h⟩, fun _ _ ⟨⟨o, e⟩, h⟩ => .inr ⟨a, o, u, nf, e, h⟩⟩
theorem SP.thaw {pins : List (Addr × Obj)} {D : Ends} {f : Flow} {s : Shared} (h : SP X pins (anyD X D) f s) : SP X pins D f s := by
  cases f with
  | next =>
    obtain ⟨σ, H, I, q | ⟨a, o, u, nf, e, q⟩⟩ := h
    · exact ⟨σ, H, I, q⟩
    · exact ⟨σ, _, inv_thaw I e nf, q⟩
  | brk =>
    obtain ⟨σ, H, I, q | ⟨a, o, u, nf, e, q⟩⟩ := h
    · exact ⟨σ, H, I, q⟩
    · exact ⟨σ, _, inv_thaw I e nf, q⟩
  | cont =>
    obtain ⟨σ, H, I, q | ⟨a, o, u, nf, e, q⟩⟩ := h
    · exact ⟨σ, H, I, q⟩
    · exact ⟨σ, _, inv_thaw I e nf, q⟩
  | ret v =>
    obtain ⟨w, σ, H, I, r, q | ⟨a, o, u, nf, e, q⟩⟩ := h
    · exact ⟨w, σ, H, I, r, q⟩
    · exact ⟨w, σ, _, inv_thaw I e nf, r, q⟩
/-- the layer's form of a walk -/
def oldI (X : Cx) (wi : TI2) : TI := fun σ H R => ∃ R0 : It → Hp → Th → Prop, wi σ H R0 ∧ ∀ J H1 th, (∀ a u, th = some (a, u) → NF X a) → R0 J H1 th → R J H1
theorem pi_old {wi : TI2} (h : PI2 X tg it wi) : PI X tg it (oldI X wi) := fun pins s σ H R I ⟨R0, q, l⟩ => thn (h pins s σ H R0 I q) fun v s1 h1 => thn h1 fun itv s2 ⟨th, nf, a, b, c, d, e, f, g, i, j, k, m⟩ => ⟨a, b, c, d, e, f, g, i, j, k, l _ _ _ nf m⟩
theorem ps_for2 {wi : TI2} {g : TG} {tb : TS} {body : List Stmt} {pos : Pos} (hp : PassesOwn (model X.prog X.w) X.A X.env X.xe) (hc : X.calm = true) (hi : PI2 X tg it wi) (hg : PG X tg g) (hb : PSs X body tb)
    (hs : ∀ x, foldedSetIterable it X.env x = pure x) : PS X (.For tg it body [] pos) (sFor wi g tb) := by
  intro pins s σ H D I h
  unfold sFor at h
  refine thn (ps_for hp hc (pi_old hi) (PG.mo hg) (PSs.mo hb) hs pins s σ H (anyD X D) I ⟨_, h, fun J H1 th nf q => ?_⟩) fun f s' sp => SP.thaw sp
  have le := thD_any (X := X) (D := D) nf
  unfold loopJ at q
  obtain ⟨W, h0, hs⟩ := q
  refine ⟨W, h0, fun i m σ H w => ?_⟩
  rcases hs i m σ H w with ⟨st, nx⟩ | ⟨go, N, hN, step⟩
  · exact .inl ⟨st, le.1 _ _ nx⟩
  · exact .inr ⟨go, N, hN, fun x H' y => ⟨_, step x H' y, fun σ2 H2 q => ⟨_, q, fun _ _ z => z, le.2.1, le.1, fun _ _ z => z⟩⟩⟩
/-- a comprehension: what is wanted behind it, thawed or not -/
def anyQ (X : Cx) (Q : VK) : VK := fun v H => Q v H ∨ ∃ a o u, NF X a ∧ H a = some (.frz o u) ∧ Q v (upd H a u)
theorem thQ_any {th : Th} {Q : VK} (hn : ∀ a u, th = some (a, u) → NF X a) : ∀ v H, thQ th Q v H → anyQ X Q v H := by
  cases th with
  | none => exact fun _ _ h => .inl h
  | some p =>
    obtain ⟨a, u⟩ := p
    exact fun _ _ ⟨⟨o, e⟩, h⟩ => .inr ⟨a, o, u, hn a u rfl, e, h⟩
theorem compI_old {wi : TI2} {tn : List Str} {fr : List (Str × Nat)} {g : TG} {tt : TT} {te : TE} {σ : St} {H : Hp} {Q : VK} (h : tCompI wi tn fr g tt te σ H Q) : tComp (oldI X wi) tn fr g tt te σ H (anyQ X Q) := by
  unfold tCompI at h
  refine ⟨_, h, fun J H1 th nf q => ?_⟩
  unfold compJ at q
  intro p hp
  obtain ⟨W, h0, hs⟩ := q p hp
  refine ⟨W, h0, fun i m G w => ?_⟩
  rcases hs i m G w with ⟨st, q⟩ | r
  · exact .inl ⟨st, thQ_any nf _ _ q⟩
  · exact .inr r
end
end Tv

set_option Elab.async false
set_option linter.all false
set_option maxRecDepth 100000
set_option maxHeartbeats 4000000
namespace Tv
open PySem PySem.Spec PyProof.Rows L2
/-- a dict's keys; its pairs as tuples -/
def Itd (a : Addr) (o : Obj) (kvs : List (Key × V)) : It := ⟨fun i H => H a = some (.frz o (.dK kvs)) ∧ i < kvs.length, fun i H x H' => H' = H ∧ ∃ k v, kvs[i]? = some (k, v) ∧ x = kV k, fun i H => H a = some (.frz o (.dK kvs)) ∧ kvs.length ≤ i⟩
def Itp (a : Addr) (o : Obj) (kvs : List (Key × V)) : It := ⟨fun i H => H a = some (.frz o (.dK kvs)) ∧ i < kvs.length, fun i H x H' => ∃ k v t, kvs[i]? = some (k, v) ∧ x = .ref t ∧ H t = none ∧ H' = upd H t (.tup [kV k, v]), fun i H => H a = some (.frz o (.dK kvs)) ∧ kvs.length ≤ i⟩
theorem key_rel {P : Program} {w : World} {k : Key} {v : Value} (h : (mixKind P w).is k v = true) : RelV (kV k) v := by
  rcases keyIs_shape (show keyIs k v = true from h) with ⟨i, t, rfl, rfl⟩ | ⟨x, t, rfl, rfl⟩
  · exact ⟨t, rfl⟩
  · exact ⟨t, rfl⟩
theorem KV.get {kvs : List (Key × V)} {vs : List (Key × Value)} : KV kvs vs → ∀ {i : Nat} {k : Key} {v : V}, kvs[i]? = some (k, v) → ∃ u, vs[i]? = some (k, u) ∧ RelV v u := by
  intro r
  induction r with
  | nil => intro i k v h; simp at h
  | cons h t ih =>
    intro i k v e
    cases i with
    | zero =>
      rename_i p b ps bs
      obtain ⟨kb, ub⟩ := b
      obtain ⟨kp, vp⟩ := p
      simp at e
      obtain ⟨rfl, rfl⟩ := e
      obtain ⟨e1, e2⟩ := h
      simp only at e1 e2
      subst e1
      exact ⟨ub, rfl, e2⟩
    | succ i => exact ih (by simpa using e)
section
variable {P : Program} {w : World} {K : PySem.W.Frag} {tg : Expr}
/-- the frozen object tells the dict, in every heap that has it -/
theorem dict_const {h : Heap} {a : Addr} {o : Obj} {vs : List (Key × Value)} {ep : Nat} (e : h.get? a = some o) (d : h.DictAt (mixKind P w) a vs ep) : ∀ h' : Heap, h'.get? a = some o → h'.DictAt (mixKind P w) a vs ep := fun h' e' => d.at' fun o' q => by
  rw [e] at q
  cases q
  exact e'
theorem turn_dict (it a : Addr) (o : Obj) {kvs : List (Key × V)} {vs : List (Key × Value)} {ep : Nat} (r : KV kvs vs) (hD : ∀ h : Heap, h.get? a = some o → h.DictAt (mixKind P w) a vs ep) :
    Turn P w K tg (Itd a o kvs) [it] it (fun i h => h.IsKeyIter it a i vs.length ep) where
  mem := by simp
  obj := fun i h st b hb => by
    have e : b = it := by simpa using hb
    subst e
    obtain ⟨o, e, c, d⟩ := st
    exact ⟨o, e, fun v z => by rw [d] at z; cases z⟩
  keep := fun i h h' st k => st.at fun o e => k it (by simp) o e
  item := by
    intro X hP hw hK hc i pins s σ H E I hf st hg
    subst hP hw hK
    obtain ⟨f0, f1, f2, f3, f4, f5⟩ := hf it (by simp)
    obtain ⟨ha, hi⟩ := hg
    obtain ⟨eo, _⟩ := I.hok a _ ha
    obtain ⟨⟨k, v⟩, hx⟩ : ∃ p, kvs[i]? = some p := ⟨kvs[i], by simp [hi]⟩
    obtain ⟨u, hu, ru⟩ := KV.get r hx
    refine wpAny_pyNext_dict_item st (hD _ eo) hu fun key h' hkey hit' hs' => ?_
    have I1 : Inv X pins σ H { s with heap := h' } := I.turned (t' := s.toks) (fun b o hb e => hs'.extBut b o hb e) f0 f1 f3 f4 f5
    obtain ⟨ob, e, c, d⟩ := id hit'
    exact ⟨key, rfl, go_of (s := { s with heap := h' }) e c d (by decide) ⟨kV k, H, I1, key_rel hkey, ⟨rfl, k, v, hx, rfl⟩, hit', fun b hb => (hf b hb).1⟩⟩
  done := by
    intro X hP hw hK hc i pins s σ H E I hf st hg
    subst hP hw hK
    obtain ⟨f0, f1, f2, f3, f4, f5⟩ := hf it (by simp)
    obtain ⟨ha, hi⟩ := hg
    obtain ⟨eo, _⟩ := I.hok a _ ha
    have hl := KV.length r
    exact wpAny_pyNext_dict_end (I.ok.hd hc) st (hD _ eo) (by simp; omega) fun h' eb => ⟨rfl, I.turned (t' := s.toks) (fun b o hb e => eb b o hb e) f0 f1 f3 f4 f5⟩
  self := fun _ _ _ _ _ st h => wpAny_pyIter_keyiter st h
theorem turn_items {es : List Expr} {k1 : Nat} {pos : Pos} (it a : Addr) (o : Obj) {kvs : List (Key × V)} {vs : List (Key × Value)} {ep : Nat} (r : KV kvs vs) (hD : ∀ h : Heap, h.get? a = some o → h.DictAt (mixKind P w) a vs ep) :
    Turn P w K (.Tuple es k1 pos) (Itp a o kvs) [it] it (fun i h => ∃ ok ov, IsItemIter h it a i vs.length ep ok ov) where
  mem := by simp
  obj := fun i h st b hb => by
    have e : b = it := by simpa using hb
    subst e
    obtain ⟨ok, ov, e⟩ := st
    exact ⟨_, e, fun v z => by cases z⟩
  keep := fun i h h' ⟨ok, ov, e⟩ k => ⟨ok, ov, k it (by simp) _ e⟩
  item := by
    intro X hP hw hK hc i pins s σ H E I hf st hg
    subst hP hw hK
    obtain ⟨f0, f1, f2, f3, f4, f5⟩ := hf it (by simp)
    obtain ⟨ha, hi⟩ := hg
    obtain ⟨eo, _⟩ := I.hok a _ ha
    obtain ⟨⟨k, v⟩, hx⟩ : ∃ p, kvs[i]? = some p := ⟨kvs[i], by simp [hi]⟩
    obtain ⟨u, hu, ru⟩ := KV.get r hx
    obtain ⟨ok, ov, st⟩ := st
    refine wpAny_pyNext_items_item st (hD _ eo) hu fun key h' hkey hit' ht hsz kp => ⟨_, rfl, ?_⟩
    refine wpAny_letOwnedTupleGo_items hit' fun h2 hit2 sb => ?_
    have hT : s.heap.objs.size ≠ it := Nat.ne_of_gt (Heap.lt_size st)
    have e2 : h2.get? s.heap.objs.size = some { cls := .type "tuple", data := .seq #[key, u] } := sb.extBut _ _ hT ht
    have I1 : Inv X pins σ H { s with heap := h2 } := I.turned (t' := s.toks) (fun b o hb e => sb.extBut b o hb (kp b o hb e)) f0 f1 f3 f4 f5
    have hn : H s.heap.objs.size = none := I.hok.fresh (Nat.le_refl _)
    refine ⟨.ref s.heap.objs.size, upd H s.heap.objs.size (.tup [kV k, v]), ?_, rfl, ⟨k, v, _, hx, rfl, hn, rfl⟩, ⟨key, u, hit2⟩, fun b hb => ?_⟩
    · have new : ObjOk X.prog X.w (upd H s.heap.objs.size (.tup [kV k, v])) h2 s.heap.objs.size (.tup [kV k, v]) := ⟨by show 2 ≤ sizeLine; decide, [key, u], .cons (key_rel hkey) (.cons ru .nil), _, e2, rfl, _, rfl⟩
      -- the tuple is new: the iterator has turned first
      refine ⟨I1.ok, I1.os, I1.bare, ?_, I1.loc, I1.cell, ?_, fun x c e => ?_, fun p hp => ?_, fun b w e => ?_, I1.len⟩
      · refine ⟨I1.base.keep, I1.base.slot, fun b ob e n x => ?_, I1.base.there, fun b xs e => ?_, fun b ob w e => ?_, fun b ps e => ?_⟩
        · have q := I1.base.free b ob e n x
          by_cases z : b = s.heap.objs.size
          · subst z
            exact absurd (Nat.lt_of_lt_of_le (Heap.lt_size e) I.sz) (Nat.lt_irrefl _)
          · rw [upd_ne z]
            exact q
        · have q := I1.base.tups b xs e
          rw [upd_ne (ne_of_none q hn)]
          exact q
        · have q := I1.base.frzs b ob w e
          rw [upd_ne (ne_of_none q hn)]
          exact q
        · obtain ⟨more, q⟩ := I1.base.tbls b ps e
          exact ⟨more, by rw [upd_ne (ne_of_none q hn)]; exact q⟩
      · rw [upd_ne (Nat.ne_of_lt I.lt)]
        exact I1.free
      · have : c ≠ s.heap.objs.size := by
          obtain ⟨v, ob, ho, _⟩ := I.cell x c e
          exact Nat.ne_of_lt (Heap.lt_size ho)
        rw [upd_ne this]
        exact I1.freeC x c e
      · obtain ⟨p1, p2, q⟩ := I1.pin p hp
        refine ⟨p1, ?_, q⟩
        have : p.1 ≠ s.heap.objs.size := Nat.ne_of_lt (Heap.lt_size (I.pin p hp).1)
        rw [upd_ne this]
        exact p2
      · by_cases z : b = s.heap.objs.size
        · subst z
          rw [upd_same] at e
          cases e
          exact new
        · rw [upd_ne z] at e
          refine (I1.hok b w e).stay (fun _ _ _ q => q) (fun c q => ?_) fun c xs q => ?_
          · rw [upd_ne (ne_of_none q hn)]
            exact q
          · rw [upd_ne (ne_of_none q hn)]
            exact q
    · have e : b = it := by simpa using hb
      subst e
      rw [upd_ne (Ne.symm hT)]
      exact f0
  done := by
    intro X hP hw hK hc i pins s σ H E I hf st hg
    subst hP hw hK
    obtain ⟨f0, f1, f2, f3, f4, f5⟩ := hf it (by simp)
    obtain ⟨ha, hi⟩ := hg
    obtain ⟨eo, _⟩ := I.hok a _ ha
    have hl := KV.length r
    obtain ⟨ok, ov, st⟩ := st
    exact wpAny_pyNext_items_end (I.ok.hd hc) st (hD _ eo) (by simp; omega) fun h' eb => ⟨rfl, I.turned (t' := s.toks) (fun b o hb e => eb b o hb e) f0 f1 f3 f4 f5⟩
  self := fun A i s Q E st h => by
    obtain ⟨ok, ov, st⟩ := st
    exact PySem.W.kcp_self st h
end
section
variable {X : Cx} {pins : List (Addr × Obj)} {σ : St} {H : Hp} {s : Shared}
/-- what a frozen dict is in the heap -/
theorem frz_at (I : Inv X pins σ H s) {a : Addr} {o : Obj} {kvs : List (Key × V)} (h : H a = some (.frz o (.dK kvs))) : (a == sysModules) = false ∧ kvs.length ≤ sizeLine ∧ s.heap.get? a = some o ∧ ∃ vs ep, KV kvs vs ∧ s.heap.DictAt (mixKind X.prog X.w) a vs ep := by
  obtain ⟨e, z, lo, vs, r, d⟩ := I.hok a _ h
  obtain ⟨ep, d⟩ := d.dictAt
  exact ⟨lo, z, e, vs, ep, r, d⟩
theorem keys_vals {kvs : List (Key × V)} {vs : List (Key × Value)} {us : List Value} (r : KV kvs vs) (hl : us.length = vs.length) (h : ∀ (j : Nat) (u : Value), us[j]? = some u → ∃ k x, vs[j]? = some (k, x) ∧ (mixKind X.prog X.w).is k u = true) : Vals (kvs.map fun kv => kV kv.1) us := by
  induction r generalizing us with
  | nil =>
    cases us with
    | nil => exact .nil
    | cons a b => simp at hl
  | cons hp t ih =>
    rename_i p b ps bs
    cases us with
    | nil => simp at hl
    | cons u us =>
      obtain ⟨k, x, e, hk⟩ := h 0 u rfl
      simp at e
      subst e
      rw [List.map_cons]
      refine .cons ?_ (ih (by simpa using hl) fun j w hj => h (j + 1) w (by simpa using hj))
      rw [hp.1]
      exact key_rel hk
/-- list(d) -/
theorem list_dict (hc : X.calm = true) (I : Inv X pins σ H s) {a : Addr} {kvs : List (Key × V)} (h : Rd H a (.dK kvs)) {Q : VK} (q : newO H (.lst (kvs.map fun kv => kV kv.1)) Q) : wpAny (model X.prog X.w) X.A (call (.type "list") [.ref a]) (EP X pins σ Q) X.xe s := by
  obtain ⟨z, lo, vs, r, d⟩ := dk_rd I.hok h
  obtain ⟨ep, d⟩ := d.dictAt
  have hl := KV.length r
  refine PySem.W.kdl_call (PySem.W.kdl_dict (knd := mixKind X.prog X.w) (kvs := vs) (ep := ep) lo) (I.ok.hd hc) d (by rw [← hl]; exact z) fun h' tk acc' c' hk hD hacc => ?_
  have rv : Vals (kvs.map fun kv => kV kv.1) acc'.toList := keys_vals (X := X) r (by rw [Array.length_toList]; exact hacc.1) fun j u hu => hacc.2 j u (by rw [← Array.getElem?_toList]; exact hu)
  refine ⟨.ref s.heap.objs.size, _, I.laid (t' := tk) hk (Nat.le_refl _) (o := .lst (kvs.map fun kv => kV kv.1)) ?_, rfl, q.at _ (I.hok.fresh (Nat.le_refl _))⟩
  exact ⟨by rw [List.length_map]; exact z, acc'.toList, c', rv, by rw [Array.toArray_toList]; exact hD⟩
theorem signs_vals {z : Str} : ∀ {us : List Value}, us.length = z.cps.toList.length → (∀ (j : Nat) (u : Value), us[j]? = some u → ∃ c t, z.cps.toList[j]? = some c ∧ u = .str ⟨#[c]⟩ t) → Vals (z.cps.toList.map fun c => V.str ⟨#[c]⟩) us := by
  generalize z.cps.toList = l
  induction l with
  | nil =>
    intro us hl h
    cases us with
    | nil => exact .nil
    | cons a b => simp at hl
  | cons c r ih =>
    intro us hl h
    cases us with
    | nil => simp at hl
    | cons u us =>
      obtain ⟨d, t, e, rfl⟩ := h 0 u rfl
      simp at e
      subst e
      exact .cons ⟨t, rfl⟩ (ih (by simpa using hl) fun j w hj => h (j + 1) w (by simpa using hj))
/-- list(text) -/
theorem list_text (hc : X.calm = true) (I : Inv X pins σ H s) {z : Str} {t : Tok} (hz : z.length ≤ sizeLine) {Q : VK} (q : newO H (.lst (z.cps.toList.map fun c => V.str ⟨#[c]⟩)) Q) : wpAny (model X.prog X.w) X.A (call (.type "list") [.str z t]) (EP X pins σ Q) X.xe s := by
  refine call_list_str (I.ok.hd hc) z t (fun h' tk acc' c' hk hD hacc => ?_) hz
  have rv : Vals (z.cps.toList.map fun c => V.str ⟨#[c]⟩) acc'.toList := signs_vals (by rw [Array.length_toList, hacc.1]; simp) fun j u hu => by
    obtain ⟨c, tk, hc, rfl⟩ := hacc.2 j u (by rw [← Array.getElem?_toList]; exact hu)
    exact ⟨c, tk, by simpa using hc, rfl⟩
  refine ⟨.ref s.heap.objs.size, _, I.laid (t' := tk) hk (Nat.le_refl _) (o := .lst (z.cps.toList.map fun c => V.str ⟨#[c]⟩)) ?_, rfl, q.at _ (I.hok.fresh (Nat.le_refl _))⟩
  exact ⟨by rw [List.length_map, Array.length_toList]; exact hz, acc'.toList, c', rv, by rw [Array.toArray_toList]; exact hD⟩
/-- t.join(a list of texts) -/
def strsOf : List V → Option (List Str)
  | [] => some []
  | .str x :: r => match strsOf r with
    | some l => some (x :: l)
    | none => none
  | _ => none
theorem strsOf_are : ∀ {xs : List V} {us : List Value} {ys : List Str}, Vals xs us → strsOf xs = some ys → StrsAre us ys
  | _, _, _, .nil, h => by cases h; exact .nil
  | x :: r, u :: us, ys, .cons h t, e => by
    cases x <;> first | (cases e; done) | skip
    obtain ⟨tk, rfl⟩ := h
    unfold strsOf at e
    split at e
    · cases e
      exact .cons _ _ (strsOf_are t (by assumption))
    · cases e
abbrev RM := V → List V → Hp → VK → Prop
@[irreducible] def joinG : RM := fun x vs H Q => match x, vs with
  | .str sep, [.ref l] => match H l with
    | some (.lst xs) => match strsOf xs with
      | some ys => (ys.map (·.length)).sum + ys.length * sep.length ≤ 16777216 ∧ Q (.str (Txt.join sep ys)) H
      | none => False
    | _ => False
  | _, _ => False
theorem mt_joinG : MtR X "str.join" joinG := fun pins s σ H x xs v us Q I rx rs h => by
  unfold joinG at h
  split at h
  · split at h
    · split at h
      · rename_i sep l _ ys hl _ zs hz
        obtain ⟨t, rfl⟩ := rx
        obtain ⟨u, rfl, ru⟩ := vals1 rs
        cases ru
        obtain ⟨its, r, li⟩ := at_lst I hl
        exact join_list li (by simpa using strsOf_are r hz) h.1 fun t' k => ⟨.str _, H, I.tok k, ⟨t', rfl⟩, h.2⟩
      · exact h.elim
    · exact h.elim
  · exact h.elim
end
end Tv

set_option Elab.async false
set_option linter.all false
set_option maxRecDepth 100000
set_option maxHeartbeats 4000000
/-! ### any dict walked by its keys: nothing is asked of the keys -/
namespace Tv
open PySem PySem.Spec PyProof.Rows L2
def RawD (h : Heap) (d : Addr) (es : Array DictEntry) (ep : Nat) : Prop := ∃ o, h.get? d = some o ∧ o.ExactDict ∧ o.data = .dict es ep
section
variable {prog : Program} {w : World} {A : Around} {E : Value → Shared → Prop} {s : Shared} {d it : Addr} {es : Array DictEntry} {ep i : Nat}
theorem RawD.typeIs (r : RawD s.heap d es ep) : s.TypeIs (.ref d) "dict" := by
  obtain ⟨o, h1, h2, h3⟩ := r
  exact ⟨o, h1, h2.1⟩
end
/-! keys that are tuples: the tuples are tracked -/
section
variable {X : Cx} {pins : List (Addr × Obj)} {σ : St} {H : Hp} {s : Shared}
/-- what the dict is in the heap -/
theorem dT_raw (I : Inv X pins σ H s) {a : Addr} {kvs : List (List Key × V)} (h : Rd H a (.dT kvs)) : (a == sysModules) = false ∧ kvs.length ≤ sizeLine ∧ ∃ (xs : List (List Key × Addr × Value)) (es : Array DictEntry) (ep : Nat),
    KT H kvs xs ∧ es.toList = xs.map (entryOfKey (tupleKind (mixKind X.prog X.w))) ∧ RawD s.heap a es ep := by
  have ok : ObjOk X.prog X.w H s.heap a (.dT kvs) := by
    rcases h with h | ⟨o, h⟩
    · exact I.hok a _ h
    · exact (I.hok a _ h).2
  obtain ⟨z, lo, xs, pr, o, es, ep, e1, e2, e3, e4, _⟩ := ok
  exact ⟨lo, z, xs, es, ep, pr, e4, o, e1, e2, e3⟩
end
/-! len(d) of any dict, sum(a list of ints) -/
section
variable {prog : Program} {w : World} {A : Around} {E : Value → Shared → Prop} {s : Shared} {d : Addr} {es : Array DictEntry} {ep : Nat}
theorem raw_len {Q : Value → Shared → Prop} (lo : (d == sysModules) = false) (r : RawD s.heap d es ep) (fit : (es.size : Int) < 2 ^ 63) (q : Q (.int es.size (s.toks + 1)) { s with toks := s.toks + 1 + 1 }) : wpAny (model prog w) A (call (.builtin "len") [.ref d]) Q E s := by
  have ty := r.typeIs
  have ml : MeetsIn prog w (Builtin.«dict.__len__» ⟨[.ref d], []⟩) (fun _ R s => ∃ es ep, RawD s.heap d es ep ∧ R (.ok (.ret (.int es.size s.toks))) { s with toks := s.toks + 1 }) := .of_wp fun A R s ⟨es, ep, ⟨o, h1, h2, h3⟩, h⟩ => by
    show wpAny _ _ (dictSize d >>= _) _ _ s
    unfold dictSize
    refine wpAny_bind (wpAny_bind (wpAny_dictEntries h1 h3 (wpAny_pure ?_)))
    show wpAny _ _ (Builtin.Dict.pendingCount d >>= _) _ _ s
    refine wpAny_bind (wpAny_pendingCount_other lo (wpAny_ret_mkInt ?_))
    rw [Nat.add_zero]
    exact h
  refine Calls.call_function_entry kind_len plain_len entry_len (args_len1 _) ?_
  unfold Builtin.«len»
  refine wpAny_bind (m := oneArg "len" _) (wpAny_pure (wpAny_bind (m := callSpecial? (.ref d) (Str.ofString "__len__")) (wpAny_callSpecial?_slot (name := Str.ofString "__len__") ty F.slot_dict_len (call_meetsIn F.slot_dict_len ty F.entry_dict_len (F.args_dict_len_1 _) ml ⟨es, ep, r, ?_⟩))))
  show wpAny _ _ _ _ _ { s with toks := s.toks + 1 }
  refine wpAny_bind (wpAny_holding (wpAny_pure (wpAny_bind (wpAny_letGo ?_))))
  show wpAny _ _ (if ((es.size : Nat) : Int) < 0 then _ else _) _ _ _
  rw [if_neg (by omega)]
  show wpAny _ _ (if ((es.size : Nat) : Int) ≥ 2 ^ 63 then _ else _) _ _ _
  rw [if_neg (by omega)]
  exact wpAny_bind (wpAny_mkInt (wpAny_pure ⟨_, rfl, q⟩))
end
section
variable {X : Cx}
theorem call_lenT : CallR X (.builtin "len") (fun xs H Q => ∃ a kvs, xs = [V.ref a] ∧ Rd H a (.dT kvs) ∧ Q (.int kvs.length) H) := by
  intro pins s σ H xs us Q I r h
  obtain ⟨a, kvs, rfl, ha, q⟩ := h
  obtain ⟨u, rfl, ru⟩ := vals1 r
  cases ru
  obtain ⟨lo, z, xs, es, ep, pr, e4, rd⟩ := dT_raw I ha
  have hl : es.size = kvs.length := by
    rw [← Array.length_toList, e4, List.length_map]
    exact (Paired.length pr).symm
  refine raw_len lo rd (by rw [hl]; rw [sizeLine_eq] at z; omega) ⟨.int kvs.length, H, I.tok _, ⟨_, by rw [hl]⟩, q⟩
end
end Tv

set_option Elab.async false
set_option linter.all false
set_option maxRecDepth 100000
set_option maxHeartbeats 4000000
namespace Tv
open PySem PySem.Spec PyProof.Rows L2
section
variable {X : Cx} {o e : Expr} {es : List Expr} {to : TE} {t : TA} {pos apos cpos : Pos}
/-! ### stars -/
def isStar : Expr → Bool
  | .Starred _ _ => true
  | _ => false
theorem star_cons {env : Env} (h : isStar e = false) : starEach (e :: es) env = (false, eval e env) :: starEach es env := by
  cases e <;> first | rfl | cases h
theorem stars_none {env : Env} : ∀ {es : List Expr}, es.any isStar = false → (backTo pos (starEach es env)).any (·.1) = false ∧ (backTo pos (starEach es env)).all (fun x => !x.1) = true
  | [], _ => ⟨rfl, rfl⟩
  | e :: es, h => by
    rw [List.any_cons, Bool.or_eq_false_iff] at h
    obtain ⟨i1, i2⟩ := stars_none (env := env) h.2
    rw [star_cons h.1]
    exact ⟨by simpa [backTo] using i1, by simpa [backTo] using i2⟩
/-! ### built-in functions -/
@[irreducible] def lenH (p : Addr) (H : Hp) (Q : VK) : Prop := match H p with
  | some (.lst ys) => Q (.int ys.length) H
  | some (.tup ys) => Q (.int ys.length) H
  | some (.dK kvs) => Q (.int kvs.length) H
  | some (.dT kvs) => Q (.int kvs.length) H
  | some (.frz _ (.dT kvs)) => Q (.int kvs.length) H
  | _ => False
def lenG : List V → Hp → VK → Prop := fun xs H Q => match xs with
  | [.str z] => z.length ≤ sizeLine ∧ Q (.int z.length) H
  | [.ref p] => lenH p H Q
  | _ => False
theorem call_lenG : CallR X (.builtin "len") lenG := CallR.imp (CallR.or call_len_str (CallR.or call_len_seq (CallR.or call_lenD call_lenT))) fun xs H Q h => by
  unfold lenG at h
  split at h
  · exact .inl ⟨_, rfl, h⟩
  · unfold lenH at h
    split at h
    · exact .inr (.inl ⟨_, _, rfl, .inl (.inl (.inl (by assumption))), h⟩)
    · exact .inr (.inl ⟨_, _, rfl, .inr (.inl (.inl (by assumption))), h⟩)
    · exact .inr (.inr (.inl ⟨_, _, rfl, by assumption, h⟩))
    · exact .inr (.inr (.inr ⟨_, _, rfl, .inl (by assumption), h⟩))
    · exact .inr (.inr (.inr ⟨_, _, rfl, .inr ⟨_, by assumption⟩, h⟩))
    · exact h.elim
  · exact h.elim
def okTy (T : String) : Bool := ["str", "int", "bool", "list", "tuple", "dict"].contains T
@[irreducible] def isiG : List V → Hp → VK → Prop := fun xs H Q => match xs with
  | [x, .ty T] => okTy T = true ∧ match kindV H x with
    | some S => Q (.bl (isKind S T)) H
    | none => False
  | _ => False
theorem call_isiG : CallR X (.builtin "isinstance") isiG := CallR.imp call_isi fun xs H Q h => by
  unfold isiG at h
  split at h
  · obtain ⟨h1, h⟩ := h
    split at h
    · exact ⟨_, _, _, rfl, by assumption, by simpa [okTy] using h1, h⟩
    · exact h.elim
  · exact h.elim
def blsOf : List V → Option (List Bool)
  | [] => some []
  | .bl b :: r => (blsOf r).map (b :: ·)
  | _ => none
theorem blsOf_map : ∀ {xs : List V} {bs : List Bool}, blsOf xs = some bs → xs = bs.map V.bl
  | [], bs, h => by cases h; rfl
  | x :: r, bs, h => by
    cases x <;> first | (cases h; done) | skip
    rename_i b
    unfold blsOf at h
    cases e : blsOf r with
    | none => rw [e] at h; cases h
    | some cs => rw [e] at h; cases h; rw [blsOf_map e]; rfl
@[irreducible] def allG : List V → Hp → VK → Prop := fun xs H Q => match xs with
  | [.ref p] => match H p with
    | some (.lst ys) => match blsOf ys with
      | some bs => Q (.bl (bs.all id)) H
      | none => False
    | _ => False
  | _ => False
theorem call_allG (hc : X.calm = true) : CallR X (.builtin "all") allG := CallR.imp (call_all0 hc) fun xs H Q h => by
  unfold allG at h
  split at h
  · split at h
    · split at h
      · rename_i ys hy _ bs hb
        refine ⟨_, bs, rfl, .inl ?_, h⟩
        rw [← blsOf_map hb]
        exact hy
      · exact h.elim
    · exact h.elim
  · exact h.elim
def maxG : List V → Hp → VK → Prop := fun xs H Q => match xs with
  | [.int i, .int j] => Q (.int (if j > i then j else i)) H
  | _ => False
theorem call_maxG (hc : X.calm = true) : CallR X (.builtin "max") maxG := CallR.imp (call_max2 hc) fun xs H Q h => by
  unfold maxG at h
  split at h
  · exact ⟨_, _, rfl, h⟩
  · exact h.elim
@[irreducible] def listG : List V → Hp → VK → Prop := fun xs H Q => match xs with
  | [.str z] => z.length ≤ sizeLine ∧ newO H (.lst (z.cps.toList.map fun c => V.str ⟨#[c]⟩)) Q
  | [.ref p] => match H p with
    | some (.lst ys) => newO H (.lst ys) Q
    | some (.tup ys) => newO H (.lst ys) Q
    | some (.dK kvs) => newO H (.lst (kvs.map fun kv => kV kv.1)) Q
    | some (.frz _ (.dK kvs)) => newO H (.lst (kvs.map fun kv => kV kv.1)) Q
    | _ => False
  | _ => False
theorem call_listG (hc : X.calm = true) : CallR X (.type "list") listG := fun pins s σ H xs us Q I r h => by
  unfold listG at h
  split at h
  · obtain ⟨u, rfl, ru⟩ := vals1 r
    obtain ⟨t, rfl⟩ := ru
    exact list_text hc I h.1 h.2
  · split at h
    · exact call_list_of pins s σ H _ us Q I r ⟨_, _, rfl, .inl (.inl (.inl (by assumption))), h.at⟩
    · exact call_list_of pins s σ H _ us Q I r ⟨_, _, rfl, .inr (.inl (.inl (by assumption))), h.at⟩
    · obtain ⟨u, rfl, ru⟩ := vals1 r
      cases ru
      exact list_dict hc I (.inl (by assumption)) h
    · obtain ⟨u, rfl, ru⟩ := vals1 r
      cases ru
      exact list_dict hc I (.inr ⟨_, by assumption⟩) h
    · exact h.elim
  · exact h.elim
@[irreducible] def tupleG : List V → Hp → VK → Prop := fun xs H Q => match xs with
  | [.ref p] => match H p with
    | some (.lst ys) => newO H (.tup ys) Q
    | some (.tup ys) => Q (.ref p) H
    | _ => False
  | _ => False
theorem call_tupleG : CallR X (.type "tuple") tupleG := CallR.imp call_tuple_of fun xs H Q h => by
  unfold tupleG at h
  split at h
  · split at h
    · exact ⟨_, _, rfl, .inl ⟨.inl (.inl (by assumption)), h.at⟩⟩
    · exact ⟨_, _, rfl, .inr ⟨.inl (.inl (by assumption)), h⟩⟩
    · exact h.elim
  · exact h.elim
def bltF (x : Str) : Option (String × (List V → Hp → VK → Prop)) :=
  if x = "len" then some ("len", lenG) else if x = "isinstance" then some ("isinstance", isiG) else if x = "all" then some ("all", allG)
  else if x = "max" then some ("max", maxG) else none
def bltC (x : Str) : Option (String × (List V → Hp → VK → Prop)) :=
  if x = "list" then some ("list", listG) else if x = "tuple" then some ("tuple", tupleG) else none
theorem bltF_ok (hc : X.calm = true) {x : Str} {i : String} {r : List V → Hp → VK → Prop} (h : bltF x = some (i, r)) : CallR X (.builtin i) r ∧ bootBuiltins x = some (.builtin i) ∧ x ≠ "__name__" ∧ (x == ("__debug__" : Str)) = false := by
  unfold bltF at h
  split at h
  · rename_i e; cases h; subst e; exact ⟨call_lenG, by decide +kernel, by decide +kernel, by decide +kernel⟩
  split at h
  · rename_i e; cases h; subst e; exact ⟨call_isiG, by decide +kernel, by decide +kernel, by decide +kernel⟩
  split at h
  · rename_i e; cases h; subst e; exact ⟨call_allG hc, by decide +kernel, by decide +kernel, by decide +kernel⟩
  split at h
  · rename_i e; cases h; subst e; exact ⟨call_maxG hc, by decide +kernel, by decide +kernel, by decide +kernel⟩
  cases h
theorem bltC_ok (hc : X.calm = true) {x : Str} {i : String} {r : List V → Hp → VK → Prop} (h : bltC x = some (i, r)) : CallR X (.type i) r ∧ bootBuiltins x = some (.type i) ∧ x ≠ "__name__" ∧ (x == ("__debug__" : Str)) = false := by
  unfold bltC at h
  split at h
  · rename_i e; cases h; subst e; exact ⟨call_listG hc, by decide +kernel, by decide +kernel, by decide +kernel⟩
  split at h
  · rename_i e; cases h; subst e; exact ⟨call_tupleG, by decide +kernel, by decide +kernel, by decide +kernel⟩
  cases h
/-- the built-in types as values -/
def tyName (x : Str) : Option String :=
  if x = "int" then some "int" else if x = "str" then some "str" else if x = "bool" then some "bool" else if x = "list" then some "list" else if x = "tuple" then some "tuple" else if x = "dict" then some "dict" else if x = "ValueError" then some "ValueError" else none
theorem tyName_ok {x : Str} {i : String} (h : tyName x = some i) : bootBuiltins x = some (.type i) ∧ x ≠ "__name__" ∧ (x == ("__debug__" : Str)) = false := by
  unfold tyName at h
  repeat
    split at h
    · rename_i e; cases h; subst e; exact ⟨by decide +kernel, by decide +kernel, by decide +kernel⟩
  cases h

/-! ### methods of built-in values -/
/-- the built-in type of a value -/
def tyB (H : Hp) : V → Option String
  | .str _ => some "str"
  | .ref p => match H p with
    | some (.lst _) => some "list"
    | some (.dK _) => some "dict"
    | some (.dT _) => some "dict"
    | _ => none
  | _ => none
theorem tyB_ok {K : PySem.W.Frag} {H : Hp} {x : V} {T : String} (h : tyB H x = some T) : tyV K T x H := by
  unfold tyB at h
  split at h
  · cases h; rfl
  · split at h
    · cases h; exact .inl ⟨rfl, _, .inl (.inl (by assumption))⟩
    · cases h; exact .inr (.inr (.inl ⟨rfl, .inl ⟨_, by assumption⟩⟩))
    · cases h; exact .inr (.inr (.inl ⟨rfl, .inr ⟨_, by assumption⟩⟩))
    · cases h
  · cases h
@[irreducible] def appendG : RM := fun x vs H Q => match x, vs with
  | .ref l, [y] => match H l with
    | some (.lst xs) => xs.length < sizeLine ∧ Q .non (upd H l (.lst (xs ++ [y])))
    | _ => False
  | _, _ => False
theorem mt_appendG : MtR X "list.append" appendG := fun pins s σ H x xs v us Q I rx rs h => mt_append pins s σ H x xs v us Q I rx rs (by
  unfold appendG at h
  split at h
  · split at h
    · exact ⟨_, _, _, rfl, rfl, by assumption, h⟩
    · exact h.elim
  · exact h.elim)
@[irreducible] def clearG : RM := fun x vs H Q => match x, vs with
  | .ref l, [] => match H l with
    | some (.lst _) => Q .non (upd H l (.lst []))
    | _ => False
  | _, _ => False
theorem mt_clearG : MtR X "list.clear" clearG := fun pins s σ H x xs v us Q I rx rs h => mt_clear pins s σ H x xs v us Q I rx rs (by
  unfold clearG at h
  split at h
  · split at h
    · exact ⟨_, _, rfl, rfl, by assumption, h⟩
    · exact h.elim
  · exact h.elim)
/-- the reading of a method by the type of what it is called on -/
def bmR (T : String) (m : Str) : Option (String × RM) :=
  if T = "list" then
    if m = "append" then some ("list.append", appendG) else if m = "clear" then some ("list.clear", clearG) else none
  else if T = "dict" then
    none
  else if T = "str" then
    if m = "join" then some ("str.join", joinG) else none
  else none
theorem bmR_ok {k : Nat} (hr : Room k X.A) {T : String} {m : Str} {i : String} {r : RM} (h : bmR T m = some (i, r)) : PlainAttrs T ∧ Slot T m i ∧ typeOf (.builtin i) = pure (.type "method_descriptor") ∧ MtR X i r := by
  unfold bmR at h
  split at h
  · rename_i eT
    subst eT
    split at h
    · rename_i e; cases h; subst e; exact ⟨PySem.F.plainAttrs_list, PySem.F.slot_list_append, PySem.F.type_list_append, mt_appendG⟩
    split at h
    · rename_i e; cases h; subst e; exact ⟨PySem.F.plainAttrs_list, PySem.F.slot_list_clear, PySem.F.type_list_clear, mt_clearG⟩
    cases h
  split at h
  · rename_i eT
    subst eT
    cases h
  split at h
  · rename_i eT
    subst eT
    split at h
    · rename_i e; cases h; subst e; exact ⟨PySem.F.plainAttrs_str, PySem.F.slot_str_join, PySem.F.type_str_join, mt_joinG⟩
    cases h
  cases h
/-- o.m(..), o a list, a dict, a text -/
@[irreducible] def bmK (m : Str) (t : TA) (σ : St) (Q : VK) (x : V) (H1 : Hp) : Prop := match tyB H1 x with
  | some T => match bmR T m with
    | some (_, r) => t σ H1 fun xs H2 => r x xs H2 Q
    | none => False
  | none => False
def tBmG (m : Str) (to : TE) (t : TA) : TE := fun σ H Q => to σ H (bmK m t σ Q)
theorem few_of {env : Env} (h : es.any isStar = false) (hl : es.length < 29) : ((backTo cpos (starEach es env)).all (fun x => !x.1) && (backToKw cpos (keywordEach [] env)).all (fun x => x.1.isSome)
      && decide (es.length + ([] : List Keyword).length + (if ([] : List Keyword).isEmpty then 0 else 1) < 30)) = true := by
  rw [(stars_none (env := env) h).2]
  have : decide (es.length + ([] : List Keyword).length + (if ([] : List Keyword).isEmpty then 0 else 1) < 30) = true := by
    apply decide_eq_true
    simp
    omega
  rw [this]
  rfl
theorem pe_bmG {k : Nat} {m : Str} (hr : Room k X.A) (ho : PE X o to) (ha : PA X (e :: es) t) (hb : notSuper o = true) (hs : (e :: es).any isStar = false) (hl : (e :: es).length < 29) (hline : (apos.endLine == cpos.line) = true) : PE X (.Call (.Attribute o m apos) (e :: es) [] cpos) (tBmG m to t) := by
  intro pins s σ H Q I h
  refine wpAny_Call_method_late (base_of hb) (few_of hs hl) hline rfl (thn (ho pins s σ H _ I h) fun v s1 ⟨x, H1, I1, r1, q1⟩ => ?_)
  unfold bmK at q1
  split at q1
  · rename_i T eT
    split at q1
    · rename_i i r eb
      obtain ⟨pa, sl, hty, hm⟩ := bmR_ok hr eb
      obtain ⟨h1, h2⟩ := tyV_is I1 r1 (tyB_ok (K := X.K) eT)
      refine ⟨T, i, pa, sl, hty, h1, h2, ?_⟩
      have hA := thn (ha cpos pins s1 σ H1 _ I1 q1) fun us s2 ⟨vs, H2, I2, r2, q2⟩ => hm pins s2 σ H2 x vs v us Q I2 r1 r2 q2
      have hs' := hs
      rw [List.any_cons, Bool.or_eq_false_iff] at hs'
      rw [star_cons hs'.1] at hA ⊢
      exact Calls.callWith_builtin (by show (false || (backTo cpos (starEach es X.env)).any (·.1)) = false; rw [(stars_none hs'.2).1]; rfl) (Calls.evalArgs_plain hA)
    · exact q1.elim
  · exact q1.elim
theorem pe_bmG0 {k : Nat} {m : Str} (hr : Room k X.A) (ho : PE X o to) (hb : notSuper o = true) (hline : (apos.endLine == cpos.line) = true) : PE X (.Call (.Attribute o m apos) [] [] cpos) (tBmG m to tNil) := by
  intro pins s σ H Q I h
  refine wpAny_Call_method0_late (base_of hb) hline (thn (ho pins s σ H _ I h) fun v s1 ⟨x, H1, I1, r1, q1⟩ => ?_)
  unfold bmK at q1
  split at q1
  · rename_i T eT
    split at q1
    · rename_i i r eb
      obtain ⟨pa, sl, hty, hm⟩ := bmR_ok hr eb
      obtain ⟨h1, h2⟩ := tyV_is I1 r1 (tyB_ok (K := X.K) eT)
      exact ⟨T, i, pa, sl, hty, h1, h2, Calls.callWith_builtin rfl (PySem.evalArgs_none (hm pins s1 σ H1 x [] v [] Q I1 r1 .nil q1))⟩
    · exact q1.elim
  · exact q1.elim
/-- own methods -/
theorem meth_tree {env : Env} {m : Str} (hb : notSuper o = true) (hs : es.any isStar = false) (hl : es.length < 29) (hline : (apos.endLine == cpos.line) = true) :
    eval (.Call (.Attribute o m apos) es [] cpos) env = (do
      let ov ← eval o env
      standAt apos.atName
      let (f, first) ← holding [ov] (getMethod ov m (do return (← importBound o env).getD true))
      callWith cpos f first (backTo cpos (starEach es env)) (backToKw cpos (keywordEach [] env))) := by
  rw [arm_eval_Call, base_of hb]
  have hf : methodCallForm (es.length + ([] : List Keyword).length) (backTo cpos (starEach es env)) (backToKw cpos (keywordEach [] env)) = true := few_of hs hl
  simp only [methodCall, calleeOf, methodCallPos, hf, hline, if_true, Bool.not_true, Bool.false_or, pure_bind]
theorem methG_meth {cl : Addr} {m : Str} {sp : Sp} {E : XK} {σ : St} {H : Hp} {Q : VK} (h : tMethG cl m sp E to t σ H Q) : tMeth cl m sp [] E (moE to) t σ H Q := ⟨_, h, fun x H1 q => by
  unfold methK at q
  split at q
  · split at q
    · obtain ⟨rfl, q1, q2⟩ := q
      exact ⟨_, _, _, rfl, by assumption, q1, q2⟩
    · exact q.elim
  · exact q.elim⟩
theorem pe_methG {k : Nat} {CX : CXT} {f cl : Addr} {fd : FuncData} {ps : List Str} {sp : Sp} {E : XK} {m : Str} (ho : PE X o to) (c : Cls X.K cl) (hm : Meth X.K cl m f) (F : FnOk X.prog X.w X.K X.mg X.base CX k f fd ps sp) (hr : Room k X.A) (b : Binds X.K fd ps []) (hx : Passes CX X E) (ha : PA X (e :: es) t)
    (hb : notSuper o = true) (hs : (e :: es).any isStar = false) (hl : (e :: es).length < 29) (hline : (apos.endLine == cpos.line) = true) : PE X (.Call (.Attribute o m apos) (e :: es) [] cpos) (tMethG cl m sp E to t) := by
  have hs' := hs
  rw [List.any_cons, Bool.or_eq_false_iff] at hs'
  exact PE.imp (pe_meth (PE.mo ho) c hm F hr b .nil hx ha (star_cons hs'.1) (stars_none hs'.2).1 (meth_tree hb hs hl hline)) fun σ H Q h => methG_meth h
theorem pe_methG0 {k : Nat} {CX : CXT} {f cl : Addr} {fd : FuncData} {ps : List Str} {sp : Sp} {E : XK} {m : Str} (ho : PE X o to) (c : Cls X.K cl) (hm : Meth X.K cl m f) (F : FnOk X.prog X.w X.K X.mg X.base CX k f fd ps sp) (hr : Room k X.A) (b : Binds X.K fd ps []) (hx : Passes CX X E)
    (hb : notSuper o = true) (hline : (apos.endLine == cpos.line) = true) : PE X (.Call (.Attribute o m apos) [] [] cpos) (tMethG cl m sp E to tNil) :=
  PE.imp (pe_meth0 (PE.mo ho) c hm F hr b .nil hx (meth_tree hb rfl (by decide) hline)) fun σ H Q h => methG_meth h
/-- o[i] = v -/
@[irreducible] def setG : TSet := fun o i v H Q => match o with
  | .ref p => match H p with
    | some (.lst xs) => match i with
      | .int k => match ixN xs.length k with
        | some j => Q (upd H p (.lst (xs.set j v)))
        | none => False
      | _ => False
    | some (.dK kvs) => match keyOf i with
      | some k => kvs.length < sizeLine ∧ Q (upd H p (.dK (putK kvs k v)))
      | none => False
    | some (.dT kvs) => match i with
      | .ref b => match H b with
        | some (.tup xs) => match keysOf xs with
          | some k => kvs.length < sizeLine ∧ Q (upd H p (.dT (putK kvs k v)))
          | none => False
        | _ => False
      | _ => False
    | _ => False
  | _ => False
theorem set_G {k : Nat} (hr : Room k X.A) : PSet X setG := fun pins s σ H o i v ov iv u Q I ro ri rv h => by
  unfold setG at h
  split at h
  · rename_i p
    split at h
    · split at h
      · split at h
        · exact set_list pins s σ H _ _ v ov iv u Q I ro ri rv ⟨_, _, _, _, rfl, rfl, by assumption, by assumption, h⟩
        · exact h.elim
      · exact h.elim
    · split at h
      · rename_i kvs hp _ k' ek
        cases ro
        rw [keyOf_kV ek] at ri
        exact d_setItem (hu_of hr) I (DPut.k hp h.1) ri rv fun s' I' => ⟨_, I', h.2⟩
      · exact h.elim
    · split at h
      · split at h
        · split at h
          · rename_i kvs hp _ b _ xs hb _ k' ek
            cases ro
            rw [keysOf_kV ek] at hb
            exact d_setItem (hu_of hr) I (DPut.t hp hb h.1) ri rv fun s' I' => ⟨_, I', h.2⟩
          · exact h.elim
        · exact h.elim
      · exact h.elim
    · exact h.elim
  · exact h.elim
end
end Tv

set_option Elab.async false
set_option linter.all false
set_option maxRecDepth 100000
set_option maxHeartbeats 4000000
namespace Tv
open PySem PySem.Spec PyProof.Rows L2
/-! ### backwards -/
section
variable {X : Cx} {tg : Expr}
end
end Tv

set_option Elab.async false
set_option linter.all false
set_option maxRecDepth 100000
set_option maxHeartbeats 1000000
/-! ### exceptions of own classes -/
namespace Tv
open PySem PySem.Spec PySem.Calls PyProof.Rows L2
section
open PySem.W PySem.Builtin PySem.Builtin.Getset_descriptor
variable {prog : Program} {w : World} {A : Around} {E : Value → Shared → Prop} {K : PySem.W.Frag} {x D : Addr}
/-- of the own class at D -/
def TyAt (x D : Addr) (h : Heap) : Prop := ∃ o, h.get? x = some o ∧ o.cls = .ref D
theorem TyAt.look {M : Model} {h : Heap} (p : TyAt x D h) : Looks M h (typeOf (.ref x)) (.ref D) := by
  obtain ⟨o, h1, h2⟩ := p
  rw [← h2]
  exact (Looks.ld h1).andThen .now
/-- what is known of an own class of exceptions under ValueError -/
def mroV : List Value := [.type "ValueError", .type "Exception", .type "BaseException", .type "object"]
structure ExcC (K : PySem.W.Frag) (D : Addr) : Prop where
  ga : findIn K (.ref D) "__getattribute__" = some (some (.builtin "BaseException.__getattribute__"))
  na : findIn K (.ref D) "__getattr__" = some none
  hb : mroIn K D (.type "BaseException") = some true
  hm : mroIn K D (.type "object") = some true
  ha : findIn K (.ref D) "__class__" = some (some (.builtin "object.__class__"))
  hn : specialIn K (.builtin "object.__class__") "__get__" = some (some (.builtin "getset_descriptor.__get__"))
  tk : takesIn K (.builtin "object.__class__") = some true
  hc : (clsIn K D).isSome = true
  ex : excIn K D mroV "ValueError.__new__" = true
theorem look_cls {M : Model} {h : Heap} (X : K.In h) (c : ExcC K D) : Looks M h (Builtin.ObjectAttr.find (.ref x) (.ref D) "__class__") (.bind (.builtin "getset_descriptor.__get__") (.builtin "object.__class__")) := by
  have l1 := looks_findIn (M := M) X c.ha
  have l2 : Looks M h (Builtin.ObjectAttr.getOf (some (.builtin "object.__class__"))) (some (.builtin "getset_descriptor.__get__")) := looks_specialIn X c.hn
  have l3 := looks_takesIn (M := M) X c.tk
  have l4 : Looks M h (Builtin.ObjectAttr.dataDescriptor? (some (.builtin "object.__class__")) (some (.builtin "getset_descriptor.__get__"))) (some (.builtin "getset_descriptor.__get__", .builtin "object.__class__")) := l3.andThen .now
  exact l1.andThen (l2.andThen (l4.andThen (Looks.tag .now)))
theorem cls_get {tp : Value} {R : Result → Shared → Prop} {s : Shared} (X : K.In s.heap) (I : TyAt x D s.heap) (c : ExcC K D) (h : R (.ok (.ret (.ref D))) s) :
    codeAny (model prog w) A (.call (.builtin "getset_descriptor.__get__") ⟨[.builtin "object.__class__", .ref x, tp], []⟩) R s := by
  have l0 := I.look (M := model prog w)
  have l1 := looks_mroIn (M := model prog w) X c.hm
  obtain ⟨hp, gs, dr, tk, os⟩ := s
  refine codeAny_call_builtin KF.slot_gs.plain KF.entry_gs ?_
  refine KF.slot_gs.check _ _ _ _ _ _ _ _ KF.type_class (KF.args_gs _ _ _) ?_
  unfold Builtin.«getset_descriptor.__get__»
  unfold descrGet
  rw [dga_obj]
  refine wpAny_bind (wpAny_pure ?_)
  unfold descrGetter descrCheckInstance
  unfold descrNameAndClass isInstance
  simp only [KF.owner_class]
  repeat lk
  refine ⟨Code.quiet_builtin _ (by decide +kernel), ?_⟩
  refine codeAny_builtin KF.entry_class ?_
  unfold Builtin.«object.__class__»
  unfold shownTypeOf
  repeat lk
  exact h
theorem exc_entry {tk : Tok} {Q : Fin → Shared → Prop} {s : Shared} (X : K.In s.heap) (I : TyAt x D s.heap) (c : ExcC K D) (h : Q (.done (.ret (.ref D))) s) :
    wpAny (model prog w) A (Builtin.«object.__getattribute__» ⟨[.ref x, .str "__class__" tk], []⟩) Q E s := by
  have l0 := I.look (M := model prog w)
  have l1 := look_cls (M := model prog w) (x := x) X c
  obtain ⟨hh, g, d, t, os⟩ := s
  unfold Builtin.«object.__getattribute__»
  refine wpAny_bind (wpAny_pure (wpAny_bind (wpAny_pure (wpAny_bind (l0.at (wpAny_bind (l1.at ?_)))))))
  refine wpAny_bind (wpAny_holding (wpAny_call (cls_get (s := ⟨hh, g, d, t, os⟩) X I c ?_)))
  exact wpAny_pure h
theorem exc_check {M : Model} {nameV : Value} {Q : Unit → Shared → Prop} {s : Shared} (X : K.In s.heap) (I : TyAt x D s.heap) (c : ExcC K D) (hq : Q () s) : wpAny M A (checkBuiltinCall "BaseException.__getattribute__" ⟨[.ref x, nameV], []⟩) Q E s := by
  have k1 : builtinKind "BaseException.__getattribute__" = some .slot := by decide +kernel
  have k2 : splitId "BaseException.__getattribute__" = some ("BaseException", "__getattribute__") := by decide +kernel
  have ha := F.args_bexc_ga (.ref x) nameV
  have l0 := I.look (M := M)
  have l1 := looks_mroIn (M := M) X c.hb
  obtain ⟨hh, g, d, t, os⟩ := s
  simp only [checkBuiltinCall, k1, k2]
  refine wpAny_bind ?_
  unfold isInstance
  refine wpAny_bind (l0.at (l1.at ?_))
  repeat (first | exact hq | wp_step)
theorem exc_class {Q : Option Value → Shared → Prop} {s : Shared} (X : K.In s.heap) (I : TyAt x D s.heap) (c : ExcC K D) (h : Q (some (.ref D)) { s with toks := s.toks + 1 }) : wpAny (model prog w) A (getAttr? (.ref x) "__class__") Q E s := by
  have l0 := I.look (M := model prog w)
  have l1 := looks_findIn (M := model prog w) X c.ga
  have l2 := looks_findIn (M := model prog w) X c.na
  have f3 := PySem.F.attrBase_ValueError.ga.bind (.ref x)
  obtain ⟨hh, g, d, t, os⟩ := s
  have hX : K.In (⟨hh, g, d, t + 1, os⟩ : Shared).heap := X
  have hI : TyAt x D (⟨hh, g, d, t + 1, os⟩ : Shared).heap := I
  unfold getAttr?
  unfold getAttrBy? getAttrBy
  refine wpAny_bind (wpAny_mkText (wpAny_bind (wpAny_attempt (wpAny_holding (wpAny_bind (l0.at (wpAny_bind (l1.at ?_))))))))
  have hx2 : (onTheHeap (Value.ref D) && Value.builtin "BaseException.__getattribute__" == Value.builtin "object.__getattribute__") = false := by
    rw [show (Value.builtin "BaseException.__getattribute__" == Value.builtin "object.__getattribute__") = false by decide +kernel, Bool.and_false]
  simp only [hx2, Bool.false_eq_true, if_false]
  unfold getAttrByItsOwn
  refine wpAny_bind (l2.at (wpAny_bind (wpAny_attempt (wpAny_holding ?_))))
  show wpAny _ _ (boundAndCalled (Value.builtin "BaseException.__getattribute__") (.ref x) (.str "__class__" t)) _ _ _
  unfold boundAndCalled
  rw [f3]
  refine wpAny_bind (wpAny_pure (wpAny_call (codeAny_call_builtin PySem.F.attrBase_ValueError.ga.plain PySem.F.entry_bexc_ga (exc_check hX hI c (exc_entry hX hI c ?_)))))
  exact handed_on rfl (wpAny_pure h)
theorem isType_own {M : Model} {h : Heap} (X : K.In h) (c : ExcC K D) : Looks M h (isType (.ref D)) true := by
  obtain ⟨cd, e⟩ := Option.isSome_iff_exists.mp c.hc
  unfold clsIn at e
  split at e
  · rename_i ho
    intro A' Q' E' s' k q
    unfold isType
    unfold loadHead
    exact wpAny_bind (wpAny_loadPart (k _ _ (X _ _ ho)) (wpAny_pure q))
  · cases e
theorem kitx_exc (c : ExcC K D) : KitX K (.ref x) (.ref D) (TyAt x D) where
  ty := fun _ _ _ p => p.look
  it := fun _ _ X _ => isType_own X c
  ne := fun h tp dd its n sl X htp => Bool.eq_false_iff.mpr fun q => by
    have e : D = tp := Value.ref.inj (beq_iff_eq.mp q)
    subst e
    obtain ⟨cd, e⟩ := Option.isSome_iff_exists.mp c.hc
    unfold clsIn at e
    split at e
    · rename_i ho
      have z := (X _ _ ho).symm.trans htp
      cases z
    · cases e
  ca := fun X I k => exc_class X I c k
/-- isinstance(e, C), e an exception of an own class -/
theorem isi_exc {c : Value} {b : Bool} {Q : Value → Shared → Prop} {s : Shared} (X : K.In s.heap) (I : TyAt x D s.heap) (d : ExcC K D) (e : kitOne K (.ref D) c = some b) (h : ∀ tk, Q (.bool b) { s with toks := tk }) : wpAny (model prog w) A (call (.builtin "isinstance") [.ref x, c]) Q E s :=
  kia_one (kitx_exc d) X I e (fun z => nomatch z) h
end
/-! ### what flies -/
theorem ObjOk.there {P : Program} {w : World} {H : Hp} {h : Heap} {a : Addr} {o : HO} (x : ObjOk P w H h a o) : ∃ u, h.get? a = some u := by
  cases o with
  | lst xs => obtain ⟨_, _, _, _, e⟩ := x; exact ⟨_, e⟩
  | tup xs => obtain ⟨_, _, _, p⟩ := x; obtain ⟨u, e, _⟩ := p; exact ⟨u, e⟩
  | dK kvs => obtain ⟨_, _, _, _, u, _, _, e, _⟩ := x; exact ⟨u, e⟩
  | dT kvs => obtain ⟨_, _, _, _, u, _, _, e, _⟩ := x; exact ⟨u, e⟩
  | set S n => obtain ⟨u, _, _, _, e, _⟩ := x; exact ⟨u, e⟩
  | ins C dx fs => obtain ⟨_, _, _, e, _⟩ := x; exact ⟨_, e⟩
  | own y => obtain ⟨u, e⟩ := x; exact ⟨u, e⟩
  | xd fs => obtain ⟨_, ⟨u, _, _, e, _⟩, _⟩ := x; exact ⟨u, e⟩
  | rng lo hi => obtain ⟨_, _, _, e⟩ := x; exact ⟨_, e⟩
  | frz ob u => obtain ⟨e, _⟩ := x; exact ⟨_, e⟩
  | tbl ps => exact ⟨_, (show h.get? a = some _ from x)⟩
  | met f y => exact ⟨_, (show h.get? a = some _ from x)⟩
  | ext φ => obtain ⟨_, ⟨u, e⟩, _⟩ := x; exact ⟨u, e⟩
/-- an exception flies over the frames of outer: all that was there ahead, or is tracked, stays as it is, but for these frames -/
def Fly (outer : List Env) (h₀ : Heap) (H : Hp) (a : Addr) (cls : Value) (h : Heap) : Prop :=
  H a = none ∧ ∃ B a0, Heap.FlyingW B outer a cls a0 h ∧ ∀ b o, h.get? b = some o → (H b ≠ none ∨ ∃ o₀, h₀.get? b = some o₀) → b ∉ frs outer → B.get? b = some o
def CXE (P : Program) (w : World) : CXT := fun outer H s E e s' => ∃ (a : Addr) (cls : Value) (H' : Hp), e = .ref a ∧ s'.os = s.os ∧ AllBare s'.gens ∧ Un (frs outer) [] H H' s.heap s'.heap ∧ HOk P w H' s'.heap ∧ Fly outer s.heap H' a cls s'.heap ∧ E cls none H'
section
variable {X : Cx} {pins : List (Addr × Obj)} {σ : St} {H H' : Hp} {s : Shared}
theorem Inv.frame_there (I : Inv X pins σ H s) {b : Addr} (hb : b ∈ frs X.stack) : ∃ o, s.heap.get? b = some o ∧ ∀ vs, o.data ≠ .fields vs := by
  obtain ⟨_, o, ho, hd⟩ := I.stack.mem hb
  exact ⟨o, ho, hd⟩
/-- one frame further out -/
theorem fly_core (I : Inv X pins σ H s) (hex : X.ex = []) (hst : X.stack = X.env :: X.outer) (hfr : X.env.frame = some X.env.locals) {B hm h' : Heap} {a : Addr} {cls a0 : Value} (u2 : Un (frs X.stack) [] H H' s.heap hm) (hok : HOk X.prog X.w H' hm)
    (cov : ∀ b o, hm.get? b = some o → (H' b ≠ none ∨ ∃ o₀, s.heap.get? b = some o₀) → b ∉ frs X.stack → B.get? b = some o) (fly : Heap.FlyingW B X.outer a cls a0 h') (up : hm.UpToSlots h') (ha : H' a = none) :
    Un (frs X.outer) [] X.H₀ H' X.s₀.heap h' ∧ HOk X.prog X.w H' h' ∧ Fly X.outer X.s₀.heap H' a cls h' := by
  have u1 := I.base
  rw [hex] at u1
  have fs : frs X.stack = X.env.locals :: frs X.outer := by
    rw [hst]
    unfold frs
    rw [List.filterMap_cons, hfr]
  have neL : ∀ b o, X.s₀.heap.get? b = some o → b ≠ X.env.locals := fun b o e => Nat.ne_of_lt (Nat.lt_of_lt_of_le (Heap.lt_size e) I.ok.above)
  have nfs : ∀ b o, X.s₀.heap.get? b = some o → b ∉ frs X.outer → b ∉ frs X.stack := fun b o e n m => by
    rw [fs] at m
    rcases List.mem_cons.mp m with z | z
    · exact neL b o e z
    · exact n z
  have frN : ∀ b ∈ frs X.stack, H' b = none := fun b hb => by
    obtain ⟨o, e, _⟩ := Inv.frame_there I hb
    exact u2.free b o e (I.stkFree b hb) (by simp)
  have frD : ∀ b ∈ frs X.stack, ∃ o, hm.get? b = some o ∧ ∀ vs, o.data ≠ .fields vs := fun b hb => by
    obtain ⟨o, e, hd⟩ := Inv.frame_there I hb
    obtain ⟨sl, e2⟩ := u2.slot b o e (I.stkFree b hb) hb (by simp)
    exact ⟨_, e2, hd⟩
  have old : ∀ b o, X.s₀.heap.get? b = some o → b ∉ frs X.outer → ∃ o2, hm.get? b = some o2 ∧ h'.get? b = some o2 ∧ B.get? b = some o2 := fun b o e n => by
    obtain ⟨o1, e1⟩ := u1.there b o e (by simp)
    obtain ⟨o2, e2⟩ := u2.there b o1 e1 (by simp)
    have c := cov b o2 e2 (.inr ⟨o1, e1⟩) (nfs b o e n)
    exact ⟨o2, e2, fly.1 b o2 c, c⟩
  have trk : ∀ b o, H' b ≠ none → hm.get? b = some o → B.get? b = some o := fun b o hn e => cov b o e (.inl hn) fun m => hn (frN b m)
  refine ⟨⟨fun b o e n nf _ => ?_, fun b o e n hf _ => ?_, fun b o e n _ => ?_, fun b o e _ => ?_, fun b xs e => u2.tups b xs (u1.tups b xs e), fun b o u e => u2.frzs b o u (u1.frzs b o u e), fun b ps e => ?_⟩, fun b u e => ?_, ha, B, a0, fly, fun b o e hh nf => ?_⟩
  · have e1 := u1.keep b o e n nf (by simp)
    have e2 := u2.keep b o e1 (u1.free b o e n (by simp)) (nfs b o e nf) (by simp)
    exact fly.1 b o (cov b o e2 (.inr ⟨o, e1⟩) (nfs b o e nf))
  · obtain ⟨sl, e1⟩ := u1.slot b o e n hf (by simp)
    have hb : b ∈ frs X.stack := by rw [fs]; exact List.mem_cons_of_mem _ hf
    obtain ⟨sl2, e2⟩ := u2.slot b _ e1 (u1.free b o e n (by simp)) hb (by simp)
    obtain ⟨o3, e3, hd⟩ := frD b hb
    rw [e2] at e3
    cases e3
    obtain ⟨sl3, e4⟩ := up b _ e2 hd
    exact ⟨sl3, e4⟩
  · obtain ⟨o1, e1⟩ := u1.there b o e (by simp)
    exact u2.free b o1 e1 (u1.free b o e n (by simp)) (by simp)
  · by_cases nf : b ∈ frs X.outer
    · have hb : b ∈ frs X.stack := by rw [fs]; exact List.mem_cons_of_mem _ nf
      obtain ⟨o3, e3, hd⟩ := frD b hb
      obtain ⟨sl3, e4⟩ := up b _ e3 hd
      exact ⟨_, e4⟩
    · obtain ⟨o2, _, e2, _⟩ := old b o e nf
      exact ⟨o2, e2⟩
  · obtain ⟨m1, e1⟩ := u1.tbls b ps e
    obtain ⟨m2, e2⟩ := u2.tbls b _ e1
    exact ⟨m1 ++ m2, by rw [e2, Array.append_assoc]⟩
  · refine (hok b u e).stay (fun c v hc q => fly.1 c v (trk c v ?_ q)) (fun _ q => q) fun _ _ q => q
    rcases hc with rfl | hc
    · rw [e]
      exact fun z => nomatch z
    · rw [hc]
      exact fun z => nomatch z
  · by_cases hn : H' b = none
    · rcases hh with hh | ⟨o₀, hh⟩
      · exact absurd hn hh
      · obtain ⟨o2, _, e2, c⟩ := old b o₀ hh nf
        rw [e] at e2
        cases e2
        exact c
    · cases q : H' b with
      | none => exact absurd q hn
      | some u =>
        obtain ⟨o2, e2⟩ := ObjOk.there (hok b u q)
        have c := trk b o2 hn e2
        have := fly.1 b o2 c
        rw [e] at this
        cases this
        exact c
/-- an exception of a callee passes through this frame -/
theorem fly_on (I : Inv X pins σ H s) (hex : X.ex = []) (hst : X.stack = X.env :: X.outer) (hfr : X.env.frame = some X.env.locals) {E : XK} {e : Value} {s1 : Shared} {E' : Value → Shared → Prop} (h : CXE X.prog X.w X.stack H s E e s1) :
    wpAny (model X.prog X.w) X.A (leaving X.env e) (fun _ s2 => CXE X.prog X.w X.outer X.H₀ X.s₀ E e s2) E' s1 := by
  obtain ⟨a, cls, H', rfl, os, bare, un, hok, ⟨ha, B, a0, fly, cov⟩, q⟩ := h
  rw [hst] at fly
  refine wpAny_leaves_onW (by rw [I.ok.frames, hst]) hfr fly fun h' fly' up => ?_
  obtain ⟨c1, c2, c3⟩ := fly_core I hex hst hfr un hok cov fly' up ha
  exact ⟨a, cls, H', rfl, os.trans I.os, bare, c1, c2, c3, q⟩
/-- an exception made here leaves this frame -/
theorem fly_new (I : Inv X pins σ H s) (hex : X.ex = []) (hst : X.stack = X.env :: X.outer) (hfr : X.env.frame = some X.env.locals) {E : XK} {e : Addr} {cls : Value} {vs : List Value} {h1 : Heap} {E' : Value → Shared → Prop} (hx : Heap.MadeExcOf s.heap h1 e cls vs) (q : E cls none H) :
    wpAny (model X.prog X.w) X.A (leaving X.env (.ref e)) (fun _ s2 => CXE X.prog X.w X.outer X.H₀ X.s₀ E (.ref e) s2) E' { s with heap := h1 } := by
  have hl := PySem.W.funFrames_hide (as := frs X.stack) I.stack fun env he b hb => List.mem_filterMap.mpr ⟨env, he, hb⟩
  rw [hst] at hl
  refine wpAny_leaves_madeW (base := PySem.W.hideAll s.heap (frs X.stack)) (h := s.heap) (by rw [I.ok.frames, hst]) hfr (fun b o q => PySem.W.of_hideAll _ q) (by rw [hst]; exact hl) hx fun h' t fly tup bt up => ?_
  have ha : H e = none := by
    cases z : H e with
    | none => rfl
    | some u =>
      obtain ⟨o, eo⟩ := ObjOk.there (I.hok e u z)
      rw [hx.new] at eo
      cases eo
  obtain ⟨c1, c2, c3⟩ := fly_core I hex hst hfr (B := PySem.W.hideAll s.heap (frs X.stack)) (hm := s.heap) Un.refl I.hok (fun b o eb _ nb => PySem.W.hideAll_get _ eb nb) fly ((Heap.UpToSlots.of_keeps hx.keeps).trans up) ha
  exact ⟨e, cls, H, rfl, I.os, I.bare, c1, c2, c3, q⟩
end
end Tv

set_option Elab.async false
set_option linter.all false
set_option maxRecDepth 100000
set_option maxHeartbeats 1000000
namespace Tv
open PySem PySem.Spec PySem.Calls PyProof.Rows L2
/-! ### raise -/
theorem exc_obj {K : PySem.W.Frag} {h : Heap} {C : Addr} {tl : List Value} {id : String} (X : K.In h) (q : PySem.W.excIn K C tl id = true) :
    ∃ m ns nm qn bs hd sn sb ab co dd a0 a1 a2 a3 a5 mN, h.get? C = some (excClassObj nm qn C ns bs m hd sn sb ab co dd a0 a1 a2 a3 a5 id) ∧ h.Ns ns mN ∧ mN "__init__" = none ∧ OwnTail h tl m := by
  unfold PySem.W.excIn at q
  split at q <;> first | (cases q; done) | skip
  rename_i d0 c0 l0 eo
  split at q <;> first | (cases q; done) | skip
  rename_i C1 m a0 a1 a2 a3 nn a5 em es
  simp only [beq_iff_eq, Bool.and_eq_true, Bool.not_eq_true'] at q
  obtain ⟨⟨⟨⟨⟨r1, r2⟩, e1⟩, e2⟩, e3⟩, e4⟩ := q
  subst r1 r2
  obtain ⟨nm, bs, mr, ns, qn, hd, sn, sb, ab, co, dl⟩ := c0
  dsimp only at em e1 e3 e4
  subst em e1
  have el : l0 = #[a0, a1, a2, a3, some (.builtin nn), a5] := by
    obtain ⟨l⟩ := l0
    simp only at es
    rw [es]
  subst el
  refine ⟨m, ns, nm, qn, bs, hd, sn, sb, ab, co, d0, a0, a1, a2, a3, a5, h.nsMap ns, X _ _ eo, ?_, ?_, PySem.W.tail_of_in X e2⟩
  · exact .of_isNs (PySem.W.isNs_of_in X e3)
  · exact PySem.W.nsMap_none_of_in X e3 e4
def tRaise (E : XK) (cl : Addr) (ta : TA) : TS := fun _ σ H => ta σ H fun vs H1 => vs.length ≤ sizeLine ∧ E (.ref cl) none H1
theorem ps_raise {X : Cx} {E : XK} {x : Str} {cl : Addr} {e : Expr} {es : List Expr} {ta : TA} {np cpos pos : Pos} (hg : Gl X x) (hm : X.mg x = some (.ref cl)) (c : ExcC X.K cl) (hc : X.calm = true) (ha : PA X (e :: es) ta) (hs : (e :: es).any isStar = false) (hd : (x == ("__debug__" : Str)) = false)
    (rse : ∀ (pins : List (Addr × Obj)) (σ : St) (H : Hp) (s : Shared) (a : Addr) (vs : List Value) (h1 : Heap), Inv X pins σ H s → Heap.MadeExcOf s.heap h1 a (.ref cl) vs → E (.ref cl) none H → X.xe (.ref a) { s with heap := h1 }) :
    PS X (.Raise (some (.Call (.Name x np) (e :: es) [] cpos)) none pos) (tRaise E cl ta) := fun pins s σ H D I h => by
  obtain ⟨m, ns, nm, qn, bs, hdct, sn, sb, ab, co, dd, a0, a1, a2, a3, a5, mN, hC, hN, hni, T⟩ := exc_obj I.ok.mod.kin c.ex
  have hs' := hs
  rw [List.any_cons, Bool.or_eq_false_iff] at hs'
  refine wpAny_Raise_call_subU (C := cl) (nm := nm) (q := qn) (N := ns) (bs := bs) (bm := m) (hdct := hdct) (sn := sn) (sub := sb) (ab := ab) (col := co) (dd := dd) (k0 := a0) (k1 := a1) (k2 := a2) (k3 := a3) (k5 := a5)
    PySem.F.excBase_ValueError (bmB := mroV) (by decide +kernel) PySem.F.excBase_ValueError (mN := mN) (T.hasType (by decide +kernel)) (I.ok.hd hc) (stars_none (pos := cpos) hs).1 hni (ld_glob I hg hm ⟨rfl, ?_⟩ hd)
  have h1 := ha cpos pins s σ H _ I h
  rw [star_cons hs'.1] at h1 ⊢
  exact Calls.evalArgs_plain (wpAny_mono h1 (fun us s2 ⟨vs, H2, I2, r2, hz, q2⟩ => ⟨rfl, by rw [← r2.length]; exact hz, I2.bk _ _ hC, hN.keeps I2.bk, T.keeps I2.bk, fun h' a hx => rse pins σ H2 s2 a us h' I2 hx q2⟩) fun _ _ y => y)
end Tv

set_option Elab.async false
set_option linter.all false
set_option maxRecDepth 100000
set_option maxHeartbeats 1000000
namespace Tv
open PySem PySem.Spec PySem.Calls PyProof.Rows L2
section
variable {X : Cx} {pins : List (Addr × Obj)} {σ : St} {H H' : Hp} {s : Shared}
/-- a name is unbound -/
theorem del_ok {M : Model} {A : Around} {E : Value → Shared → Prop} {i : Nat} {n : Str} {v : V} {Q : Unit → Shared → Prop} (I : Inv X pins σ H s) (hN : X.N.Nodup) (hi : X.N[i]? = some n) (hl : X.env.scope.names.lookup n = some .local) (hv : σ[i]? = some (some v))
    (h : ∀ s', Inv X pins (σ.set i none) H s' → Q () s') : wpAny M A (unbindName X.env n) Q E s := by
  obtain ⟨m, hn, hk⟩ := id I.loc
  obtain ⟨u, r, lk⟩ := hk i n v hi hv (.inl hl)
  have hm : m n = some u := by
    rcases lk with ⟨_, e⟩ | ⟨k, _⟩
    · exact e
    · have hl' : X.env.kindOf n = some .local := hl
      rw [hl'] at k
      rcases k with k | k <;> cases k
  have hc : (X.env.scope.kind == .class || (X.env.scope.kind == .module && X.env.locals != X.env.globals)) = false := by rw [I.ok.kind]; rfl
  refine wpAny_unbindName_local hl hn hm hc fun h' u' hn' hs => h _ ?_
  have ne : ∀ b o, X.s₀.heap.get? b = some o → b ≠ X.env.locals := fun b o e => Nat.ne_of_lt (Nat.lt_of_lt_of_le (Heap.lt_size e) I.ok.above)
  refine ⟨I.ok, I.os, I.bare, ⟨fun b o e n hb hx => (hs.2 b (ne b o e)).trans (I.base.keep b o e n hb hx), fun b o e n hb hx => ?_, I.base.free, fun b o e hx => ?_, I.base.tups, I.base.frzs, I.base.tbls⟩, ⟨_, hn', fun j y v' e1 e2 e3 => ?_⟩, fun y c e => ?_, I.free, I.freeC, fun p hp => ?_, fun b ob e => ?_, by simpa using I.len⟩
  · obtain ⟨sl, e1⟩ := I.base.slot b o e n hb hx
    exact ⟨sl, (hs.2 b (ne b o e)).trans e1⟩
  · obtain ⟨o', e1⟩ := I.base.there b o e hx
    exact ⟨o', (hs.2 b (ne b o e)).trans e1⟩
  · have hj : j ≠ i := fun z => by
      subst z
      by_cases hlt : j < σ.length
      · rw [List.getElem?_set_self hlt] at e2
        cases e2
      · rw [List.getElem?_eq_none (by simpa using hlt)] at e2
        cases e2
    rw [List.getElem?_set_ne (Ne.symm hj)] at e2
    obtain ⟨u2, r2, q⟩ := hk j y v' e1 e2 e3
    refine ⟨u2, r2, ?_⟩
    rcases q with ⟨k, e⟩ | ⟨k, c, e, z⟩
    · have : y ≠ n := fun e => hj (nodup_ix hN e1 (e ▸ hi))
      exact .inl ⟨k, by simp [this, e]⟩
    · exact .inr ⟨k, c, e, z.sameBut hs (I.cne y c e)⟩
  · obtain ⟨w', z⟩ := I.cell y c e
    exact ⟨w', z.sameBut hs (I.cne y c e)⟩
  · obtain ⟨e, n, ne, nf, d⟩ := I.pin p hp
    exact ⟨(hs.2 p.1 ne).trans e, n, ne, nf, d⟩
  · refine (I.hok b ob e).stay (fun c w' hc q => (hs.2 c ?_).trans q) (fun _ q => q) fun _ _ q => q
    rintro rfl
    rcases hc with z | z
    · rw [← z, I.free] at e
      cases e
    · rw [I.free] at z
      cases z
/-- within this frame: what flies changes nothing that is known -/
theorem fly_same (I : Inv X pins σ H s) {B hm h' : Heap} {a : Addr} {cls a0 : Value} (u2 : Un (frs X.stack) [] H H' s.heap hm) (hok : HOk X.prog X.w H' hm)
    (cov : ∀ b o, hm.get? b = some o → (H' b ≠ none ∨ ∃ o₀, s.heap.get? b = some o₀) → b ∉ frs X.stack → B.get? b = some o) (stay : B.StaysIn h') (up : hm.UpToSlots h') :
    Un (frs X.stack) [] H H' s.heap h' ∧ HOk X.prog X.w H' h' := by
  have frN : ∀ b ∈ frs X.stack, H' b = none := fun b hb => by
    obtain ⟨o, e, _⟩ := Inv.frame_there I hb
    exact u2.free b o e (I.stkFree b hb) (by simp)
  have frD : ∀ b ∈ frs X.stack, ∃ o, hm.get? b = some o ∧ ∀ vs, o.data ≠ .fields vs := fun b hb => by
    obtain ⟨o, e, hd⟩ := Inv.frame_there I hb
    obtain ⟨sl, e2⟩ := u2.slot b o e (I.stkFree b hb) hb (by simp)
    exact ⟨_, e2, hd⟩
  refine ⟨⟨fun b o e n nf _ => ?_, fun b o e n hf _ => ?_, u2.free, fun b o e _ => ?_, u2.tups, u2.frzs, u2.tbls⟩, fun b u e => ?_⟩
  · exact stay b o (cov b o (u2.keep b o e n nf (by simp)) (.inr ⟨o, e⟩) nf)
  · obtain ⟨sl2, e2⟩ := u2.slot b o e n hf (by simp)
    obtain ⟨o3, e3, hd⟩ := frD b hf
    rw [e2] at e3
    cases e3
    obtain ⟨sl3, e4⟩ := up b _ e2 hd
    exact ⟨sl3, e4⟩
  · by_cases nf : b ∈ frs X.stack
    · obtain ⟨o3, e3, hd⟩ := frD b nf
      obtain ⟨sl3, e4⟩ := up b _ e3 hd
      exact ⟨_, e4⟩
    · obtain ⟨o2, e2⟩ := u2.there b o e (by simp)
      exact ⟨o2, stay b o2 (cov b o2 e2 (.inr ⟨o, e⟩) nf)⟩
  · refine (hok b u e).stay (fun c v hc q => ?_) (fun _ q => q) fun _ _ q => q
    have hn : H' c ≠ none := by
      rcases hc with rfl | hc
      · rw [e]
        exact fun z => nomatch z
      · rw [hc]
        exact fun z => nomatch z
    exact stay c v (cov c v q (.inl hn) fun m => hn (frN c m))
/-- the caught exception is tracked -/
theorem fly_track (I : Inv X pins σ H s) {B hm h' : Heap} {a d : Addr} {a0 : Value} {s1 : Shared} (os : s1.os = s.os) (bare : AllBare s1.gens) (u2 : Un (frs X.stack) [] H H' s.heap hm) (hok : HOk X.prog X.w H' hm)
    (cov : ∀ b o, hm.get? b = some o → (H' b ≠ none ∨ ∃ o₀, s.heap.get? b = some o₀) → b ∉ frs X.stack → B.get? b = some o) (fly : Heap.FlyingW B X.stack a (.ref d) a0 h') (up : hm.UpToSlots h') (ha : H' a = none) :
    Inv X pins σ (upd H' a (.ext (TyAt a d))) { s1 with heap := h' } := by
  obtain ⟨u3, hok3⟩ := fly_same (a := a) (cls := .ref d) (a0 := a0) I u2 hok cov fly.1 up
  have hty : TyAt a d h' := fly.there
  have na : s.heap.get? a = none := by
    cases z : s.heap.get? a with
    | none => rfl
    | some o =>
      by_cases nf : a ∈ frs X.stack
      · obtain ⟨_, o2, e2, hd⟩ := fly.2.2.1.mem nf
        obtain ⟨_, _, _, oe, vs, T, oT, ts, h1, _, h3, _⟩ := fly
        rw [e2] at h1
        cases h1
        exact absurd h3 (hd vs)
      · obtain ⟨o2, e2⟩ := u2.there a o z (by simp)
        have := cov a o2 e2 (.inr ⟨o, z⟩) nf
        rw [fly.2.1] at this
        cases this
  refine I.call' (H' := upd H' a (.ext (TyAt a d))) (s' := { s1 with heap := h' }) (ch := []) os ⟨u3.keep, u3.slot, fun b o e n hx => ?_, u3.there, fun b xs e => ?_, fun b o u e => ?_, fun b ps e => ?_⟩ (fun b u e => ?_) bare (fun b z => absurd z (by simp))
  · rw [upd_ne (fun z => by rw [z, na] at e; cases e)]
    exact u3.free b o e n hx
  · have := u3.tups b xs e
    rw [upd_ne (ne_of_none this ha)]
    exact this
  · have := u3.frzs b o u e
    rw [upd_ne (ne_of_none this ha)]
    exact this
  · obtain ⟨more, this⟩ := u3.tbls b ps e
    exact ⟨more, by rw [upd_ne (ne_of_none this ha)]; exact this⟩
  · by_cases z : b = a
    · subst z
      rw [upd_same] at e
      cases e
      obtain ⟨o, e1, e2⟩ := id hty
      exact ⟨hty, ⟨o, e1⟩, fun g1 g2 ⟨o', f1, f2⟩ k => ⟨o', k o' f1, f2⟩⟩
    · rw [upd_ne z] at e
      exact (hok3 b u e).stay (fun c v _ q => q) (fun c q => by rw [upd_ne (ne_of_none q ha)]; exact q) fun c xs q => by rw [upd_ne (ne_of_none q ha)]; exact q
/-! ### the suite -/
abbrev suX (X : Cx) (a : Addr) : Cx := { X with A := X.A.mark (some (.ref a)), calm := false, xe := fun _ _ => False }
theorem Inv.toS (I : Inv X pins σ H s) (a : Addr) : Inv (suX X a) pins σ H s :=
  have ok := I.ok
  ⟨⟨ok.mod, ok.kind, ok.glob, ok.blt, ok.above, ok.inj, ok.has, ok.cab, fun z => (by cases z), ok.frames, ok.stk, ok.exf, ok.bs, ok.bsz, ok.noex, ok.exfs, ok.funs, ok.frf⟩, I.os, I.bare, I.base, I.loc, I.cell, I.free, I.freeC, I.pin, I.hok, I.len⟩
theorem Inv.ofS {a : Addr} {σ' : St} {s' : Shared} {p' : List (Addr × Obj)} {H'' : Hp} (ok : X.Ok) (I : Inv (suX X a) p' σ' H'' s') : Inv X p' σ' H'' s' := ⟨ok, I.os, I.bare, I.base, I.loc, I.cell, I.free, I.freeC, I.pin, I.hok, I.len⟩
/-! ### an expression that may raise, at known names -/
def XP (X : Cx) (pins : List (Addr × Obj)) (σ : St) (E : XK) (e : Value) (s' : Shared) : Prop := ∃ H2 s2, Inv X pins σ H2 s2 ∧ CXE X.prog X.w X.stack H2 s2 E e s'
def PX (X : Cx) (e : Expr) (t : XK → TE) : Prop := ∀ (pins : List (Addr × Obj)) (s : Shared) (σ : St) (H : Hp) (Q : VK) (E : XK), Inv X pins σ H s → t E σ H Q → wpAny (model X.prog X.w) X.A (eval e X.env) (EP X pins σ Q) (XP X pins σ E) s
theorem run_fnX {k : Nat} {f : Addr} {fd : FuncData} {ps : List Str} {sp : Sp} {E : XK} {Q : VK} {us : List Value} {vs : List V} (F : FnOk X.prog X.w X.K X.mg X.base (CXE X.prog X.w) k f fd ps sp) (hr : Room k X.A) (hb : Binds X.K fd ps []) (I : Inv X pins σ H s) (r : Vals vs us)
    (h : sp (vs ++ []) H Q E) : wpAny (model X.prog X.w) X.A (call (.ref f) us) (EP X pins σ Q) (XP X pins σ E) s := by
  rw [List.append_nil] at h
  have hl : (us ++ []).length = ps.length := by rw [List.append_nil, ← r.length]; exact F.len _ _ _ _ h
  have hb1 := hb s us I.kIn hl
  rw [List.append_nil] at hb1
  refine wpAny_call (codeAny_mono (F.run X.A X.stack s H ⟨us, []⟩ us vs Q E hr I.env0 hb1 r h) fun rs s' hq => ?_)
  cases rs with
  | error e => exact ⟨H, s, I, hq⟩
  | ok fl =>
    cases fl with
    | ret u => exact I.after hq
    | next => exact False.elim hq
    | brk => exact False.elim hq
    | cont => exact False.elim hq
theorem run_makeX {k : Nat} {f C : Addr} {fd : FuncData} {ps : List Str} {sp : Sp} {E : XK} {Q : VK} {us : List Value} {vs : List V} (M : Mk X.K C f) (F : FnOk X.prog X.w X.K X.mg X.base (CXE X.prog X.w) k f fd ps sp) (hr : Room (k + 1) X.A) (hb : Binds X.K fd ps []) (I : Inv X pins σ H s) (r : Vals vs us)
    (h : ∀ x dx, H x = none → H dx = none → dx ≠ x → sp (.ref x :: (vs ++ [])) (upd (upd H dx (.own x)) x (.ins C dx [])) (fun v H2 => v = .non ∧ Q (.ref x) H2) E) :
    wpAny (model X.prog X.w) X.A (call (.ref C) us) (EP X pins σ Q) (XP X pins σ E) s := by
  have hq := h (s.heap.objs.size + 1) s.heap.objs.size (I.hok.fresh (Nat.le_succ _)) (I.hok.fresh (Nat.le_refl _)) (Nat.ne_of_lt (Nat.lt_succ_self _))
  have I2 := Inv.made (C := C) I
  have r2 : Vals (V.ref (s.heap.objs.size + 1) :: (vs ++ [])) (Value.ref (s.heap.objs.size + 1) :: (us ++ [])) := .cons rfl (r.append .nil)
  have hl : (Value.ref (s.heap.objs.size + 1) :: us ++ []).length = ps.length := by
    have e := r2.length
    rw [F.len _ _ _ _ hq] at e
    exact e.symm
  have hb1 := hb _ (Value.ref (s.heap.objs.size + 1) :: us) I2.kIn hl
  rw [List.cons_append] at hb1
  refine wpAny_call (make_map (f := f) I.kIn M.makes M.init (beq_iff_eq.mp M.fn) (codeAny_mono (F.run _ X.stack _ _ ⟨Value.ref (s.heap.objs.size + 1) :: us, []⟩ (Value.ref (s.heap.objs.size + 1) :: (us ++ [])) _ _ E (hr.make C us [])
    (I2.env0.make C us []) hb1 r2 hq) fun rs s' hq' => ?_))
  cases rs with
  | error e => exact ⟨_, _, I2, hq'⟩
  | ok fl =>
    cases fl with
    | ret u =>
      obtain ⟨v, H', I3, rv, ev, q3⟩ := I2.after hq'
      subst ev
      exact ⟨rv, ⟨V.ref (s.heap.objs.size + 1), H', I3, rfl, q3⟩⟩
    | next => exact False.elim hq'
    | brk => exact False.elim hq'
    | cont => exact False.elim hq'
end
section
variable {X : Cx} {k : Nat} {f C : Addr} {fd : FuncData} {ps : List Str} {sp : Sp} {x : Str} {p pos : Pos} {e : Expr} {es : List Expr} {t : TA}
theorem PA.wish {A0 : List Expr} (ha : PA X.nox A0 t) (pins : List (Addr × Obj)) (pos : Pos) (s : Shared) (σ : St) (H : Hp) (Q : List V → Hp → Prop) (Z : Value → Shared → Prop) (I : Inv X pins σ H s) (h : t σ H Q) : wpAny (model X.prog X.w) X.A (spliced (backTo pos (starEach A0 X.env))) (AP X pins σ Q) Z s :=
  wpAny_mono (ha pos pins s σ H Q (I.wish _) h) (fun _ _ ⟨vs, H1, I1, r, q⟩ => ⟨vs, H1, I1.unwish, r, q⟩) fun _ _ z => False.elim z
theorem px_call (F : FnOk X.prog X.w X.K X.mg X.base (CXE X.prog X.w) k f fd ps sp) (hr : Room k X.A) (hg : Gl X x) (hm : X.mg x = some (.ref f)) (hk : PySem.W.keepIn X.K (.ref f) = true) (hb : Binds X.K fd ps []) (ha : PA X.nox (e :: es) t) (hdb : (x == ("__debug__" : Str)) = false) (hs : (e :: es).any isStar = false) :
    PX X (.Call (.Name x p) (e :: es) [] pos) (fun E => tCall sp [] E t) := by
  intro pins s σ H Q E I h
  rw [List.any_cons, Bool.or_eq_false_iff] at hs
  refine wpAny_Call_Name_kw (ld_glob I hg hm ?_ hdb)
  refine PySem.W.callWith_K (h₀ := X.base) I.ok.mod.kin hk (thn (PA.wish ha pins pos s σ H _ _ I h) fun us s1 ⟨vs, H1, I1, r, q⟩ => ⟨I1.kIn, ?_⟩) (star_cons hs.1) (stars_none hs.2).1
  exact run_fnX F hr hb I1 r q
theorem px_make (M : Mk X.K C f) (F : FnOk X.prog X.w X.K X.mg X.base (CXE X.prog X.w) k f fd ps sp) (hr : Room (k + 1) X.A) (hg : Gl X x) (hm : X.mg x = some (.ref C)) (hb : Binds X.K fd ps []) (ha : PA X.nox (e :: es) t) (hdb : (x == ("__debug__" : Str)) = false) (hs : (e :: es).any isStar = false) :
    PX X (.Call (.Name x p) (e :: es) [] pos) (fun E => tMake C sp [] E t) := by
  intro pins s σ H Q E I h
  rw [List.any_cons, Bool.or_eq_false_iff] at hs
  refine wpAny_Call_Name_kw (ld_glob I hg hm ?_ hdb)
  refine PySem.W.callWith_K (h₀ := X.base) I.ok.mod.kin M.kp (thn (PA.wish ha pins pos s σ H _ _ I h) fun us s1 ⟨vs, H1, I1, r, q⟩ => ⟨I1.kIn, ?_⟩) (star_cons hs.1) (stars_none hs.2).1
  exact run_makeX M F hr hb I1 r q
end
/-! ### try: f(..) except C as n: .. -/
def tTry (te : XK → TE) (hit : List (Addr × Addr)) (cx : Addr) (i : Nat) (ts : TS) : TS := fun D σ H =>
  te (fun cls _ H' => ∃ d, cls = .ref d ∧ (d, cx) ∈ hit ∧ ∀ a, H' a = none → ts { nx := fun σ2 H2 => D.nx (σ2.set i none) H2, rt := D.rt, bk := fun σ2 H2 => D.bk (σ2.set i none) H2, ct := fun σ2 H2 => D.ct (σ2.set i none) H2 } (σ.set i (some (.ref a))) (upd H' a (.ext (TyAt a d)))) σ H fun _ H1 => D.nx σ H1
/-- a statement that may raise -/
def PSX (X : Cx) (st : Stmt) (t : XK → TS) : Prop := ∀ (pins : List (Addr × Obj)) (s : Shared) (σ : St) (H : Hp) (D : Ends) (E : XK), Inv X pins σ H s → t E D σ H → wpAny (model X.prog X.w) X.A (exec st X.env) (SP X pins D) (XP X pins σ E) s
theorem psx_expr {X : Cx} {e : Expr} {te : XK → TE} {pos : Pos} (he : PX X e te) (hs : swapsWith e none pos.line X.env = pure false) : PSX X (.Expr e pos) (fun E => tDrop (te E)) := fun pins s σ H D E I h =>
  wpAny_Expr_any (thn (he pins s σ H _ E I h) fun v s1 ⟨x, H1, I1, r1, q1⟩ => ⟨σ, H1, I1, q1⟩) I.quiet hs
theorem psx_ret {X : Cx} {e : Expr} {te : XK → TE} {pos : Pos} (he : PX X e te) : PSX X (.Return (some e) pos) (fun E => tRet (te E)) := fun pins s σ H D E I h =>
  wpAny_Return_some (thn (he pins s σ H _ E I h) fun v s1 ⟨x, H1, I1, r1, q1⟩ => ⟨x, σ, H1, I1, r1, q1⟩)
theorem psx_set {X : Cx} {i : Nat} {x : Str} {e : Expr} {te : XK → TE} {pos pos' : Pos} (hN : X.N.Nodup) (hi : X.N[i]? = some x) (hx : X.env.scope.names.lookup x = some .local) (he : PX X e te) (hs : swapsWith e (some (.Name x pos')) pos.line X.env = pure false) : PSX X (.Assign [.Name x pos'] e pos) (fun E => tAsg (te E) (gName i)) := fun pins s σ H D E I h =>
  wpAny_Assign_Name (thn (he pins s σ H _ E I h) fun v s1 ⟨y, H1, I1, r1, q1⟩ => store_ok I1 hN hi (.inl hx) r1 (fun s2 I2 => ⟨_, H1, I2, q1⟩) (.inr hx)) hs
def tTryS (t0 : XK → TS) (hit : List (Addr × Addr)) (cx : Addr) (i : Nat) (ts : TS) : TS := fun D σ H =>
  t0 (fun cls _ H' => ∃ d, cls = .ref d ∧ (d, cx) ∈ hit ∧ ∀ a, H' a = none → ts { nx := fun σ2 H2 => D.nx (σ2.set i none) H2, rt := D.rt, bk := fun σ2 H2 => D.bk (σ2.set i none) H2, ct := fun σ2 H2 => D.ct (σ2.set i none) H2 } (σ.set i (some (.ref a))) (upd H' a (.ext (TyAt a d)))) D σ H
theorem ps_tryS {X : Cx} {st : Stmt} {t0 : XK → TS} {x n : Str} {cx : Addr} {i : Nat} {b0 : Stmt} {suite : List Stmt} {ts : TS} {hit : List (Addr × Addr)} {xp hp pos : Pos} (he : PSX X st t0) (hst : X.stack = X.env :: X.outer) (hfr : X.env.frame = some X.env.locals)
    (hg : Gl X x) (hm : X.mg x = some (.ref cx)) (hd : (x == ("__debug__" : Str)) = false) (hN : X.N.Nodup) (hi : X.N[i]? = some n) (hl : X.env.scope.names.lookup n = some .local)
    (hh : ∀ p ∈ hit, PySem.W.exmOne X.K (.ref p.1) (.ref p.2) = some true) (hs : ∀ a, PSs (suX X a) (b0 :: suite) ts) :
    PS X (.Try [st] [.ExceptHandler (some (.Name x xp)) (some n) (b0 :: suite) hp] [] [] pos) (tTryS t0 hit cx i ts) := by
  intro pins s σ H D I h
  refine wpAny_Try_except (wpAny_execs_cons (wpAny_mono (he pins s σ H _ _ I h) (fun f s1 q1 => ?_) fun e s1 hx => ?_))
  · cases f with
    | next => exact wpAny_execs_nil (wpAny_execs_nil q1)
    | _ => exact q1
  · obtain ⟨H2, s2, I2, a, cls, H', rfl, os, bare, un, hok, ⟨ha, B, a0, fly, cov⟩, d, rfl, hhit, q⟩ := hx
    have iN : i < σ.length := by rw [I2.len]; exact (List.getElem?_eq_some_iff.mp hi).1
    have fly' := fly
    rw [hst] at fly'
    refine wpAny_looks_onW (by rw [I2.ok.frames, hst]) hfr fly' fun h4 held up4 => ?_
    refine wpAny_landsW held fun h5 fly5 up5 => ?_
    rw [← hst] at fly5
    have up := up4.trans up5
    have I5 := fly_track I2 (s1 := s1) os bare un hok cov fly5 up ha
    have ty5 : TyAt a d h5 := fly5.there
    refine PySem.wpAny_handleBy_cons (codeAny_handlers_test (ld_glob (X := suX X a) (Inv.toS I5 a) hg hm ?_ hd)) (by intro z; cases z)
    have L := PySem.W.exm_one (M := model X.prog X.w) (h := h5) I5.kIn ty5.look (hh _ hhit)
    refine L.at ?_
    refine codeAny_handlers_suite_as ?_
    refine lands_againW fly5 fun h6 fly6 up6 => ?_
    have I6 := fly_track I2 (s1 := s1) os bare un hok cov fly6 (up.trans up6) ha
    refine store_ok (X := suX X a) (Inv.toS I6 a) hN hi (.inl hl) (v := .ref a) rfl (fun s7 I7 => ?_) (.inr hl)
    refine wpAny_mono (hs a pins s7 _ _ _ I7 (q a ha)) (fun fl s8 hq => ?_) fun _ _ z => False.elim z
    have out : ∀ {σ8 : St} {H8 : Hp}, Inv (suX X a) pins σ8 H8 s8 → ∀ (R : Shared → Prop), (∀ s9, Inv X pins (σ8.set i none) H8 s9 → R s9) → wpAny (model X.prog X.w) X.A (do bindName X.env n .none; unbindBehindTheSuite X.env n hp) (fun _ s9 => R s9) X.xe s8 := fun {σ8 H8} I8 R hR => by
      have I8' := Inv.ofS I2.ok I8
      have l8 : i < σ8.length := by rw [I8'.len]; exact (List.getElem?_eq_some_iff.mp hi).1
      refine wpAny_bind (wpAny_bindName (store_ok I8' hN hi (.inl hl) (v := .non) rfl (fun s9 I9 => ?_) (.inr hl)))
      unfold unbindBehindTheSuite
      refine wpAny_onRaise (wpAny_mono (del_ok (v := .non) I9 hN hi hl (by rw [List.getElem?_set_self l8]) fun s10 I10 => hR s10 (by rw [List.set_set] at I10; exact I10)) (fun _ _ z => z) fun _ _ z => z)
    cases fl with
    | next =>
      obtain ⟨σ8, H8, I8, q8⟩ := hq
      exact out I8 _ fun s9 I9 => ⟨_, H8, I9, q8⟩
    | brk =>
      obtain ⟨σ8, H8, I8, q8⟩ := hq
      exact out I8 _ fun s9 I9 => ⟨_, H8, I9, q8⟩
    | cont =>
      obtain ⟨σ8, H8, I8, q8⟩ := hq
      exact out I8 _ fun s9 I9 => ⟨_, H8, I9, q8⟩
    | ret u =>
      obtain ⟨v, σ8, H8, I8, r8, q8⟩ := hq
      exact out I8 _ fun s9 I9 => ⟨v, _, H8, I9, r8, q8⟩
end Tv

set_option Elab.async false
set_option linter.all false
set_option maxRecDepth 100000
set_option maxHeartbeats 4000000
namespace Tv
open PySem PySem.Spec PyProof.Rows L2
section
variable {X : Cx} {tg : Expr}
/-! ### what is walked -/
def ItR (X : Cx) (tg : Expr) (r : V → Hp → (It → Hp → Th → Prop) → Prop) : Prop :=
  ∀ (pins : List (Addr × Obj)) (s : Shared) (σ : St) (H : Hp) (x : V) (v : Value) (R : It → Hp → Th → Prop), Inv X pins σ H s → RelV x v → r x H R → wpAny (model X.prog X.w) X.A (pyIter v) (PIE2 X pins σ tg R) X.xe s
@[irreducible] def iterG (x : V) (H : Hp) (R : It → Hp → Th → Prop) : Prop := match x with
  | .str z => R (Its z) H none
  | .ref a => match H a with
    | some (.lst _) => R (Itl0 a) H none
    | some (.tup _) => R (Itt0 a) H none
    | some (.dK kvs) => ∀ o, R (Itd a o kvs) (upd H a (.frz o (.dK kvs))) (some (a, .dK kvs))
    | some (.frz o (.dK kvs)) => R (Itd a o kvs) H none
    | _ => False
  | _ => False
theorem no_th {X : Cx} : ∀ a u, (none : Th) = some (a, u) → NF X a := fun _ _ e => by cases e
theorem it_dict {pins : List (Addr × Obj)} {s : Shared} {σ : St} {H : Hp} {R : It → Hp → Th → Prop} {a : Addr} {o : Obj} {kvs : List (Key × V)} {th : Th} (nf : ∀ a u, th = some (a, u) → NF X a) (I : Inv X pins σ H s) (e : H a = some (.frz o (.dK kvs))) (h : R (Itd a o kvs) H th) : wpAny (model X.prog X.w) X.A (pyIter (.ref a)) (PIE2 X pins σ tg R) X.xe s := by
  obtain ⟨lo, _, eo, vs, ep, r, d⟩ := frz_at I e
  refine wpAny_pyIter_dict lo d ⟨th, nf, s.heap.objs.size, [s.heap.objs.size], _, Itd a o kvs, H, rfl, I.kept (t' := s.toks) fun b o e => Heap.get?_push_of_some _ e, turn_dict s.heap.objs.size a o r (dict_const eo d), ⟨_, Heap.get?_push_size _ rfl, rfl, rfl⟩, fun b hb => ?_, h⟩
  have e : b = s.heap.objs.size := by simpa using hb
  subst e
  exact I.fpOk (Nat.le_refl _) (I.hok.fresh (Nat.le_refl _))
theorem it_G : ItR X tg iterG := fun pins s σ H x v R I r h => by
  unfold iterG at h
  split at h
  · rename_i z
    obtain ⟨t, rfl⟩ := r
    have fin : ∀ (o : Obj) (ty : String), ty = "str_ascii_iterator" ∨ ty = "str_iterator" → (s.heap.push o).IsStrIter s.heap.objs.size ty z t 0 → PIE2 X pins σ tg R (.ref s.heap.objs.size) { s with heap := s.heap.push o } := fun o ty hty st => by
      refine ⟨none, no_th, s.heap.objs.size, [s.heap.objs.size], _, Its z, H, rfl, I.kept (t' := s.toks) fun b o e => Heap.get?_push_of_some _ e, turn_str _ z t ty hty, st, fun b hb => ?_, h⟩
      have e : b = s.heap.objs.size := by simpa using hb
      subst e
      exact I.fpOk (Nat.le_refl _) (I.hok.fresh (Nat.le_refl _))
    cases ha : z.cps.all (· < 128)
    · exact wpAny_pyIter_wide ha (fin _ _ (.inr rfl) ⟨_, Heap.get?_push_size _ rfl, rfl, rfl⟩)
    · exact wpAny_pyIter_ascii ha (fin _ _ (.inl rfl) ⟨_, Heap.get?_push_size _ rfl, rfl, rfl⟩)
  · rename_i a
    cases r
    split at h
    · rename_i xs e
      obtain ⟨its, rv, p, hz⟩ := I.list (.inl (.inl e))
      refine wpAny_pyIter_list p.isList ⟨none, no_th, s.heap.objs.size, [s.heap.objs.size], _, Itl0 a, H, rfl, I.kept (t' := s.toks) fun b o e => Heap.get?_push_of_some _ e, (turn_list (K := X.K) a _).imp (fun i H ⟨xs, x, h1, h2⟩ => ⟨xs, x, .inl h1, h2⟩) (fun i H x H' _ ⟨h1, h2⟩ => ⟨h1, fun xs h => h2 xs (.inl h)⟩) (fun i H ⟨xs, h1, h2⟩ => ⟨xs, .inl h1, h2⟩), ⟨_, Heap.get?_push_size _ rfl, rfl, rfl⟩, fun b hb => ?_, h⟩
      have e : b = s.heap.objs.size := by simpa using hb
      subst e
      exact I.fpOk (Nat.le_refl _) (I.hok.fresh (Nat.le_refl _))
    · rename_i xs e
      obtain ⟨its, rv, p, hz⟩ := I.tuple (.inl (.inl e))
      refine wpAny_pyIter_tuple (show s.heap.IsTuple a its.toArray from p) ⟨none, no_th, s.heap.objs.size, [s.heap.objs.size], _, Itt0 a, H, rfl, I.kept (t' := s.toks) fun b o e => Heap.get?_push_of_some _ e, (turn_tuple (K := X.K) a _).imp (fun i H ⟨xs, x, h1, h2⟩ => ⟨xs, x, .inl h1, h2⟩) (fun i H x H' _ ⟨h1, h2⟩ => ⟨h1, fun xs h => h2 xs (.inl h)⟩) (fun i H ⟨xs, h1, h2⟩ => ⟨xs, .inl h1, h2⟩), ⟨_, Heap.get?_push_size _ rfl, rfl, rfl⟩, fun b hb => ?_, h⟩
      have e : b = s.heap.objs.size := by simpa using hb
      subst e
      exact I.fpOk (Nat.le_refl _) (I.hok.fresh (Nat.le_refl _))
    · rename_i kvs e
      obtain ⟨nf, o, eo, I'⟩ := inv_freeze I e rfl
      exact it_dict (th := some (a, .dK kvs)) (fun b u z => by cases z; exact nf) I' upd_same (h o)
    · rename_i o kvs e
      exact it_dict no_th I e h
    · exact h.elim
  · exact h.elim
def iOf (r : V → Hp → (It → Hp → Th → Prop) → Prop) (te : TE) : TI2 := fun σ H R => te σ H fun x H1 => r x H1 R
theorem pi_of {r : V → Hp → (It → Hp → Th → Prop) → Prop} {e : Expr} {te : TE} (hr : ItR X tg r) (he : PE X e te) : PI2 X tg e (iOf r te) := fun pins s σ H R I h =>
  thn (he pins s σ H _ I h) fun v s1 ⟨x, H1, I1, r1, q1⟩ => hr pins s1 σ H1 x v R I1 r1 q1
def xI2 : TI2 := fun _ _ _ => False
theorem pi2_x {e : Expr} : PI2 X tg e xI2 := fun _ _ _ _ _ _ h => h.elim
/-- range(a), range(a, b) -/
def rngG (vs : List V) (H : Hp) (R : It → Hp → Th → Prop) : Prop := match vs with
  | [.int j] => (-(2 ^ 62) ≤ j ∧ j < 2 ^ 62) ∧ R (Itr 0 j.toNat) H none
  | [.int i, .int j] => (-(2 ^ 62) ≤ i ∧ i < 2 ^ 62 ∧ -(2 ^ 62) ≤ j ∧ j < 2 ^ 62) ∧ R (Itr i (j - i).toNat) H none
  | _ => False
def iRngG (ta : TA) : TI2 := fun σ H R => ta σ H fun vs H1 => rngG vs H1 R
theorem pie_none {pins : List (Addr × Obj)} {σ : St} {R : It → Hp → Th → Prop} {v : Value} {s : Shared} (h : PIE X pins σ tg (fun J H => R J H none) v s) : PIE2 X pins σ tg R v s := ⟨none, no_th, h⟩
theorem pi_rng {e : Expr} {es : List Expr} {ta : TA} {p pos : Pos} (hg : Gl X "range") (hm : X.mg "range" = none) (ha : PA X (e :: es) ta) (hs : (e :: es).any isStar = false) : PI2 X tg (.Call (.Name "range" p) (e :: es) [] pos) (iRngG ta) := by
  rw [List.any_cons, Bool.or_eq_false_iff] at hs
  intro pins s σ H R I h
  refine Call_ (ld_blt I hg hm boot_range (PyProof.Rows.callWith_type1 (thn (ha pos pins s σ H _ I h) fun us s1 ⟨vs, H1, I1, r1, q1⟩ => ?_) (star_cons hs.1) (stars_none hs.2).1))
  have q1 : rngG vs H1 R := q1
  unfold rngG at q1
  split at q1
  · obtain ⟨⟨h1, h2⟩, q⟩ := q1
    obtain ⟨u, rfl, ru⟩ := vals1 r1
    obtain ⟨t, rfl⟩ := ru
    exact call_range_1 (thn (range_it (tg := tg) (R := fun J H => R J H none) I1 (by omega) (by omega) h1 h2 (by simpa using q)) fun _ _ z => pie_none z)
  · obtain ⟨⟨h1, h2, h3, h4⟩, q⟩ := q1
    obtain ⟨u, u2, rfl, ru, ru2⟩ := vals2 r1
    obtain ⟨t, rfl⟩ := ru
    obtain ⟨t', rfl⟩ := ru2
    exact call_range_2 (thn (range_it (tg := tg) (R := fun J H => R J H none) I1 h1 h2 h3 h4 q) fun _ _ z => pie_none z)
  · exact q1.elim
/-- d.items(), walked by a tuple of names -/
@[irreducible] def itemsG (x : V) (H : Hp) (R : It → Hp → Th → Prop) : Prop := match x with
  | .ref a => match H a with
    | some (.dK kvs) => ∀ o, R (Itp a o kvs) (upd H a (.frz o (.dK kvs))) (some (a, .dK kvs))
    | some (.frz o (.dK kvs)) => R (Itp a o kvs) H none
    | _ => False
  | _ => False
theorem it_items {es : List Expr} {k1 : Nat} {tp : Pos} {pins : List (Addr × Obj)} {s : Shared} {σ : St} {H : Hp} {R : It → Hp → Th → Prop} {a v : Addr} {o : Obj} {kvs : List (Key × V)} {th : Th} (nf : ∀ a u, th = some (a, u) → NF X a) (I : Inv X pins σ H s) (e : H a = some (.frz o (.dK kvs))) (hv : s.heap.IsItemsView v a) (h : R (Itp a o kvs) H th) : wpAny (model X.prog X.w) X.A (pyIter (.ref v)) (PIE2 X pins σ (.Tuple es k1 tp) R) X.xe s := by
  obtain ⟨lo, _, eo, vs, ep, r, d⟩ := frz_at I e
  refine wpAny_pyIter_items hv d ⟨th, nf, s.heap.objs.size, [s.heap.objs.size], _, Itp a o kvs, H, rfl, I.kept (t' := s.toks) fun b o e => Heap.get?_push_of_some _ e, turn_items s.heap.objs.size a o r (dict_const eo d), ⟨.none, .none, Heap.get?_push_size _ rfl⟩, fun b hb => ?_, h⟩
  have e : b = s.heap.objs.size := by simpa using hb
  subst e
  exact I.fpOk (Nat.le_refl _) (I.hok.fresh (Nat.le_refl _))
theorem pi_items {d : Expr} {td : TE} {es : List Expr} {k1 : Nat} {tp apos cpos : Pos} (hd : PE X d td) (hb : notSuper d = true) (hline : (apos.endLine == cpos.line) = true) : PI2 X (.Tuple es k1 tp) (.Call (.Attribute d "items" apos) [] [] cpos) (iOf itemsG td) := by
  intro pins s σ H R I h
  refine wpAny_Call_method0_late (base_of hb) hline (thn (hd pins s σ H _ I h) fun v s1 ⟨x, H1, I1, r1, q1⟩ => ?_)
  replace q1 : itemsG x H1 R := q1
  have go : ∀ a : Addr, x = .ref a → (∃ kvs, Rd H1 a (.dK kvs)) → (∀ s2, Inv X pins σ H1 s2 → s2.heap.IsItemsView s1.heap.objs.size a → wpAny (model X.prog X.w) X.A (pyIter (.ref s1.heap.objs.size)) (PIE2 X pins σ (.Tuple es k1 tp) R) X.xe s2) →
      ∃ T id, PlainAttrs T ∧ Slot T "items" id ∧ typeOf (.builtin id) = pure (.type "method_descriptor") ∧ s1.TypeIs v T ∧ (∀ a, v = .ref a → ∃ ob, s1.heap.get? a = some ob ∧ ob.dict = none) ∧
        wpAny (model X.prog X.w) X.A (callWith cpos (.builtin id) [v] (backTo cpos (starEach [] X.env)) (backToKw cpos (keywordEach [] X.env))) (fun v s1 => wpAny (model X.prog X.w) X.A (pyIter v) (PIE2 X pins σ (.Tuple es k1 tp) R) X.xe s1) X.xe s1 := fun a ea hk next => by
    subst ea
    cases r1
    obtain ⟨kvs, hk⟩ := hk
    obtain ⟨ty, nd, lo⟩ := isD_at I1 (.inl ⟨kvs, hk⟩)
    obtain ⟨z, _, vs, r, dd⟩ := dk_rd I1.hok hk
    refine ⟨"dict", "dict.items", PySem.F.plainAttrs_dict, PySem.F.slot_dict_items, PySem.F.type_dict_items, ty, nd, Calls.callWith_builtin rfl (PySem.evalArgs_none ?_)⟩
    refine call_meetsIn PySem.F.slot_dict_items ty PySem.F.entry_dict_items (PySem.F.args_dict_items_1 _) (meets_dict_items (mixKind X.prog X.w) a lo) ⟨⟨vs, dd⟩, ?_⟩
    exact next _ (I1.kept (t' := s1.toks) fun b o e => Heap.get?_push_of_some _ e) ⟨_, Heap.get?_push_size _ rfl, rfl, rfl⟩
  unfold itemsG at q1
  split at q1
  · rename_i a
    split at q1
    · rename_i kvs e
      refine go a rfl ⟨kvs, .inl e⟩ fun s2 I2 hv => ?_
      obtain ⟨nf, o, eo, I'⟩ := inv_freeze I2 e rfl
      exact it_items (th := some (a, .dK kvs)) (fun b u z => by cases z; exact nf) I' upd_same hv (q1 o)
    · rename_i o kvs e
      exact go a rfl ⟨kvs, .inr ⟨o, e⟩⟩ fun s2 I2 hv => it_items no_th I2 e hv q1
    · exact q1.elim
  · exact q1.elim
/-! ### the configuration: what is known of names -/
structure Cfg where
  K : PySem.W.Frag
  N : List Str
  names : List (Str × NameKind)
  fns : List (Str × Sp)
  mks : List (Str × Addr × Sp)
  mts : List (Str × Addr × Sp)
  fld : List (Str × Addr)
  glo : List (Str × V)
  nog : List Str
  scr : List Str
  E : XK
  fvs : List (Addr × Sp)
  ics : List Addr
  exs : List (Str × Addr)
  kit : List (Addr × V × Bool)
  hit : List (Addr × Addr)
  top : Bool
/-- an own class whose instances isinstance knows -/
structure IsC (K : PySem.W.Frag) (C : Addr) : Prop where
  cl : Cls K C
  ha : PySem.W.findIn K (.ref C) "__class__" = some (some (.builtin "object.__class__"))
  hn : PySem.W.specialIn K (.builtin "object.__class__") "__get__" = some (some (.builtin "getset_descriptor.__get__"))
  tk : PySem.W.takesIn K (.builtin "object.__class__") = some true
  hm : PySem.W.mroIn K C (.type "object") = some true
@[irreducible] def isiC (ics : List Addr) : List V → Hp → VK → Prop := fun xs H Q => match xs with
  | [.ref a, .ref c] => match H a with
    | some (.ins C _ _) => C = c ∧ c ∈ ics ∧ Q (.bl true) H
    | _ => False
  | _ => False
theorem call_isiC {X : Cx} {ics : List Addr} (hi : ∀ c ∈ ics, IsC X.K c) : CallR X (.builtin "isinstance") (isiC ics) := fun pins s σ H xs us Q I r h => by
  unfold isiC at h
  split at h
  · split at h
    · rename_i a c _ C dx fs ea
      obtain ⟨rfl, hc, q⟩ := h
      obtain ⟨u, w', rfl, ru, rw'⟩ := vals2 r
      cases rw'
      have ic := hi _ hc
      exact isinst_ok I ru (.ins ea ic.cl ic.ha ic.hn ic.tk ic.hm) (by unfold PySem.W.kitOne; simp) fun tk => ⟨.bl true, H, I.tok tk, rfl, q⟩
    · exact h.elim
  · exact h.elim
/-- isinstance(e, C) of a caught exception -/
@[irreducible] def isiX (kit : List (Addr × V × Bool)) : List V → Hp → VK → Prop := fun xs H Q => ∃ (a d : Addr) (c : V) (b : Bool), xs = [.ref a, c] ∧ H a = some (.ext (TyAt a d)) ∧ (d, c, b) ∈ kit ∧ Q (.bl b) H
def KitOk (K : PySem.W.Frag) (kit : List (Addr × V × Bool)) : Prop := ∀ p ∈ kit, ExcC K p.1 ∧ ∀ u, RelV p.2.1 u → PySem.W.kitOne K (.ref p.1) u = some p.2.2
theorem call_isiX {X : Cx} {kit : List (Addr × V × Bool)} (hk : KitOk X.K kit) : CallR X (.builtin "isinstance") (isiX kit) := fun pins s σ H xs us Q I r h => by
  unfold isiX at h
  obtain ⟨a, d, c, b, rfl, ea, hm, q⟩ := h
  obtain ⟨u, w', rfl, ru, rw'⟩ := vals2 r
  cases ru
  obtain ⟨ec, hk1⟩ := hk _ hm
  obtain ⟨ty, _⟩ := I.hok a _ ea
  exact isi_exc I.kIn ty ec (hk1 w' rw') fun tk => ⟨.bl b, H, I.tok tk, rfl, q⟩
/-- the part that a suite needs, too -/
structure FitsN (X : Cx) (C : Cfg) : Prop where
  N : X.N = C.N
  nd : C.N.Nodup
  names : X.env.scope.names = C.names
  glo : ∀ x v, C.glo.lookup x = some v → ∃ u, X.mg x = some u ∧ RelV v u
  nog : ∀ x ∈ C.nog, X.mg x = none
  kit : KitOk X.K C.kit
/-- what a context must have for it -/
structure Fits (CX : CXT) (k : Nat) (X : Cx) (C : Cfg) : Prop where
  K : X.K = C.K
  N : X.N = C.N
  nd : C.N.Nodup
  names : X.env.scope.names = C.names
  kind : X.env.scope.kind = .function
  calm : X.calm = true
  room : Room (k + 1) X.A
  pass : Passes CX X C.E
  no : ∀ (o : List Env) (H : Hp) (s : Shared) (e : Value) (s' : Shared), CX o H s E0 e s' → False
  fns : ∀ x sp, C.fns.lookup x = some sp → ∃ f fd ps, FnOk X.prog X.w X.K X.mg X.base CX k f fd ps sp ∧ X.mg x = some (.ref f) ∧ PySem.W.keepIn X.K (.ref f) = true ∧ Binds X.K fd ps []
  mks : ∀ x cl sp, C.mks.lookup x = some (cl, sp) → ∃ f fd ps, Mk X.K cl f ∧ FnOk X.prog X.w X.K X.mg X.base CX k f fd ps sp ∧ X.mg x = some (.ref cl) ∧ Binds X.K fd ps []
  mts : ∀ m cl sp, C.mts.lookup m = some (cl, sp) → ∃ f fd ps, Cls X.K cl ∧ Meth X.K cl m f ∧ FnOk X.prog X.w X.K X.mg X.base CX k f fd ps sp ∧ Binds X.K fd ps []
  fld : ∀ f cl, C.fld.lookup f = some cl → Cls X.K cl ∧ NoAttr X.K cl f
  glo : ∀ x v, C.glo.lookup x = some v → ∃ u, X.mg x = some u ∧ RelV v u
  nog : ∀ x ∈ C.nog, X.mg x = none
  fvs : ∀ p ∈ C.fvs, ∃ fd ps, FnOk X.prog X.w X.K X.mg X.base CX k p.1 fd ps p.2 ∧ PySem.W.keepIn X.K (.ref p.1) = true ∧ Binds X.K fd ps []
  ics : ∀ c ∈ C.ics, IsC X.K c
  kit : KitOk X.K C.kit
  cxe : C.top = true → CX = CXE X.prog X.w ∧ X.stack = X.env :: X.outer ∧ X.env.frame = some X.env.locals
  hit : ∀ p ∈ C.hit, PySem.W.exmOne X.K (.ref p.1) (.ref p.2) = some true
  exs : ∀ x cl, C.exs.lookup x = some cl → X.mg x = some (.ref cl) ∧ ExcC X.K cl
  rse : ∀ (pins : List (Addr × Obj)) (σ : St) (H : Hp) (s : Shared) (a cl : Addr) (vs : List Value) (h1 : Heap), Inv X pins σ H s → Heap.MadeExcOf s.heap h1 a (.ref cl) vs → C.E (.ref cl) none H → X.xe (.ref a) { s with heap := h1 }
def okName (x : Str) : Bool := !(x == ("__debug__" : Str)) && !(x == ("__classdict__" : Str))
def nameG (C : Cfg) (x : Str) : TE := match okName x with
  | true => match C.names.lookup x with
    | some .globalImplicit => match C.glo.lookup x with
      | some v => tC v
      | none => match C.nog.contains x, tyName x with
        | true, some T => tC (.ty T)
        | _, _ => xE
    | some .local => match slotOf C.N x with
      | some i => gv i
      | none => xE
    | some .cell => match slotOf C.N x with
      | some i => gv i
      | none => xE
    | _ => xE
  | false => xE
section
variable {CX : CXT} {k : Nat} {C : Cfg}
theorem Fits.n (F : Fits CX k X C) : FitsN X C := ⟨F.N, F.nd, F.names, F.glo, F.nog, F.kit⟩
theorem pe_nameN (F : FitsN X C) (x : Str) (pos : Pos) : PE X (.Name x pos) (nameG C x) := by
  unfold nameG
  split
  · rename_i ok
    simp only [okName, Bool.and_eq_true, Bool.not_eq_true'] at ok
    split
    · rename_i e
      have hg : Gl X x := by
        show X.env.scope.names.lookup x = _
        rw [F.names]
        exact e
      split
      · rename_i v ev
        obtain ⟨u, hm, r⟩ := F.glo x v ev
        exact pe_glob hg hm r ok.1
      · split
        · rename_i h1 h2
          obtain ⟨b1, b2, b3⟩ := tyName_ok h2
          exact pe_bltn hg (F.nog x (by simpa using h1)) b1 rfl b2 b3
        · exact pe_x
    · rename_i e
      split
      · rename_i i ei
        exact pe_gv (by rw [F.N]; exact slotOf_get ei) (.inl (by rw [F.names]; exact e)) ok.1 ok.2
      · exact pe_x
    · rename_i e
      split
      · rename_i i ei
        exact pe_gv (by rw [F.N]; exact slotOf_get ei) (.inr (.inl (by rw [F.names]; exact e))) ok.1 ok.2
      · exact pe_x
    · exact pe_x
  · exact pe_x
theorem pe_nameG (F : Fits CX k X C) (x : Str) (pos : Pos) : PE X (.Name x pos) (nameG C x) := pe_nameN F.n x pos
end
end
end Tv

set_option Elab.async false
set_option linter.all false
set_option maxRecDepth 100000
set_option maxHeartbeats 4000000
namespace Tv
open PySem PySem.Spec PyProof.Rows L2
/-! ### the reading of a text, by its tree -/
structure W where
  E : Cfg → Expr → TE
  T : Cfg → Expr → TT
  S : Cfg → Stmt → TS
def wA (w : W) (C : Cfg) : List Expr → TA
  | [] => tNil
  | e :: es => match isStar e with
    | true => xA
    | false => tCons (w.E C e) (wA w C es)
def constG : Const → TE
  | .int i => tC (.int i)
  | .bool b => tC (.bl b)
  | .none => tC .non
  | .str x => tC (.str x)
  | _ => xE
def andG (w : W) (C : Cfg) : List Expr → TE
  | [] => xE
  | [a] => w.E C a
  | a :: r => tAndG (w.E C a) (andG w C r)
def orG (w : W) (C : Cfg) : List Expr → TE
  | [] => xE
  | [a] => w.E C a
  | a :: r => tOrG (w.E C a) (orG w C r)
def andB (w : W) (C : Cfg) : List Expr → TT
  | [] => xT
  | [a] => w.T C a
  | a :: r => tAndB (w.T C a) (andB w C r)
def orB (w : W) (C : Cfg) : List Expr → TT
  | [] => xT
  | [a] => w.T C a
  | a :: r => tOrB (w.T C a) (orB w C r)
def isSet : Expr → Bool
  | .Set _ _ _ => true
  | _ => false
def isSlice : Expr → Bool
  | .Slice _ _ _ _ => true
  | _ => false
def isComp : Expr → Bool
  | .ListComp _ _ _ _ => true
  | .SetComp _ _ _ _ => true
  | .DictComp _ _ _ _ _ => true
  | _ => false
def isScr (C : Cfg) : Expr → Bool
  | .Name x _ => C.scr.contains x
  | _ => false
def cmpE (w : W) (C : Cfg) (a : Expr) : List CmpOp → List Expr → TE
  | [op], [b] => match isSet b with
    | false => tOp (cmpG op) (w.E C a) (w.E C b)
    | true => xE
  | [op, op'], [b, c] => match isSet c with
    | false => chainG (cmpG op) (cmpG op') (w.E C a) (w.E C b) (w.E C c)
    | true => xE
  | _, _ => xE
/-- a slice's part -/
def partG (t : TE) : TO := fun σ H Q => t σ H fun x H1 => match x with
  | .int i => Q (some i) H1
  | _ => False
def poG (w : W) (C : Cfg) : Option Expr → TO
  | none => tNoPart
  | some e => partG (w.E C e)
@[irreducible] def slH (a : Addr) (lo hi : Option Int) (H : Hp) (Q : VK) : Prop := match H a with
  | some (.lst xs) => newO H (.lst (cutV xs lo hi)) Q
  | _ => False
def slG : V → Option Int → Option Int → Hp → VK → Prop := fun x lo hi H Q => match x with
  | .str z => z.length ≤ sizeLine ∧ Q (.str (Txt.slice z lo hi)) H
  | .ref a => slH a lo hi H Q
  | _ => False
/-- the script's length -/
def lenS (K : PySem.W.Frag) : List V → Hp → VK → Prop := fun xs H Q => ∃ p ys, xs = [.ref p] ∧ SqL K H p ys ∧ Q (.int ys.length) H
/-- f(..), f a variable -/
def tCallV (fvs : List (Addr × Sp)) (E : XK) (tf : TE) (ta : TA) : TE := fun σ H Q => tf σ H fun x H1 => ∃ p ∈ fvs, x = .ref p.1 ∧ ta σ H1 fun vs H2 => p.2 (vs ++ []) H2 Q E
/-- a class of one's own, under its name -/
def isOwn (C : Cfg) : List Expr → Bool
  | [.Name y _] => match C.glo.lookup y with
    | some (.ref _) => true
    | _ => false
  | _ => false
def callG (w : W) (C : Cfg) (x : Str) (es : List Expr) : TE := match okName x, C.names.lookup x, es.any isStar with
  | true, some .globalImplicit, false => match C.fns.lookup x with
    | some sp => tCall sp [] C.E (wA w C es)
    | none => match C.mks.lookup x with
      | some (cl, sp) => tMake cl sp [] C.E (wA w C es)
      | none => match C.nog.contains x, es with
        | true, e :: r => match bltF x with
          | some (i, rd) => match i == "len" && isScr C e && r.isEmpty with
            | true => tCB (lenS C.K) (wA w C (e :: r))
            | false => match i == "isinstance" && isOwn C r with
              | true => tCB (isiC C.ics) (wA w C (e :: r))
              | false => tCB rd (wA w C (e :: r))
          | none => match bltC x with
            | some (i, rd) => tCB rd (wA w C (e :: r))
            | none => xE
        | _, _ => xE
  | true, some .local, false => match es with
    | [] => xE
    | _ :: _ => tCallV C.fvs C.E (nameG C x) (wA w C es)
  | true, some .cell, false => match es with
    | [] => xE
    | _ :: _ => tCallV C.fvs C.E (nameG C x) (wA w C es)
  | _, _, _ => xE
def methG (w : W) (C : Cfg) (o : Expr) (m : Str) (apos cpos : Pos) (es : List Expr) : TE := match notSuper o, es.any isStar, decide (es.length < 29), (apos.endLine == cpos.line) with
  | true, false, true, true => match C.mts.lookup m with
    | some (cl, sp) => tMethG cl m sp C.E (w.E C o) (wA w C es)
    | none => tBmG m (w.E C o) (wA w C es)
  | _, _, _, _ => xE
/-- targets: names, tuples of names -/
def slotL (C : Cfg) (x : Str) : Option Nat := match C.names.lookup x with
  | some .local => slotOf C.N x
  | some .cell => slotOf C.N x
  | _ => none
def gNm (C : Cfg) (x : Str) : TG := match slotL C x with
  | some i => gName i
  | none => xG
def gNms (C : Cfg) : List Expr → TGs
  | [] => gNil
  | .Name x _ :: r => gCons (gNm C x) (gNms C r)
  | _ :: _ => fun _ _ _ _ => False
def wG (C : Cfg) : Expr → TG
  | .Name x _ => gNm C x
  | .Tuple ts _ _ => gTup0 ts.length (gNms C ts)
  | _ => xG
/-- what a loop or a comprehension walks -/
def isTup : Expr → Bool
  | .Tuple _ _ _ => true
  | _ => false
def wI (w : W) (C : Cfg) (tg : Expr) : Expr → TI2
  | .Call (.Name x _) (e :: es) [] _ => match decide (x = "range"), C.names.lookup x, C.nog.contains x, (e :: es).any isStar with
    | true, some .globalImplicit, true, false => iRngG (wA w C (e :: es))
    | true, _, _, _ => xI2
    | false, _, _, _ => iOf iterG (callG w C x (e :: es))
  | .Call (.Attribute d m apos) [] [] cpos => match isTup tg && decide (m = "items") && notSuper d && (apos.endLine == cpos.line) with
    | true => iOf itemsG (w.E C d)
    | false => iOf iterG (w.E C (.Call (.Attribute d m apos) [] [] cpos))
  | .Set _ _ _ => xI2
  | e => iOf iterG (w.E C e)
/-- the names that a comprehension takes from around it -/
def freeOf (C : Cfg) : List (Str × NameKind) → Option (List (Str × Nat))
  | [] => some []
  | (x, .free) :: r => match slotOf C.N x, C.names.lookup x, freeOf C r with
    | some j, some .cell, some l => some ((x, j) :: l)
    | _, _, _ => none
  | (_, .cell) :: _ => none
  | _ :: r => freeOf C r
def relN (C : Cfg) (names : List (Str × NameKind)) : List (Str × NameKind) := names.map fun (n, k) => if (k == NameKind.free && C.names.lookup n == some .cell) = true then (n, .cell) else (n, k)
def tgNames : Expr → Option (List Str)
  | .Name x _ => some [x]
  | .Tuple ts _ _ => ts.mapM fun e => match e with
    | .Name x _ => some x
    | _ => none
  | _ => none
def ifsG (w : W) (C : Cfg) : List Expr → TT
  | [] => tYes
  | [c] => w.T C c
  | _ => xT
/-- the names of a block once each, its targets local -/
def okBlock (tn : List Str) (fr : List (Str × Nat)) (names : List (Str × NameKind)) : Bool :=
  decide (tn ++ fr.map (·.1)).Nodup && (names.all fun y => names.lookup y.1 == some y.2) && tn.all fun x => names.lookup x == some .local
def inCfg (C : Cfg) (tn : List Str) (fr : List (Str × Nat)) (names : List (Str × NameKind)) : Cfg := { C with N := tn ++ fr.map (·.1), names := relN C names, E := E0, scr := [], top := false }
def compG (w : W) (C : Cfg) (elt : Expr) (gens : List Comprehension) (scope : Scope) : TE := match gens with
  | [⟨tg, it, ifs, 0⟩] => match tgNames tg, freeOf C scope.names, scope.kind, isSet it with
    | some tn, some fr, .function, false => match okBlock tn fr scope.names with
      | true => tCompI (wI w C tg it) tn fr (wG (inCfg C tn fr scope.names) tg) (ifsG w (inCfg C tn fr scope.names) ifs) (w.E (inCfg C tn fr scope.names) elt)
      | false => xE
    | _, _, _, _ => xE
  | _ => xE
def tLstG (t : TA) : TE := fun σ H Q => t σ H fun xs H1 => xs.length ≤ sizeLine ∧ newO H1 (.lst xs) Q
def tTupG (t : TA) : TE := fun σ H Q => t σ H fun xs H1 => xs.length ≤ sizeLine ∧ newO H1 (.tup xs) Q
/-- a slice of the script -/
def rSlS (K : PySem.W.Frag) : V → Option Int → Option Int → Hp → VK → Prop := fun x lo hi H Q => ∃ a xs, x = .ref a ∧ SqL K H a xs ∧ newO H (.lst (cutV xs lo hi)) Q
/-- {}: a dict of the kind that is wanted -/
def tDNew : TE := fun _ H Q => newO H (.dK []) Q ∨ newO H (.dT []) Q
def pairsG (w : W) (C : Cfg) : List (Option Expr) → List Expr → Option (List (TE × TE))
  | [], [] => some []
  | some k :: ks, v :: vs => match pairsG w C ks vs with
    | some l => some ((w.E C k, w.E C v) :: l)
    | none => none
  | _, _ => none
def dispG (w : W) (C : Cfg) (ks : List (Option Expr)) (vs : List Expr) : TE := match pairsG w C ks vs, decide (ks.length ≤ 15) with
  | some [], _ => tDNew
  | some l, true => tDisp l
  | _, _ => xE
def stepE (w : W) (C : Cfg) (e : Expr) : TE := match e with
  | .Constant c _ _ => constG c
  | .Name x _ => nameG C x
  | .BinOp a op b _ => tOp (binG op) (w.E C a) (w.E C b)
  | .UnaryOp .Not a _ => tNotG (w.E C a)
  | .UnaryOp .USub a _ => tUn negG (w.E C a)
  | .BoolOp .And es _ => andG w C es
  | .BoolOp .Or es _ => orG w C es
  | .Compare a ops bs _ => cmpE w C a ops bs
  | .IfExp c a b _ => tIfG (w.T C c) (w.E C a) (w.E C b)
  | .List es _ => tLstG (wA w C es)
  | .Tuple es _ _ => tTupG (wA w C es)
  | .Dict ks vs _ => dispG w C ks vs
  | .Subscript a (.Slice lo hi none _) _ => match isScr C a with
    | true => tSl (rSlS C.K) (w.E C a) (poG w C lo) (poG w C hi)
    | false => tSl slG (w.E C a) (poG w C lo) (poG w C hi)
  | .Subscript a b _ => match isSlice b, isScr C a with
    | false, true => tOp (rIxL C.K) (w.E C a) (w.E C b)
    | false, false => tOp getG (w.E C a) (w.E C b)
    | true, _ => xE
  | .Attribute o f _ => match C.fld.lookup f, notSuper o with
    | some cl, true => tFldG cl f (w.E C o)
    | _, _ => xE
  | .Call (.Name x _) es [] _ => callG w C x es
  | .Call (.Attribute o m apos) es [] cpos => methG w C o m apos cpos es
  | .ListComp elt gens scope _ => compG w C elt gens scope
  | _ => xE
def stepT (w : W) (C : Cfg) (e : Expr) : TT := match e with
  | .UnaryOp .Not a _ => tNot (w.T C a)
  | .UnaryOp _ _ _ => xT
  | .BoolOp .And es _ => andB w C es
  | .BoolOp .Or es _ => orB w C es
  | .IfExp _ _ _ _ => xT
  | .Compare a ops bs _ => bT (cmpE w C a ops bs)
  | e => ptG (stepE w C e)
def wSs (w : W) (C : Cfg) : List Stmt → TS
  | [] => tNext
  | [s] => w.S C s
  | s :: r => tSeq (w.S C s) (wSs w C r)
def sIf (c : TT) (t u : TS) : TS := fun D σ H => c σ H fun b H1 => br b (t D σ H1) (u D σ H1)
def isDoc : Expr → Bool
  | .Constant (.str _) _ _ => true
  | _ => false
/-- o.f = e -/
@[irreducible] def sfH (cl : Addr) (f : Str) (p : Addr) (y : V) (σ : St) (H2 : Hp) (N : St → Hp → Prop) : Prop := match H2 p with
  | some (.ins C dx fs) => C = cl ∧ fs.length < 1000 ∧ N σ (upd H2 p (.ins C dx (putF f y fs)))
  | _ => False
def sFldG (cl : Addr) (f : Str) (to te : TE) : TS := fun D σ H => te σ H fun y H1 => to σ H1 fun x H2 => match x with
  | .ref p => sfH cl f p y σ H2 D.nx
  | _ => False
def asgG (w : W) (C : Cfg) (tg e : Expr) : TS := match tg with
  | .Name x _ => match slotL C x with
    | some i => tAsg (w.E C e) (gName i)
    | none => xS
  | .Subscript o i _ => match isSlice i, isComp e with
    | false, false => tAsg (w.E C e) (gSub (w.E C o) (w.E C i) setG)
    | _, _ => xS
  | .Attribute o f _ => match C.fld.lookup f, isComp e with
    | some cl, false => sFldG cl f (w.E C o) (w.E C e)
    | _, _ => xS
  | .Tuple ts _ _ => match e, isComp e with
    | .Tuple _ _ _, _ => xS
    | _, false => tAsg (w.E C e) (gTup0 ts.length (gNms C ts))
    | _, _ => xS
  | _ => xS
/-- raise C(..), C an own class of exceptions -/
def raiseG (w : W) (C : Cfg) (x : Str) (es : List Expr) : TS := match okName x, C.names.lookup x, C.exs.lookup x, es.any isStar, es with
  | true, some .globalImplicit, some cl, false, _ :: _ => tRaise C.E cl (wA w C es)
  | _, _, _, _, _ => xS
/-! a suite under except: few words -/
def qIsi (w : W) (C : Cfg) (x : Str) (es : List Expr) : TE := match okName x, C.names.lookup x, decide (x = "isinstance"), C.nog.contains x, es.any isStar, es with
  | true, some .globalImplicit, true, true, false, e :: r => tCB (isiX C.kit) (wA w C (e :: r))
  | _, _, _, _, _, _ => xE
def stepQE (w : W) (C : Cfg) (e : Expr) : TE := match e with
  | .Constant c _ _ => constG c
  | .Name x _ => nameG C x
  | .BinOp a .Add b _ => tOp addG (w.E C a) (w.E C b)
  | .UnaryOp .Not a _ => tNotG (w.E C a)
  | .BoolOp .And es _ => andG w C es
  | .BoolOp .Or es _ => orG w C es
  | .List es _ => tLstG (wA w C es)
  | .Call (.Name x _) es [] _ => qIsi w C x es
  | _ => xE
def stepQT (w : W) (C : Cfg) (e : Expr) : TT := match e with
  | .UnaryOp .Not a _ => tNot (w.T C a)
  | .UnaryOp _ _ _ => xT
  | .BoolOp .And es _ => andB w C es
  | .BoolOp .Or es _ => orB w C es
  | .IfExp _ _ _ _ => xT
  | .Compare _ _ _ _ => xT
  | e => ptG (stepQE w C e)
def stepQS (w : W) (C : Cfg) (s : Stmt) : TS := match s with
  | .Assign [.Name x _] e _ => match slotL C x, C.names.lookup x, isComp e with
    | some i, some .local, false => tAsg (w.E C e) (gName i)
    | _, _, _ => xS
  | .Return (some e) _ => tRet (w.E C e)
  | .Pass _ => tNext
  | .If c a b _ => sIf (w.T C c) (wSs w C a) (wSs w C b)
  | _ => xS
def wq : Nat → W
  | 0 => ⟨fun _ _ => xE, fun _ _ => xT, fun _ _ => xS⟩
  | n + 1 => ⟨stepQE (wq n), stepQT (wq n), stepQS (wq n)⟩
/-- try: f(..) except C as n: .. -/
def tryC (w : W) (C : Cfg) (f : Str) (es : List Expr) : XK → TE := match okName f, C.names.lookup f, es.any isStar, es with
  | true, some .globalImplicit, false, e :: r => match C.fns.lookup f with
    | some sp => fun E => tCall sp [] E (wA w { C with E := E0 } (e :: r))
    | none => match C.mks.lookup f with
      | some (cl, sp) => fun E => tMake cl sp [] E (wA w { C with E := E0 } (e :: r))
      | none => fun _ => xE
  | _, _, _, _ => fun _ => xE
/-- try: x = f(..), try: return f(..) -/
def callOf : Expr → Option (Str × List Expr)
  | .Call (.Name f _) es [] _ => some (f, es)
  | _ => none
def hOf : List ExceptHandler → Option (Str × Str × List Stmt)
  | [.ExceptHandler (some (.Name x _)) (some n) su _] => some (x, n, su)
  | _ => none
def nameOf : List Expr → Option Str
  | [.Name y _] => some y
  | _ => none
def tryB (w : W) (C : Cfg) (st : Stmt) : XK → TS := match st with
  | .Expr e _ => match callOf e with
    | some (f, es) => fun E => tDrop (tryC w C f es E)
    | none => fun _ => xS
  | .Assign tg e _ => match callOf e, nameOf tg with
    | some (f, es), some y => match slotL C y, C.names.lookup y with
      | some i, some .local => fun E => tAsg (tryC w C f es E) (gName i)
      | _, _ => fun _ => xS
    | _, _ => fun _ => xS
  | .Return (some e) _ => match callOf e with
    | some (f, es) => fun E => tRet (tryC w C f es E)
    | none => fun _ => xS
  | _ => fun _ => xS
def tryT (w : W) (C : Cfg) (st : Stmt) (x n : Str) (su : List Stmt) : TS := match okName x, C.names.lookup x, C.exs.lookup x, slotL C n, C.names.lookup n, su, C.top with
  | true, some .globalImplicit, some cx, some i, some .local, b0 :: r, true => tTryS (tryB w C st) C.hit cx i (wSs (wq 20) C (b0 :: r))
  | _, _, _, _, _, _, _ => xS
def tryA (w : W) (C : Cfg) (body : List Stmt) (hs : List ExceptHandler) : TS := match hs with
  | [] => xS
  | h :: r => match hOf (h :: r), body, C.top with
    | some (x, n, su), [st], true => tryT w C st x n su
    | _, _, _ => wSs w { C with E := E0 } body
def raiseA (w : W) (C : Cfg) (e : Expr) : TS := match callOf e with
  | some (x, es) => raiseG w C x es
  | none => xS
def stepS (w : W) (C : Cfg) (s : Stmt) : TS := match s with
  | .Expr e _ => match isDoc e, isComp e with
    | true, _ => tNext
    | false, false => tDrop (w.E C e)
    | _, _ => xS
  | .Return (some e) _ => tRet (w.E C e)
  | .Return none _ => tRetN
  | .Pass _ => tNext
  | .If c a b _ => sIf (w.T C c) (wSs w C a) (wSs w C b)
  | .For tg it body [] _ => match isSet it with
    | false => sFor (wI w C tg it) (wG C tg) (wSs w C body)
    | true => xS
  | .Assign [tg] e _ => asgG w C tg e
  | .Raise (some e) none _ => raiseA w C e
  | .Try body hs [] [] _ => tryA w C body hs
  | _ => xS
def step (w : W) : W := ⟨stepE w, stepT w, stepS w⟩
def wp : Nat → W
  | 0 => ⟨fun _ _ => xE, fun _ _ => xT, fun _ _ => xS⟩
  | n + 1 => step (wp n)
end Tv

set_option Elab.async false
set_option linter.all false
set_option maxRecDepth 100000
set_option maxHeartbeats 4000000
namespace Tv
open PySem PySem.Spec PyProof.Rows L2
structure Snd (w : W) : Prop where
  E : ∀ {CX : CXT} {k : Nat} {X : Cx} {C : Cfg}, Fits CX k X C → ∀ e, PE X e (w.E C e)
  T : ∀ {CX : CXT} {k : Nat} {X : Cx} {C : Cfg}, Fits CX k X C → ∀ e, PT X e (w.T C e)
  A : ∀ {CX : CXT} {k : Nat} {X : Cx} {C : Cfg}, Fits CX k X C → (∀ x, X.fn x = true) → ∀ (x : Str) (i : Nat) (pos' pos : Pos) (e : Expr), slotL C x = some i → PS X (.Assign [.Name x pos'] e pos) (tAsg (w.E C e) (gName i))
  S : ∀ {CX : CXT} {k : Nat} {X : Cx} {C : Cfg}, Fits CX k X C → PassesOwn (model X.prog X.w) X.A X.env X.xe → (∀ x, X.fn x = true) → ∀ s, PS X s (w.S C s)
section
variable {CX : CXT} {k : Nat} {X : Cx} {C : Cfg} {w : W}
theorem wA_ok (hw : Snd w) (F : Fits CX k X C) : ∀ es, PA X es (wA w C es)
  | [] => pa_nil
  | e :: es => by
    unfold wA
    split
    · exact pa_x
    · rename_i h
      exact pa_cons (hw.E F e) (wA_ok hw F es) (star_cons h)
theorem constG_ok {j : Nat} {pos : Pos} : ∀ c, PE X (.Constant c j pos) (constG c)
  | .int _ => pe_int
  | .bool _ => pe_bl
  | .none => pe_non
  | .str _ => pe_str
  | .float _ => pe_x
  | .complex _ _ => pe_x
  | .bytes _ => pe_x
  | .ellipsis => pe_x
theorem andG_ok (hw : Snd w) (F : Fits CX k X C) {pos : Pos} : ∀ es, PE X (.BoolOp .And es pos) (andG w C es)
  | [] => pe_x
  | [a] => pe_one (hw.E F a)
  | a :: b :: r => pe_andG (hw.E F a) (andG_ok hw F (b :: r))
theorem orG_ok (hw : Snd w) (F : Fits CX k X C) {pos : Pos} : ∀ es, PE X (.BoolOp .Or es pos) (orG w C es)
  | [] => pe_x
  | [a] => pe_one (hw.E F a)
  | a :: b :: r => pe_orG (hw.E F a) (orG_ok hw F (b :: r))
theorem pw_x {e : Expr} : PW X e xT := fun _ _ _ _ _ _ _ h => h.elim
theorem andB_ok (hw : Snd w) (F : Fits CX k X C) {pos : Pos} : ∀ es, PW X (.BoolOp .And es pos) (andB w C es)
  | [] => pw_x
  | [a] => pw_and1 (hw.T F a)
  | a :: b :: r => pw_andB (hw.T F a) (andB_ok hw F (b :: r))
theorem orB_ok (hw : Snd w) (F : Fits CX k X C) {pos : Pos} : ∀ es, PW X (.BoolOp .Or es pos) (orB w C es)
  | [] => pw_x
  | [a] => pw_or1 (hw.T F a)
  | a :: b :: r => pw_orB (hw.T F a) (orB_ok hw F (b :: r))
theorem mark_of {op : CmpOp} {b : Expr} (h : isSet b = false) : behindInMarks op b = false := by
  cases b <;> first | rfl | cases h
theorem cmpE_ok (hw : Snd w) (F : Fits CX k X C) {a : Expr} {ops : List CmpOp} {bs : List Expr} {pos : Pos} : PE X (.Compare a ops bs pos) (cmpE w C a ops bs) := by
  unfold cmpE
  split
  · split
    · exact pe_cmpR (op_cmpG F.room _) (hw.E F _) (hw.E F _) (mark_of (by assumption))
    · exact pe_x
  · split
    · exact pe_chainG (op_cmpG F.room _) (op_cmpG F.room _) (hw.E F _) (hw.E F _) (hw.E F _) (mark_of (by assumption))
    · exact pe_x
  · exact pe_x
theorem pt_bx {e : Expr} : PT X e (bT xE) := fun _ _ _ _ _ _ h => h.elim
theorem cmpT_ok (hw : Snd w) (F : Fits CX k X C) {a : Expr} {ops : List CmpOp} {bs : List Expr} {pos : Pos} : PT X (.Compare a ops bs pos) (bT (cmpE w C a ops bs)) := by
  unfold cmpE
  split
  · split
    · exact pt_cmpG (op_cmpG F.room _) (hw.E F _) (hw.E F _) (mark_of (by assumption))
    · exact pt_bx
  · split
    · exact pt_chainG (op_cmpG F.room _) (op_cmpG F.room _) (hw.E F _) (hw.E F _) (hw.E F _) (mark_of (by assumption))
    · exact pt_bx
  · exact pt_bx
theorem po_G {e : Expr} {t : TE} (h : PE X e t) : PO X (some e) (partG t) := fun pins s σ H Q I q => po_some (PE.mo h) pins s σ H Q I ⟨_, q, fun x H1 q1 => by
  cases x <;> first | exact ⟨_, rfl, q1⟩ | exact q1.elim⟩
theorem poG_ok (hw : Snd w) (F : Fits CX k X C) : ∀ o, PO X o (poG w C o)
  | none => po_none
  | some e => po_G (hw.E F e)
theorem sl_G : SlR X slG := fun pins s σ H x v vl vu lo hi sl Q I rx hs pl pu h => by
  unfold slG at h
  split at h
  · exact sl_str pins s σ H _ v vl vu lo hi sl Q I rx hs pl pu ⟨_, rfl, h.1, h.2⟩
  · unfold slH at h
    split at h
    · exact sl_list pins s σ H _ v vl vu lo hi sl Q I rx hs pl pu ⟨_, _, rfl, .inl (.inl (by assumption)), h.at⟩
    · exact h.elim
  · exact h.elim
theorem gl_of (F : Fits CX k X C) {x : Str} (h : C.names.lookup x = some .globalImplicit) : Gl X x := by
  show X.env.scope.names.lookup x = _
  rw [F.names]
  exact h
theorem call_lenS (F : Fits CX k X C) : CallR X (.builtin "len") (lenS C.K) := CallR.imp call_len_seq fun xs H Q ⟨p, ys, e, h, q⟩ => ⟨p, ys, e, .inl (by rw [F.K]; exact h), q⟩
theorem pe_callV (F : Fits CX k X C) {x : Str} {e : Expr} {es : List Expr} {p pos : Pos} {tf : TE} {ta : TA} (hf : PE X (.Name x p) tf) (ha : PA X (e :: es) ta) (hs : (e :: es).any isStar = false) : PE X (.Call (.Name x p) (e :: es) [] pos) (tCallV C.fvs C.E tf ta) := by
  rw [List.any_cons, Bool.or_eq_false_iff] at hs
  intro pins s σ H Q I h
  refine wpAny_Call_Name_kw (thn (hf pins s σ H _ I h) fun v s1 ⟨y, H1, I1, r1, p', hp, ey, q1⟩ => ?_)
  subst ey
  cases r1
  obtain ⟨fd, ps, G, hk, hb⟩ := F.fvs p' hp
  refine PySem.W.callWith_K (h₀ := X.base) I1.ok.mod.kin hk (thn (ha pos pins s1 σ H1 _ I1 q1) fun us s2 ⟨vs, H2, I2, r2, q2⟩ => ⟨I2.kIn, ?_⟩) (star_cons hs.1) (stars_none hs.2).1
  exact run_fn G (F.room.mono (Nat.le_succ _)) hb .nil F.pass I2 r2 q2
theorem callG_ok (hw : Snd w) (F : Fits CX k X C) {x : Str} {es : List Expr} {p pos : Pos} : PE X (.Call (.Name x p) es [] pos) (callG w C x es) := by
  unfold callG
  split
  · rename_i ok e hs
    simp only [okName, Bool.and_eq_true, Bool.not_eq_true'] at ok
    have hg := gl_of F e
    split
    · rename_i sp ef
      obtain ⟨f, fd, ps, G, hm, hk, hb⟩ := F.fns x sp ef
      cases es with
      | nil => exact pe_call0 G (F.room.mono (Nat.le_succ _)) hg hm hk hb .nil F.pass ok.1
      | cons a r =>
        have hs' := hs
        rw [List.any_cons, Bool.or_eq_false_iff] at hs'
        exact pe_call G (F.room.mono (Nat.le_succ _)) hg hm hk hb .nil F.pass (wA_ok hw F _) ok.1 (star_cons hs'.1) (stars_none hs'.2).1
    · split
      · rename_i cl sp ef
        obtain ⟨f, fd, ps, M, G, hm, hb⟩ := F.mks x cl sp ef
        cases es with
        | nil => exact pe_make0 M G F.room hg hm hb .nil F.pass ok.1
        | cons a r =>
          have hs' := hs
          rw [List.any_cons, Bool.or_eq_false_iff] at hs'
          exact pe_make M G F.room hg hm hb .nil F.pass (wA_ok hw F _) ok.1 (star_cons hs'.1) (stars_none hs'.2).1
      · split
        · rename_i a r hn
          have hm := F.nog x (by simpa using hn)
          have hs' := hs
          rw [List.any_cons, Bool.or_eq_false_iff] at hs'
          split
          · rename_i i rd eb
            obtain ⟨c1, c2, c3, c4⟩ := bltF_ok F.calm eb
            split
            · rename_i hc
              simp only [Bool.and_eq_true] at hc
              have ei : i = "len" := by simpa using hc.1.1
              subst ei
              exact pe_callB (call_lenS F) hg hm c2 (wA_ok hw F _) c3 c4 (star_cons hs'.1) (stars_none hs'.2).1
            · split
              · rename_i hc
                simp only [Bool.and_eq_true] at hc
                have ei : i = "isinstance" := by simpa using hc.1
                subst ei
                exact pe_callB (call_isiC F.ics) hg hm c2 (wA_ok hw F _) c3 c4 (star_cons hs'.1) (stars_none hs'.2).1
              · exact pe_callB c1 hg hm c2 (wA_ok hw F _) c3 c4 (star_cons hs'.1) (stars_none hs'.2).1
          · split
            · rename_i i rd eb
              obtain ⟨c1, c2, c3, c4⟩ := bltC_ok F.calm eb
              exact pe_callTy c1 hg hm c2 (wA_ok hw F _) c3 c4 (star_cons hs'.1) (stars_none hs'.2).1
            · exact pe_x
        · exact pe_x
  · rename_i ok e hs
    cases es with
    | nil => exact pe_x
    | cons a r => exact pe_callV F (pe_nameG F _ _) (wA_ok hw F _) hs
  · rename_i ok e hs
    cases es with
    | nil => exact pe_x
    | cons a r => exact pe_callV F (pe_nameG F _ _) (wA_ok hw F _) hs
  · exact pe_x
theorem methG_ok (hw : Snd w) (F : Fits CX k X C) {o : Expr} {m : Str} {es : List Expr} {apos cpos : Pos} : PE X (.Call (.Attribute o m apos) es [] cpos) (methG w C o m apos cpos es) := by
  unfold methG
  split
  · rename_i h1 h2 h3 h4
    have h3' : es.length < 29 := of_decide_eq_true h3
    split
    · rename_i cl sp em
      obtain ⟨f, fd, ps, cc, mm, G, hb⟩ := F.mts m cl sp em
      cases es with
      | nil => exact pe_methG0 (hw.E F o) cc mm G (F.room.mono (Nat.le_succ _)) hb F.pass h1 h4
      | cons a r => exact pe_methG (hw.E F o) cc mm G (F.room.mono (Nat.le_succ _)) hb F.pass (wA_ok hw F _) h1 h2 h3' h4
    · cases es with
      | nil => exact pe_bmG0 F.room (hw.E F o) h1 h4
      | cons a r => exact pe_bmG F.room (hw.E F o) (wA_ok hw F _) h1 h2 h3' h4
  · exact pe_x
theorem slotL_ok (F : Fits CX k X C) {x : Str} {i : Nat} (h : slotL C x = some i) : X.N[i]? = some x ∧ Loc X.env.scope x ∧ (X.env.scope.names.lookup x = some .local ∨ C.names.lookup x = some .cell) := by
  unfold slotL at h
  split at h
  · rename_i e
    have e' : X.env.scope.names.lookup x = some .local := by rw [F.names]; exact e
    exact ⟨by rw [F.N]; exact slotOf_get h, .inl e', .inl e'⟩
  · rename_i e
    have e' : X.env.scope.names.lookup x = some .cell := by rw [F.names]; exact e
    exact ⟨by rw [F.N]; exact slotOf_get h, .inr e', .inr e⟩
  · cases h
theorem nodupN (F : Fits CX k X C) : X.N.Nodup := by rw [F.N]; exact F.nd
theorem gNm_ok (F : Fits CX k X C) {x : Str} {pos : Pos} (hx : C.names.lookup x = some .cell → X.fn x = true) : PG X (.Name x pos) (gNm C x) := by
  unfold gNm
  split
  · rename_i i ei
    obtain ⟨h1, h2, h3⟩ := slotL_ok F ei
    exact pg_name (nodupN F) h1 h2 (h3.elim .inr fun z => .inl (hx z))
  · exact pg_x
theorem gNms_ok (F : Fits CX k X C) : ∀ ts : List Expr, (∀ x pos, Expr.Name x pos ∈ ts → C.names.lookup x = some .cell → X.fn x = true) → PGs X ts (gNms C ts)
  | [], _ => pgs_nil
  | e :: r, h => by
    cases e with
    | Name x pos => exact pgs_cons (gNm_ok F (h x pos (by simp))) (gNms_ok F r fun y q hy => h y q (List.mem_cons_of_mem _ hy))
    | _ => exact fun _ _ _ _ _ _ _ _ _ z => z.elim
theorem each_names {C : Cfg} {env : Env} : ∀ {ts : List Expr}, (∀ v σ H Q, gNms C ts v σ H Q → False) ∨ ((assignEach ts env).length = ts.length ∧ (assignEach ts env).findIdx? (·.1) = none)
  | [] => .inr ⟨rfl, rfl⟩
  | e :: r => by
    cases e with
    | Name x pos =>
      rcases each_names (C := C) (env := env) (ts := r) with h | ⟨h1, h2⟩
      · exact .inl fun v σ H Q ⟨a, b, e, q⟩ => by
          unfold gNm at q
          cases hsl : slotL C x with
          | none => rw [hsl] at q; exact q
          | some i => rw [hsl] at q; exact h _ _ _ _ q
      · refine .inr ⟨?_, ?_⟩
        · show ((false, _) :: assignEach r env).length = _
          simp [h1]
        · show List.findIdx? _ ((false, _) :: assignEach r env) = none
          simp [List.findIdx?_cons, h2]
    | _ => exact .inl fun v σ H Q z => z
theorem gTup_ok (F : Fits CX k X C) {ts : List Expr} {j : Nat} {pos : Pos} (h : ∀ x pos, Expr.Name x pos ∈ ts → C.names.lookup x = some .cell → X.fn x = true) : PG X (.Tuple ts j pos) (gTup0 ts.length (gNms C ts)) := by
  rcases each_names (C := C) (env := X.env) (ts := ts) with z | ⟨h1, h2⟩
  · exact fun pins s σ H v u Q I r ⟨a, xs, e, hr, hl, q⟩ => (z _ _ _ _ q).elim
  · exact pg_tup0 F.calm (gNms_ok F ts h) h1 h2
end
end Tv

set_option Elab.async false
set_option linter.all false
set_option maxRecDepth 100000
set_option maxHeartbeats 4000000
namespace Tv
open PySem PySem.Spec PyProof.Rows L2
/-- the cells that a block takes along -/
def clOf (env : Env) : List (Str × NameKind) → List (Str × Addr) → List (Str × Addr)
  | [], acc => acc
  | (x, .free) :: r, acc => clOf env r ((x, (env.cells.lookup x).getD 0) :: acc)
  | (_, _) :: r, acc => clOf env r acc
theorem clos_of {env : Env} : ∀ {names : List (Str × NameKind)} {acc : List (Str × Addr)}, (∀ x, (x, NameKind.free) ∈ names → ∃ c, env.cells.lookup x = some c) →
    (forIn names acc (fun (p : Str × NameKind) (r : List (Str × Addr)) => if (p.2 == .free) = true then do let c ← cellOf env p.1; pure (ForInStep.yield ((p.1, c) :: r)) else pure (ForInStep.yield r)) : Sem (List (Str × Addr))) = pure (clOf env names acc)
  | [], acc, _ => by rw [List.forIn_nil]; rfl
  | (x, kd) :: r, acc, h => by
    rw [List.forIn_cons]
    have ih := fun acc => clos_of (env := env) (names := r) (acc := acc) fun y hy => h y (List.mem_cons_of_mem _ hy)
    cases kd with
    | free =>
      obtain ⟨c, hc⟩ := h x (by simp)
      have e1 : cellOf env x = pure c := by unfold cellOf; rw [hc]
      simp only [beq_self_eq_true, if_true, e1, pure_bind]
      rw [ih]
      show _ = pure (clOf env r ((x, (env.cells.lookup x).getD 0) :: acc))
      rw [hc]
      rfl
    | «local» => simpa [clOf] using ih acc
    | cell => simpa [clOf] using ih acc
    | globalExplicit => simpa [clOf] using ih acc
    | globalImplicit => simpa [clOf] using ih acc
theorem closureFor_some {scope : Scope} {env : Env} (h : ∀ x, (x, NameKind.free) ∈ scope.names → ∃ c, env.cells.lookup x = some c) : closureFor scope env = pure (clOf env scope.names []) := by
  have := clos_of (env := env) (names := scope.names) (acc := []) h
  unfold closureFor
  simpa using this
theorem clOf_mem {env : Env} : ∀ {names : List (Str × NameKind)} {acc : List (Str × Addr)} {p : Str × Addr}, p ∈ clOf env names acc → p ∈ acc ∨ ((p.1, NameKind.free) ∈ names ∧ p.2 = (env.cells.lookup p.1).getD 0)
  | [], acc, p, h => .inl h
  | (x, kd) :: r, acc, p, h => by
    cases kd with
    | free =>
      rcases clOf_mem (names := r) h with h | ⟨h1, h2⟩
      · rcases List.mem_cons.mp h with rfl | h
        · exact .inr ⟨by simp, rfl⟩
        · exact .inl h
      · exact .inr ⟨List.mem_cons_of_mem _ h1, h2⟩
    | _ =>
      rcases clOf_mem (names := r) h with h | ⟨h1, h2⟩
      · exact .inl h
      · exact .inr ⟨List.mem_cons_of_mem _ h1, h2⟩
theorem clOf_acc {env : Env} : ∀ {names : List (Str × NameKind)} {acc : List (Str × Addr)} {p : Str × Addr}, p ∈ acc → p ∈ clOf env names acc
  | [], acc, p, h => h
  | (x, kd) :: r, acc, p, h => by
    cases kd with
    | free => exact clOf_acc (names := r) (List.mem_cons_of_mem _ h)
    | _ => exact clOf_acc (names := r) h
theorem clOf_has {env : Env} : ∀ {names : List (Str × NameKind)} {acc : List (Str × Addr)} {x : Str}, (x, NameKind.free) ∈ names → ∃ c, (x, c) ∈ clOf env names acc
  | (y, kd) :: r, acc, x, h => by
    rcases List.mem_cons.mp h with e | h2
    · cases e
      exact ⟨_, clOf_acc (names := r) (List.mem_cons_self)⟩
    · cases kd <;> exact clOf_has (names := r) h2
theorem lookup_some_mem {α β : Type} [BEq α] [LawfulBEq α] : ∀ {l : List (α × β)} {a : α} {b : β}, l.lookup a = some b → (a, b) ∈ l
  | (x, y) :: r, a, b, h => by
    rw [List.lookup_cons] at h
    split at h
    · rename_i e
      cases h
      have := eq_of_beq e
      subst this
      simp
    · exact List.mem_cons_of_mem _ (lookup_some_mem h)
theorem lookup_of_mem {α β : Type} [BEq α] [LawfulBEq α] : ∀ {l : List (α × β)} {a : α} {b : β}, (a, b) ∈ l → ∃ c, l.lookup a = some c
  | (x, y) :: r, a, b, h => by
    rw [List.lookup_cons]
    split
    · exact ⟨_, rfl⟩
    · rename_i ne
      rcases List.mem_cons.mp h with e | h
      · cases e
        simp at ne
      · exact lookup_of_mem h
section
variable {CX : CXT} {k : Nat} {X : Cx} {C : Cfg} {w : W} {scope : Scope} {tn : List Str} {fr : List (Str × Nat)}
theorem relN_eq (F : Fits CX k X C) : (relabel scope X.env).names = relN C scope.names := by
  unfold relabel relN
  simp only
  apply List.map_congr_left
  rintro ⟨n, kd⟩ _
  have e1 : (X.env.scope.kind == ScopeKind.function) = true := by rw [F.kind]; rfl
  have e2 : X.env.kindOf n = C.names.lookup n := by show X.env.scope.names.lookup n = _; rw [F.names]
  simp only [e1, e2, Bool.and_true]
theorem relN_lookup {names : List (Str × NameKind)} {x : Str} : ∀ {kd : NameKind}, names.lookup x = some kd → (relN C names).lookup x = some (if (kd == NameKind.free && C.names.lookup x == some .cell) = true then .cell else kd) := by
  induction names with
  | nil => intro kd h; cases h
  | cons p r ih =>
    intro kd h
    obtain ⟨n, q⟩ := p
    rw [List.lookup_cons] at h
    unfold relN
    rw [List.map_cons, List.lookup_cons]
    split at h
    · rename_i e
      cases h
      have e' := eq_of_beq e
      subst e'
      by_cases hc : (kd == NameKind.free && C.names.lookup x == some .cell) = true
      · simp only [hc, if_true, beq_self_eq_true]
      · simp only [hc, if_false, beq_self_eq_true, Bool.false_eq_true]
    · rename_i ne
      have e1 : (x == (if (q == NameKind.free && C.names.lookup n == some .cell) = true then (n, NameKind.cell) else (n, q)).1) = false := by
        split <;> simpa using ne
      simp only [e1]
      exact ih h
theorem freeOf_ok : ∀ {names : List (Str × NameKind)} {fr : List (Str × Nat)}, freeOf C names = some fr → (∀ y ∈ names, y.2 ≠ .cell) ∧ (∀ x, (x, NameKind.free) ∈ names → C.names.lookup x = some .cell) ∧
    ∀ q ∈ fr, slotOf C.N q.1 = some q.2 ∧ C.names.lookup q.1 = some .cell ∧ (q.1, NameKind.free) ∈ names
  | [], fr, h => by
    cases h
    exact ⟨fun y hy => by simp at hy, fun x hx => by simp at hx, fun q hq => by simp at hq⟩
  | (x, kd) :: r, fr, h => by
    cases kd with
    | free =>
      unfold freeOf at h
      split at h
      · rename_i j l e1 e2 e3
        cases h
        obtain ⟨i1, i2, i3⟩ := freeOf_ok e3
        refine ⟨fun y hy => ?_, fun z hz => ?_, fun q hq => ?_⟩
        · rcases List.mem_cons.mp hy with rfl | hy
          · simp
          · exact i1 y hy
        · rcases List.mem_cons.mp hz with e | hz
          · cases e; exact e2
          · exact i2 z hz
        · rcases List.mem_cons.mp hq with rfl | hq
          · exact ⟨e1, e2, by simp⟩
          · obtain ⟨a, b, c⟩ := i3 q hq
            exact ⟨a, b, List.mem_cons_of_mem _ c⟩
      · cases h
    | cell => cases h
    | _ =>
      obtain ⟨i1, i2, i3⟩ := freeOf_ok (names := r) (fr := fr) h
      refine ⟨fun y hy => ?_, fun z hz => ?_, fun q hq => ?_⟩
      · rcases List.mem_cons.mp hy with rfl | hy
        · simp
        · exact i1 y hy
      · rcases List.mem_cons.mp hz with e | hz
        · cases e
        · exact i2 z hz
      · obtain ⟨a, b, c⟩ := i3 q hq
        exact ⟨a, b, List.mem_cons_of_mem _ c⟩
theorem compOk_of (F : Fits CX k X C) (ok : X.Ok) (hf : freeOf C scope.names = some fr) (hk : scope.kind = .function) (hb : okBlock tn fr scope.names = true) : CompOk X scope tn fr (clOf X.env scope.names []) := by
  obtain ⟨f1, f2, f3⟩ := freeOf_ok hf
  simp only [okBlock, Bool.and_eq_true] at hb
  obtain ⟨⟨b1, b2⟩, b3⟩ := hb
  have b2' : ∀ y ∈ scope.names, scope.names.lookup y.1 = some y.2 := fun y hy => by simpa using List.all_eq_true.mp b2 y hy
  have kx : ∀ x, X.env.kindOf x = C.names.lookup x := fun x => by show X.env.scope.names.lookup x = _; rw [F.names]
  have hc : ∀ x, (x, NameKind.free) ∈ scope.names → ∃ c, X.env.cells.lookup x = some c := fun x hx => ok.has x (.inl (by rw [kx]; exact f2 x hx))
  have sub : ∀ x c, (clOf X.env scope.names []).lookup x = some c → X.env.cells.lookup x = some c := fun x c h => by
    rcases clOf_mem (lookup_some_mem h) with z | ⟨h1, h2⟩
    · simp at z
    · obtain ⟨c', hc'⟩ := hc x h1
      simp only at h2
      rw [hc'] at h2
      simp only [Option.getD_some] at h2
      rw [h2]
      exact hc'
  have has : ∀ x, (x, NameKind.free) ∈ scope.names → ∃ c, (clOf X.env scope.names []).lookup x = some c := fun x hx => by
    obtain ⟨c, h⟩ := clOf_has (env := X.env) (acc := []) hx
    exact lookup_of_mem h
  refine ⟨closureFor_some hc, hk, f1, fun y hy hl => by rw [b2' y hy, hl], ?_, fun x hx => ?_, sub⟩
  · -- the free names
    have : ∀ l : List (Str × Nat), (∀ q ∈ l, q ∈ fr) → FreeOk X scope (clOf X.env scope.names []) l := by
      intro l
      induction l with
      | nil => exact fun _ => .nil
      | cons q r ih =>
        intro h
        obtain ⟨x, j⟩ := q
        obtain ⟨a, b, c⟩ := f3 (x, j) (h _ (by simp))
        refine .cons (by rw [F.N]; exact slotOf_get a) (by rw [kx]; exact b) ?_ ?_ (ih fun q hq => h q (List.mem_cons_of_mem _ hq))
        · rw [relN_eq F, relN_lookup (b2' _ c)]
          simp [b]
        · obtain ⟨cc, e⟩ := has x c
          rw [e, sub x cc e]
    exact this fr fun q hq => hq
  · rw [relN_eq F] at hx
    have hin : (x, NameKind.free) ∈ scope.names := by
      have : ∃ kd, (relN C scope.names).lookup x = some kd ∧ (kd = .cell ∨ kd = .free) := by
        rcases hx with h | h
        · exact ⟨_, h, .inl rfl⟩
        · exact ⟨_, h, .inr rfl⟩
      obtain ⟨kd, h1, h2⟩ := this
      have hm := lookup_some_mem h1
      unfold relN at hm
      obtain ⟨⟨n, q⟩, hm1, hm2⟩ := List.mem_map.mp hm
      simp only at hm2
      split at hm2
      · rename_i hcond
        cases hm2
        have : q = .free := by
          simp only [Bool.and_eq_true] at hcond
          exact eq_of_beq hcond.1
        subst this
        exact hm1
      · cases hm2
        rcases h2 with rfl | rfl
        · exact absurd rfl (f1 _ hm1)
        · exact hm1
    exact has x hin
theorem fits_in (F : Fits CX k X C) (hk : scope.kind = .function) (hb : okBlock tn fr scope.names = true) (cl : List (Str × Addr)) (d : CDyn) : Fits CX k (compCx X tn fr scope cl d) (inCfg C tn fr scope.names) where
  K := F.K
  N := rfl
  nd := by
    simp only [okBlock, Bool.and_eq_true] at hb
    exact of_decide_eq_true hb.1.1
  names := relN_eq F
  kind := hk
  calm := F.calm
  room := F.room
  pass := fun pins σ H s e s' I h => (F.no _ _ _ _ _ h).elim
  no := F.no
  fns := F.fns
  mks := F.mks
  mts := F.mts
  fld := F.fld
  glo := F.glo
  nog := F.nog
  fvs := F.fvs
  ics := F.ics
  exs := F.exs
  kit := F.kit
  hit := F.hit
  cxe := fun z => (by cases z)
  rse := fun _ _ _ _ _ _ _ _ _ _ h => False.elim h
theorem slotOf_lt : ∀ {tn l : List Str} {x : Str} {i : Nat}, x ∈ tn → slotOf (tn ++ l) x = some i → i < tn.length
  | y :: r, l, x, i, hx, h => by
    rw [List.cons_append] at h
    unfold slotOf at h
    split at h
    · cases h
      simp
    · rename_i ne
      rcases List.mem_cons.mp hx with e | hx
      · exact absurd e.symm ne
      · cases e : slotOf (r ++ l) x with
        | none => rw [e] at h; cases h
        | some j =>
          rw [e] at h
          cases h
          have := slotOf_lt hx e
          simp
          omega
theorem slotL_lt {x : Str} {i : Nat} (hx : x ∈ tn) (h : slotL (inCfg C tn fr scope.names) x = some i) : i < tn.length := by
  unfold slotL at h
  split at h
  · exact slotOf_lt hx h
  · exact slotOf_lt hx h
  · cases h
theorem kg_Nm {x : Str} (hx : x ∈ tn) : KeepsG tn.length (gNm (inCfg C tn fr scope.names) x) := by
  unfold gNm
  split
  · rename_i e
    exact kg_name (slotL_lt hx e)
  · exact fun v σ H Q h => h.elim
theorem kg_Nms : ∀ {ts : List Expr}, (∀ x pos, Expr.Name x pos ∈ ts → x ∈ tn) → KeepsGs tn.length (gNms (inCfg C tn fr scope.names) ts)
  | [], _ => kg_nil
  | e :: r, h => by
    cases e with
    | Name x pos =>
      intro vs σ H Q ⟨v, q, e, g⟩
      refine ⟨v, q, e, ?_⟩
      have hx := h x pos (by simp)
      have ih := kg_Nms (ts := r) fun y p hy => h y p (List.mem_cons_of_mem _ hy)
      unfold gNm at g ⊢
      cases e2 : slotL (inCfg C tn fr scope.names) x with
      | none => rw [e2] at g; exact g.elim
      | some i =>
        rw [e2] at g
        have := ih _ _ _ _ g
        have e3 : (σ.set i (some v)).drop tn.length = σ.drop tn.length := List.drop_set_of_lt (slotL_lt hx e2)
        rw [e3] at this
        exact this
    | _ => exact fun vs σ H Q z => z.elim
theorem mapM_mem {α β : Type} {f : α → Option β} : ∀ {xs : List α} {ys : List β} {x : α} {y : β}, xs.mapM f = some ys → x ∈ xs → f x = some y → y ∈ ys
  | a :: r, ys, x, y, h, hx, hf => by
    rw [mapM_cons] at h
    cases e : f a with
    | none => rw [e] at h; cases h
    | some z =>
      cases e2 : r.mapM f with
      | none => rw [e, e2] at h; cases h
      | some q =>
        rw [e, e2] at h
        cases h
        rcases List.mem_cons.mp hx with rfl | hx
        · rw [e] at hf; cases hf; simp
        · exact List.mem_cons_of_mem _ (mapM_mem e2 hx hf)
end
end Tv

set_option Elab.async false
set_option linter.all false
set_option maxRecDepth 100000
set_option maxHeartbeats 4000000
namespace Tv
open PySem PySem.Spec PyProof.Rows L2
section
variable {CX : CXT} {k : Nat} {X : Cx} {C : Cfg} {w : W}
theorem folded_of {it : Expr} {env : Env} (h : isSet it = false) : ∀ x, foldedSetIterable it env x = pure x := fun x => by
  cases it <;> first | rfl | cases h
theorem wI_ok (hw : Snd w) (F : Fits CX k X C) {tg : Expr} : ∀ it, PI2 X tg it (wI w C tg it) := fun it => by
  unfold wI
  split
  · rename_i x p e es pos
    split
    · rename_i h1 h2 h3 h4
      have ex : x = "range" := of_decide_eq_true h1
      subst ex
      exact pi_rng (gl_of F h2) (F.nog _ (by simpa using h3)) (wA_ok hw F _) h4
    · exact pi2_x
    · exact pi_of it_G (callG_ok hw F)
  · split
    · rename_i h
      simp only [Bool.and_eq_true] at h
      obtain ⟨⟨⟨h1, h2⟩, h3⟩, h4⟩ := h
      have ex := of_decide_eq_true h2
      subst ex
      cases tg <;> first | (cases h1; done) | skip
      exact pi_items (hw.E F _) h3 h4
    · exact pi_of it_G (hw.E F _)
  · exact pi2_x
  · exact pi_of it_G (hw.E F _)
theorem ep_thaw {pins : List (Addr × Obj)} {σ : St} {Q : VK} {v : Value} {s : Shared} (h : EP X pins σ (anyQ X Q) v s) : EP X pins σ Q v s := by
  obtain ⟨x, H, I, r, q | ⟨a, o, u, nf, e, q⟩⟩ := h
  · exact ⟨x, H, I, r, q⟩
  · exact ⟨x, _, inv_thaw I e nf, r, q⟩
theorem ifsG_ok (hw : Snd w) (F : Fits CX k X C) : ∀ ifs, PIfs X ifs (ifsG w C ifs)
  | [] => pif_nil
  | [c] => pif_one (hw.T F c)
  | _ :: _ :: _ => fun _ _ _ _ _ _ h => h.elim
theorem block_tg {scope : Scope} {tn : List Str} {fr : List (Str × Nat)} (hb : okBlock tn fr scope.names = true) {x : Str} (hx : x ∈ tn) : (relN C scope.names).lookup x = some .local := by
  simp only [okBlock, Bool.and_eq_true] at hb
  have := List.all_eq_true.mp hb.2 x hx
  rw [relN_lookup (kd := .local) (by simpa using this)]
  rfl
theorem tg_in {tg : Expr} {tn : List Str} (h : tgNames tg = some tn) : (∀ x pos, tg = .Name x pos → x ∈ tn) ∧ ∀ ts j pos, tg = .Tuple ts j pos → ∀ x p, Expr.Name x p ∈ ts → x ∈ tn := by
  refine ⟨fun x pos e => ?_, fun ts j pos e x p hx => ?_⟩
  · subst e
    cases h
    simp
  · subst e
    exact mapM_mem h hx rfl
theorem tg_ok {scope : Scope} {tn : List Str} {fr : List (Str × Nat)} {tg : Expr} (F : Fits CX k X C) (hk : scope.kind = .function) (hb : okBlock tn fr scope.names = true) (ht : tgNames tg = some tn) (cl : List (Str × Addr)) :
    (∀ d, PG (compCx X tn fr scope cl d) tg (wG (inCfg C tn fr scope.names) tg)) ∧ KeepsG tn.length (wG (inCfg C tn fr scope.names) tg) := by
  obtain ⟨t1, t2⟩ := tg_in ht
  have nc : ∀ x, x ∈ tn → (inCfg C tn fr scope.names).names.lookup x = some .cell → False := fun x hx h => by
    rw [show (inCfg C tn fr scope.names).names.lookup x = some .local from block_tg hb hx] at h
    cases h
  cases tg with
  | Name x pos => exact ⟨fun d => gNm_ok (fits_in F hk hb cl d) fun h => (nc x (t1 x pos rfl) h).elim, kg_Nm (t1 x pos rfl)⟩
  | Tuple ts j pos => exact ⟨fun d => gTup_ok (fits_in F hk hb cl d) fun x p hx h => (nc x (t2 ts j pos rfl x p hx) h).elim, kg_tup (kg_Nms (t2 ts j pos rfl))⟩
  | _ => cases ht
theorem compG_ok (hw : Snd w) (F : Fits CX k X C) {elt : Expr} {gens : List Comprehension} {scope : Scope} {pos : Pos} : PE X (.ListComp elt gens scope pos) (compG w C elt gens scope) := by
  unfold compG
  split
  · rename_i tg it ifs
    split
    · rename_i tn fr e1 e2 e3 e4
      split
      · rename_i hb
        intro pins s σ H Q I h
        obtain ⟨g1, g2⟩ := tg_ok F e3 hb e1 (clOf X.env scope.names [])
        exact thn (pe_comp F.calm (compOk_of F I.ok e2 e3 hb) g2 (pi_old (wI_ok hw F it)) g1 (fun d => ifsG_ok hw (fits_in F e3 hb _ d) ifs) (fun d => hw.E (fits_in F e3 hb _ d) elt) (folded_of e4) pins s σ H (anyQ X Q) I (compI_old h)) fun _ _ z => ep_thaw z
      · exact pe_x
    · exact pe_x
  · exact pe_x
theorem ps_setC {x : Str} {pos' pos cpos : Pos} {elt tg it : Expr} {ifs : List Expr} {scope : Scope} {tn : List Str} {fr : List (Str × Nat)} {wi : TI} {g : TG} {tt : TT} {te : TE} {cl : List (Str × Addr)} {i : Nat}
    (hc : X.calm = true) (ok : CompOk X scope tn fr cl) (kg : KeepsG tn.length g) (hi : PI X tg it wi)
    (hg : ∀ d, PG (compCx X tn fr scope cl d) tg g) (ht : ∀ d, PIfs (compCx X tn fr scope cl d) ifs tt) (he : ∀ d, PE (compCx X tn fr scope cl d) elt te) (hs : ∀ x, foldedSetIterable it X.env x = pure x)
    (hN : X.N.Nodup) (hx : X.N[i]? = some x) (hl : Loc X.env.scope x) (hf : X.fn x = true) (sw : swapsWith (.ListComp elt [⟨tg, it, ifs, 0⟩] scope cpos) (some (.Name x pos')) pos.line X.env = pure true)
    {pins : List (Addr × Obj)} {s : Shared} {σ : St} {H : Hp} {D : Ends} (I : Inv X pins σ H s) (h : tComp wi tn fr g tt te σ H fun v H1 => D.nx (σ.set i (some v)) H1) :
    wpAny (model X.prog X.w) X.A (exec (.Assign [.Name x pos'] (.ListComp elt [⟨tg, it, ifs, 0⟩] scope cpos) pos) X.env) (SP X pins D) X.xe s := by
  rw [exec_Assign_Name_used x pos' _ pos sw]
  refine wpAny_bind (wpAny_standAt ?_)
  show wpAny _ _ (evalThenUse (.ListComp elt [⟨tg, it, ifs, 0⟩] scope cpos) X.env (assign (.Name x pos') X.env) >>= fun _ => pure Flow.next) _ _ _
  refine wpAny_bind ?_
  show wpAny _ _ (comprehension (.ListComp elt [⟨tg, it, ifs, 0⟩] scope cpos) scope X.env _ (newList []) false (eval it X.env) (some (assign (.Name x pos') X.env)) >>= fun _ => pure ()) _ _ _
  refine wpAny_bind ?_
  refine wpAny_comprehension_free (use := some (assign (.Name x pos') X.env)) rfl hs ok.clos ok.kind ok.names (comp_core (RR := fun acc Cc => compPost (model X.prog X.w) X.A X.xe (some (assign (.Name x pos') X.env)) _ acc Cc) hc ok kg hi hg ht he I h ?_)
  intro p Cc G s' I' f m q
  obtain ⟨m, hm⟩ := m
  show wpAny _ _ (assign (.Name x pos') X.env (.ref p)) _ _ _
  show wpAny _ _ (do standAt pos'; bindName X.env x (.ref p)) _ _ _
  refine wpAny_bind (wpAny_standAt ?_)
  refine bindName_ ?_
  refine store_ok2 I' hN hx hl (v := .ref p) rfl (fun s'' I'' ⟨a, sb, ha⟩ => ?_) (.inl hf)
  have hne : Cc ≠ a := by
    rcases ha with rfl | ha
    · exact f.2.1
    · exact fun e => f.2.2.2.2.1 _ _ ha e.symm
  refine ⟨m, hm.sameBut sb hne, fun h' hs' => ?_⟩
  refine wpAny_pure (wpAny_pure ?_)
  refine ⟨_, G, ?_, q⟩
  exact I''.turned (it := Cc) (h' := h') (t' := s''.toks) (fun b o hb e => hs'.extBut b o hb e) f.1 f.2.1 f.2.2.2.1 f.2.2.2.2.1 f.2.2.2.2.2
end
end Tv

set_option Elab.async false
set_option linter.all false
set_option maxRecDepth 100000
set_option maxHeartbeats 4000000
namespace Tv
open PySem PySem.Spec PyProof.Rows L2
section
variable {CX : CXT} {k : Nat} {X : Cx} {C : Cfg} {w : W}
theorem swaps_not {e : Expr} {t : Option Expr} {n : Nat} {env : Env} (h : isComp e = false) : swapsWith e t n env = pure false := by
  cases e <;> first | rfl | cases h
theorem sole_not {e t : Expr} {n : Nat} {env : Env} (h : isComp e = false) : swapsWithSole [t] e n env = pure false := by
  show swapsWith e (some t) n env = pure false
  exact swaps_not h
theorem plain_ix {b : Expr} (h : isSlice b = false) : PlainIx b := fun o i => by
  cases b <;> first | rfl | cases h
theorem sl_scr : SlR X (rSlS X.K) := fun pins s σ H x v vl vu lo hi sl Q I rx hs pl pu ⟨a, xs, e, h, q⟩ => sl_list pins s σ H x v vl vu lo hi sl Q I rx hs pl pu ⟨a, xs, e, h, q.at⟩
theorem pairsG_ok (hw : Snd w) (F : Fits CX k X C) {pos : Pos} : ∀ {ks : List (Option Expr)} {vs : List Expr} {l : List (TE × TE)}, pairsG w C ks vs = some l → PPs X pos ks vs l ∧ ks.all (·.isSome) = true ∧ ks.length = vs.length ∧ ks.length = l.length
  | [], [], l, h => by cases h; exact ⟨pps_nil, rfl, rfl, rfl⟩
  | [], _ :: _, l, h => by cases h
  | none :: _, [], l, h => by cases h
  | none :: _, _ :: _, l, h => by cases h
  | some _ :: _, [], l, h => by cases h
  | some e :: ks, v :: vs, l, h => by
    unfold pairsG at h
    split at h
    · rename_i r er
      cases h
      obtain ⟨i1, i2, i3, i4⟩ := pairsG_ok hw F (pos := pos) er
      exact ⟨pps_cons (hw.E F e) (hw.E F v) i1, by simpa using i2, by simp [i3], by simp [i4]⟩
    · cases h
theorem pe_dnew {pos : Pos} : PE X (.Dict [] [] pos) tDNew := fun pins s σ H Q I h => h.elim (fun h => pe_dnewK pins s σ H Q I h.at) (fun h => pe_dnewT pins s σ H Q I h.at)
theorem dispG_ok (hw : Snd w) (F : Fits CX k X C) {ks : List (Option Expr)} {vs : List Expr} {pos : Pos} : PE X (.Dict ks vs pos) (dispG w C ks vs) := by
  unfold dispG
  split
  · rename_i h
    obtain ⟨i1, i2, i3, i4⟩ := pairsG_ok hw F (pos := pos) h
    have : ks = [] := List.length_eq_zero_iff.mp (by rw [i4]; rfl)
    subst this
    have : vs = [] := List.length_eq_zero_iff.mp (by rw [← i3]; rfl)
    subst this
    exact pe_dnew
  · rename_i l hl h1 h2
    obtain ⟨i1, i2, i3, i4⟩ := pairsG_ok hw F (pos := pos) h1
    refine pe_disp i1 i2 i3 (fun e => ?_) (of_decide_eq_true h2)
    subst e
    have : l = [] := List.length_eq_zero_iff.mp (by rw [← i4]; rfl)
    subst this
    exact hl rfl
  · exact pe_x
theorem ps_tryG {body : List Stmt} {h₀ : ExceptHandler} {hs : List ExceptHandler} {pos : Pos} {t : TS} (hb : PSs X.nox body t) : PS X (.Try body (h₀ :: hs) [] [] pos) t := fun pins s σ H D I h =>
  wpAny_Try_except (wpAny_mono (hb pins s σ H D (I.wish _) h) (fun f s1 q => by
    have q := q.unwish
    cases f with
    | next => exact wpAny_execs_nil q
    | _ => exact q) fun _ _ z => False.elim z)
theorem fits_nox (F : Fits CX k X C) : Fits CX k X.nox { C with E := E0 } where
  K := F.K
  N := F.N
  nd := F.nd
  names := F.names
  kind := F.kind
  calm := F.calm
  room := F.room
  pass := fun pins σ H s e s' I h => (F.no _ _ _ _ _ h).elim
  no := F.no
  fns := F.fns
  mks := F.mks
  mts := F.mts
  fld := F.fld
  glo := F.glo
  nog := F.nog
  fvs := F.fvs
  ics := F.ics
  exs := F.exs
  kit := F.kit
  hit := F.hit
  cxe := F.cxe
  rse := fun _ _ _ _ _ _ _ _ _ _ h => False.elim h
theorem stepE_ok (hw : Snd w) (F : Fits CX k X C) : ∀ e, PE X e (stepE w C e) := fun e => by
  unfold stepE
  split
  · exact constG_ok _
  · exact pe_nameG F _ _
  · exact pe_op (op_binG _) (hw.E F _) (hw.E F _)
  · exact pe_notG (hw.E F _)
  · exact pe_un un_negG (hw.E F _)
  · exact andG_ok hw F _
  · exact orG_ok hw F _
  · exact cmpE_ok hw F
  · exact pe_ifG (hw.T F _) (hw.E F _) (hw.E F _)
  · exact PE.imp (pe_lst (PA.mo (wA_ok hw F _))) fun σ H Q h => ⟨_, h, fun xs H1 q => ⟨q.1, q.2.at⟩⟩
  · exact PE.imp (pe_tup (PA.mo (wA_ok hw F _))) fun σ H Q h => ⟨_, h, fun xs H1 q => ⟨q.1, q.2.at⟩⟩
  · exact dispG_ok hw F
  · split
    · rw [← F.K]
      exact pe_slice sl_scr (hw.E F _) (poG_ok hw F _) (poG_ok hw F _)
    · exact pe_slice sl_G (hw.E F _) (poG_ok hw F _) (poG_ok hw F _)
  · split
    · rename_i h1 h2
      rw [← F.K]
      exact pe_ix ix_list (hw.E F _) (hw.E F _) (plain_ix h1)
    · rename_i h1 h2
      exact pe_ix (ix_getG (hu_of F.room)) (hw.E F _) (hw.E F _) (plain_ix h1)
    · exact pe_x
  · split
    · rename_i cl e1 e2
      obtain ⟨c, n⟩ := F.fld _ cl e1
      exact pe_fldG c n (hw.E F _) (base_of e2)
    · exact pe_x
  · exact callG_ok hw F
  · exact methG_ok hw F
  · exact compG_ok hw F
  · exact pe_x
theorem stepT_ok (hw : Snd w) (F : Fits CX k X C) : ∀ e, PT X e (stepT w C e) := fun e => by
  cases e with
  | UnaryOp op a pos => cases op <;> first | exact pt_not (hw.T F a) | exact pt_x
  | BoolOp op es pos => cases op <;> first | exact (andB_ok hw F es).pt | exact (orB_ok hw F es).pt
  | IfExp a b c pos => exact pt_x
  | Compare a ops bs pos => exact cmpT_ok hw F
  | _ => exact pt_G (stepE_ok hw F _) fun _ => rfl
theorem stepA_ok (hw : Snd w) (F : Fits CX k X C) (hf : ∀ x, X.fn x = true) (x : Str) (i : Nat) (pos' pos : Pos) (e : Expr) (ei : slotL C x = some i) : PS X (.Assign [.Name x pos'] e pos) (tAsg (stepE w C e) (gName i)) := by
  obtain ⟨h1, h2, h3⟩ := slotL_ok F ei
  have plain : ∀ {e : Expr}, swapsWith e (some (.Name x pos')) pos.line X.env = pure false → PS X (.Assign [.Name x pos'] e pos) (tAsg (stepE w C e) (gName i)) := fun {e} h => ps_set (nodupN F) h1 h2 (stepE_ok hw F e) h (.inl (hf x))
  cases e with
  | ListComp elt gens scope cpos =>
    cases hb : (X.env.blockKind == .function && X.env.kindOf x == some .local && pos'.line == (Expr.ListComp elt gens scope cpos).pos.line && !(scope.names.any fun (n, k) => n == x && (k == .local || k == .cell))) with
    | false => exact plain (by show pure _ = _; rw [hb])
    | true =>
      show PS X _ (tAsg (compG w C elt gens scope) (gName i))
      unfold compG
      split
      · rename_i tg it ifs
        split
        · rename_i tn fr e1 e2 e3 e4
          split
          · rename_i hb2
            intro pins s σ H D I h
            obtain ⟨g1, g2⟩ := tg_ok F e3 hb2 e1 (clOf X.env scope.names [])
            exact thn (ps_setC (D := anyD X D) F.calm (compOk_of F I.ok e2 e3 hb2) g2 (pi_old (wI_ok hw F it)) g1 (fun d => ifsG_ok hw (fits_in F e3 hb2 _ d) ifs) (fun d => hw.E (fits_in F e3 hb2 _ d) elt) (folded_of e4) (nodupN F) h1 h2 (hf x) (by show pure _ = _; rw [hb]) I (compI_old h)) fun _ _ z => SP.thaw z
          · exact fun _ _ _ _ _ _ h => h.elim
        · exact fun _ _ _ _ _ _ h => h.elim
      · exact fun _ _ _ _ _ _ h => h.elim
  | SetComp a g sc p => exact fun _ _ _ _ _ _ h => h.elim
  | DictComp a b g sc p => exact fun _ _ _ _ _ _ h => h.elim
  | _ => exact plain (swaps_not rfl)
theorem ps_ifG {c : Expr} {a b : List Stmt} {tc : TT} {t u : TS} {pos : Pos} (hc : PT X c tc) (ha : PSs X a t) (hb : PSs X b u) : PS X (.If c a b pos) (sIf tc t u) := fun pins s σ H D I h =>
  ps_if (PT.mo hc) ha hb pins s σ H D I ⟨_, h, fun d H1 q => br_ite q⟩
theorem wSs_ok (hw : ∀ s, PS X s (w.S C s)) : ∀ ss, PSs X ss (wSs w C ss)
  | [] => pss_nil
  | [s] => pss_one (hw s)
  | s :: t :: r => pss_cons (hw s) (wSs_ok hw (t :: r))
theorem ps_fldG {cl : Addr} {f : Str} {o e : Expr} {to te : TE} {pos pos' : Pos} (c : Cls X.K cl) (n : NoAttr X.K cl f) (ho : PE X o to) (he : PE X e te) (hs : isComp e = false) : PS X (.Assign [.Attribute o f pos'] e pos) (sFldG cl f to te) := fun pins s σ H D I h =>
  ps_fld (PE.mo ho) (PE.mo he) (swaps_not hs) pins s σ H D I ⟨_, h, fun y H1 q => ⟨_, q, fun x H2 q2 => by
    split at q2
    · unfold sfH at q2
      split at q2
      · obtain ⟨rfl, q3, q4⟩ := q2
        exact ⟨_, _, _, _, rfl, by assumption, c, n, q3, q4⟩
      · exact q2.elim
    · exact q2.elim⟩⟩
theorem swapped_none {tg e : Expr} {env : Env} (h : ∀ (elts : List Expr) (k : Nat) (pos : Pos), e = Expr.Tuple elts k pos → False) : swappedStores [tg] e env = pure none := by
  cases e with
  | Tuple a b c => exact (h _ _ _ rfl).elim
  | _ => cases tg <;> rfl
theorem asgG_ok (hw : Snd w) (F : Fits CX k X C) (hf : ∀ x, X.fn x = true) {tg e : Expr} {pos : Pos} : PS X (.Assign [tg] e pos) (asgG w C tg e) := by
  unfold asgG
  split
  · split
    · exact hw.A F hf _ _ _ _ _ (by assumption)
    · exact ps_x
  · rename_i o i p
    split
    · rename_i h1 h2
      exact ps_asg (hw.E F _) (pg_sub (hw.E F _) (hw.E F _) (set_G F.room) (by intro v; cases i <;> first | rfl | cases h1)) (sole_not h2) (by cases e <;> rfl) rfl
    · exact ps_x
  · rename_i o f p
    split
    · rename_i cl e1 e2
      obtain ⟨c, n⟩ := F.fld f cl e1
      exact ps_fldG c n (hw.E F _) (hw.E F _) e2
    · exact ps_x
  · rename_i ts j p
    split
    · exact ps_x
    · rename_i hne hc
      refine ps_asg (hw.E F _) (gTup_ok F fun x _ _ _ => hf x) (sole_not hc) (swapped_none hne) rfl
    · exact ps_x
  · exact ps_x
theorem wG_ok (F : Fits CX k X C) (hf : ∀ x, X.fn x = true) : ∀ tg, PG X tg (wG C tg) := fun tg => by
  cases tg with
  | Name x pos => exact gNm_ok F fun _ => hf x
  | Tuple ts j pos => exact gTup_ok F fun x _ _ _ => hf x
  | _ => exact pg_x
theorem raiseG_ok (hw : Snd w) (F : Fits CX k X C) {x : Str} {es : List Expr} {np cpos pos : Pos} : PS X (.Raise (some (.Call (.Name x np) es [] cpos)) none pos) (raiseG w C x es) := by
  unfold raiseG
  split
  · rename_i cl e r ok hn hx hs
    simp only [okName, Bool.and_eq_true, Bool.not_eq_true'] at ok
    obtain ⟨hm, c⟩ := F.exs x cl hx
    exact ps_raise (gl_of F hn) hm c F.calm (wA_ok hw F _) hs ok.1 fun pins σ H s a vs h1 I hx' q => F.rse pins σ H s a cl vs h1 I hx' q
  · exact ps_x
structure SndQ (w : W) : Prop where
  E : ∀ {X : Cx} {C : Cfg}, FitsN X C → ∀ e, PE X e (w.E C e)
  T : ∀ {X : Cx} {C : Cfg}, FitsN X C → ∀ e, PT X e (w.T C e)
  S : ∀ {X : Cx} {C : Cfg}, FitsN X C → ∀ s, PS X s (w.S C s)
theorem wA_q (hw : SndQ w) (F : FitsN X C) : ∀ es, PA X es (wA w C es)
  | [] => pa_nil
  | e :: es => by
    unfold wA
    split
    · exact pa_x
    · rename_i h
      exact pa_cons (hw.E F e) (wA_q hw F es) (star_cons h)
theorem andG_q (hw : SndQ w) (F : FitsN X C) {pos : Pos} : ∀ es, PE X (.BoolOp .And es pos) (andG w C es)
  | [] => pe_x
  | [a] => pe_one (hw.E F a)
  | a :: b :: r => pe_andG (hw.E F a) (andG_q hw F (b :: r))
theorem orG_q (hw : SndQ w) (F : FitsN X C) {pos : Pos} : ∀ es, PE X (.BoolOp .Or es pos) (orG w C es)
  | [] => pe_x
  | [a] => pe_one (hw.E F a)
  | a :: b :: r => pe_orG (hw.E F a) (orG_q hw F (b :: r))
theorem andB_q (hw : SndQ w) (F : FitsN X C) {pos : Pos} : ∀ es, PW X (.BoolOp .And es pos) (andB w C es)
  | [] => pw_x
  | [a] => pw_and1 (hw.T F a)
  | a :: b :: r => pw_andB (hw.T F a) (andB_q hw F (b :: r))
theorem orB_q (hw : SndQ w) (F : FitsN X C) {pos : Pos} : ∀ es, PW X (.BoolOp .Or es pos) (orB w C es)
  | [] => pw_x
  | [a] => pw_or1 (hw.T F a)
  | a :: b :: r => pw_orB (hw.T F a) (orB_q hw F (b :: r))
theorem qIsi_ok (hw : SndQ w) (F : FitsN X C) {x : Str} {es : List Expr} {p pos : Pos} : PE X (.Call (.Name x p) es [] pos) (qIsi w C x es) := by
  unfold qIsi
  split
  · rename_i e r ok hn hx hg hs
    have hx : x = "isinstance" := of_decide_eq_true hx
    subst hx
    simp only [okName, Bool.and_eq_true, Bool.not_eq_true'] at ok
    have hs' := hs
    rw [List.any_cons, Bool.or_eq_false_iff] at hs'
    have hgl : Gl X "isinstance" := by
      show X.env.scope.names.lookup _ = _
      rw [F.names]
      exact hn
    exact pe_callB (call_isiX F.kit) hgl (F.nog _ (by simpa using hg)) (by decide +kernel) (wA_q hw F _) (by decide +kernel) (by decide +kernel) (star_cons hs'.1) (stars_none hs'.2).1
  · exact pe_x
theorem stepQE_ok (hw : SndQ w) (F : FitsN X C) : ∀ e, PE X e (stepQE w C e) := fun e => by
  unfold stepQE
  split
  · exact constG_ok _
  · exact pe_nameN F _ _
  · exact pe_op op_addG (hw.E F _) (hw.E F _)
  · exact pe_notG (hw.E F _)
  · exact andG_q hw F _
  · exact orG_q hw F _
  · exact PE.imp (pe_lst (PA.mo (wA_q hw F _))) fun σ H Q h => ⟨_, h, fun xs H1 q => ⟨q.1, q.2.at⟩⟩
  · exact qIsi_ok hw F
  · exact pe_x
theorem stepQT_ok (hw : SndQ w) (F : FitsN X C) : ∀ e, PT X e (stepQT w C e) := fun e => by
  cases e with
  | UnaryOp op a pos => cases op <;> first | exact pt_not (hw.T F a) | exact pt_x
  | BoolOp op es pos => cases op <;> first | exact (andB_q hw F es).pt | exact (orB_q hw F es).pt
  | IfExp a b c pos => exact pt_x
  | Compare a ops bs pos => exact pt_x
  | _ => exact pt_G (stepQE_ok hw F _) fun _ => rfl
theorem stepQS_ok (hw : SndQ w) (F : FitsN X C) : ∀ s, PS X s (stepQS w C s) := fun s => by
  unfold stepQS
  split
  · rename_i x p0 e0 q0
    split
    · rename_i i ei hl hc
      have e1 : slotOf C.N x = some i := by
        unfold slotL at ei
        rw [hl] at ei
        exact ei
      have hl' : X.env.scope.names.lookup x = some .local := by
        rw [F.names]
        exact hl
      exact ps_set (by rw [F.N]; exact F.nd) (by rw [F.N]; exact slotOf_get e1) (.inl hl') (hw.E F _) (swaps_not hc) (.inr hl')
    · exact ps_x
  · exact ps_ret (hw.E F _)
  · exact ps_pass
  · exact ps_ifG (hw.T F _) (wSs_ok (hw.S F) _) (wSs_ok (hw.S F) _)
  · exact ps_x
theorem wq_ok : ∀ n, SndQ (wq n)
  | 0 => ⟨fun _ _ => pe_x, fun _ _ => pt_x, fun _ _ => ps_x⟩
  | n + 1 => ⟨stepQE_ok (wq_ok n), stepQT_ok (wq_ok n), stepQS_ok (wq_ok n)⟩
theorem px_x {e : Expr} : PX X e (fun _ => xE) := fun _ _ _ _ _ _ _ h => False.elim h
theorem tryC_ok (hw : Snd w) (F : Fits CX k X C) (hc : CX = CXE X.prog X.w) {f : Str} {es : List Expr} {p pos : Pos} : PX X (.Call (.Name f p) es [] pos) (tryC w C f es) := by
  subst hc
  unfold tryC
  split
  · rename_i e r ok hn hs
    simp only [okName, Bool.and_eq_true, Bool.not_eq_true'] at ok
    have hg := gl_of F hn
    split
    · rename_i sp ef
      obtain ⟨fa, fd, ps, G, hm, hk, hb⟩ := F.fns f sp ef
      exact px_call G (F.room.mono (Nat.le_succ _)) hg hm hk hb (wA_ok hw (fits_nox F) _) ok.1 hs
    · split
      · rename_i cl sp ef
        obtain ⟨fa, fd, ps, M, G, hm, hb⟩ := F.mks f cl sp ef
        exact px_make M G F.room hg hm hb (wA_ok hw (fits_nox F) _) ok.1 hs
      · exact px_x
  · exact px_x
theorem psx_x {st : Stmt} : PSX X st (fun _ => xS) := fun _ _ _ _ _ _ _ h => False.elim h
theorem callOf_eq {e : Expr} {f : Str} {es : List Expr} (h : callOf e = some (f, es)) : ∃ p pos, e = .Call (.Name f p) es [] pos := by
  unfold callOf at h
  split at h
  · cases h
    exact ⟨_, _, rfl⟩
  · cases h
theorem hOf_eq {hs : List ExceptHandler} {x n : Str} {su : List Stmt} (h : hOf hs = some (x, n, su)) : ∃ xp hp, hs = [.ExceptHandler (some (.Name x xp)) (some n) su hp] := by
  unfold hOf at h
  split at h
  · cases h
    exact ⟨_, _, rfl⟩
  · cases h
theorem nameOf_eq {tg : List Expr} {y : Str} (h : nameOf tg = some y) : ∃ p, tg = [.Name y p] := by
  unfold nameOf at h
  split at h
  · cases h
    exact ⟨_, rfl⟩
  · cases h
theorem tryB_ok (hw : Snd w) (F : Fits CX k X C) (hc : CX = CXE X.prog X.w) {st : Stmt} : PSX X st (tryB w C st) := by
  unfold tryB
  split
  · split
    · rename_i f es h
      obtain ⟨p, pos, rfl⟩ := callOf_eq h
      exact psx_expr (tryC_ok hw F hc) rfl
    · exact psx_x
  · split
    · rename_i f es y h hy
      obtain ⟨p, pos, rfl⟩ := callOf_eq h
      obtain ⟨p', rfl⟩ := nameOf_eq hy
      split
      · rename_i i ei hl
        have e1 : slotOf C.N y = some i := by
          unfold slotL at ei
          rw [hl] at ei
          exact ei
        exact psx_set (nodupN F) (by rw [F.N]; exact slotOf_get e1) (by rw [F.names]; exact hl) (tryC_ok hw F hc) (swaps_not rfl)
      · exact psx_x
    · exact psx_x
  · split
    · rename_i f es h
      obtain ⟨p, pos, rfl⟩ := callOf_eq h
      exact psx_ret (tryC_ok hw F hc)
    · exact psx_x
  · exact psx_x
theorem tryT_ok (hw : Snd w) (F : Fits CX k X C) {st : Stmt} {x n : Str} {su : List Stmt} {xp hp pos : Pos} : PS X (.Try [st] [.ExceptHandler (some (.Name x xp)) (some n) su hp] [] [] pos) (tryT w C st x n su) := by
  unfold tryT
  split
  · rename_i cx i b0 r ok hx ex ei hl ht
    simp only [okName, Bool.and_eq_true, Bool.not_eq_true'] at ok
    obtain ⟨c1, c2, c3⟩ := F.cxe ht
    obtain ⟨hm, _⟩ := F.exs x cx ex
    have e1 : slotOf C.N n = some i := by
      unfold slotL at ei
      rw [hl] at ei
      exact ei
    exact ps_tryS (tryB_ok hw F c1) c2 c3 (gl_of F hx) hm ok.1 (nodupN F) (by rw [F.N]; exact slotOf_get e1) (by rw [F.names]; exact hl) F.hit fun a => wSs_ok ((wq_ok 20).S (X := suX X a) ⟨F.N, F.nd, F.names, F.glo, F.nog, F.kit⟩) _
  · exact ps_x
theorem raiseA_ok (hw : Snd w) (F : Fits CX k X C) {e : Expr} {pos : Pos} : PS X (.Raise (some e) none pos) (raiseA w C e) := by
  unfold raiseA
  split
  · rename_i x es h
    obtain ⟨p, pos, rfl⟩ := callOf_eq h
    exact raiseG_ok hw F
  · exact ps_x
theorem tryA_ok (hw : Snd w) (F : Fits CX k X C) (hf : ∀ x, X.fn x = true) {body : List Stmt} {hs : List ExceptHandler} {pos : Pos} : PS X (.Try body hs [] [] pos) (tryA w C body hs) := by
  unfold tryA
  split
  · exact ps_x
  · split
    · rename_i h _
      obtain ⟨xp, hp, e⟩ := hOf_eq h
      rw [e]
      exact tryT_ok hw F
    · exact ps_tryG (wSs_ok (hw.S (fits_nox F) PassesOwn.never hf) _)
theorem stepS_ok (hw : Snd w) (F : Fits CX k X C) (hp : PassesOwn (model X.prog X.w) X.A X.env X.xe) (hf : ∀ x, X.fn x = true) : ∀ s, PS X s (stepS w C s) := fun s => by
  unfold stepS
  split
  · rename_i e p
    split
    · rename_i h
      cases e with
      | Constant c j q => cases c <;> first | exact ps_doc | cases h
      | _ => cases h
    · rename_i h1 h2
      exact ps_expr (hw.E F _) (swaps_not h2)
    · exact ps_x
  · exact ps_ret (hw.E F _)
  · exact ps_retN
  · exact ps_pass
  · exact ps_ifG (hw.T F _) (wSs_ok (hw.S F hp hf) _) (wSs_ok (hw.S F hp hf) _)
  · split
    · rename_i h
      exact ps_for2 hp F.calm (wI_ok hw F _) (wG_ok F hf _) (wSs_ok (hw.S F hp hf) _) (folded_of h)
    · exact ps_x
  · exact asgG_ok hw F hf
  · exact raiseA_ok hw F
  · exact tryA_ok hw F hf
  · exact ps_x
theorem wp_ok : ∀ n, Snd (wp n)
  | 0 => ⟨fun _ _ => pe_x, fun _ _ => pt_x, fun _ _ _ _ _ _ _ _ _ _ _ _ _ _ h => h.elim, fun _ _ _ _ => ps_x⟩
  | n + 1 => ⟨stepE_ok (wp_ok n), stepT_ok (wp_ok n), stepA_ok (wp_ok n), stepS_ok (wp_ok n)⟩
end
end Tv

set_option Elab.async false
set_option linter.all false
set_option maxRecDepth 100000
set_option maxHeartbeats 4000000
namespace Tv
open PySem PySem.Spec PyProof.Rows L2
/-- what is known of the module's names -/
structure Tabs where
  fns : List (Str × Sp) := []
  mks : List (Str × Addr × Sp) := []
  mts : List (Str × Addr × Sp) := []
  fld : List (Str × Addr) := []
  glo : List (Str × V) := []
  nog : List Str := []
  scr : List Str := []
  fvs : List (Addr × Sp) := []
  ics : List Addr := []
  exs : List (Str × Addr) := []
  kit : List (Addr × V × Bool) := []
  hit : List (Addr × Addr) := []
  top : Bool := false
def cfg (T : Tabs) (K : PySem.W.Frag) (N : List Str) (names : List (Str × NameKind)) (E : XK) : Cfg := ⟨K, N, names, T.fns, T.mks, T.mts, T.fld, T.glo, T.nog, T.scr, E, T.fvs, T.ics, T.exs, T.kit, T.hit, T.top⟩
structure Lib (P : Program) (w : World) (K : PySem.W.Frag) (mg : Str → Option Value) (base : Heap) (CX : CXT) (k : Nat) (T : Tabs) : Prop where
  fns : ∀ x sp, T.fns.lookup x = some sp → ∃ f fd ps, FnOk P w K mg base CX k f fd ps sp ∧ mg x = some (.ref f) ∧ PySem.W.keepIn K (.ref f) = true ∧ Binds K fd ps []
  mks : ∀ x cl sp, T.mks.lookup x = some (cl, sp) → ∃ f fd ps, Mk K cl f ∧ FnOk P w K mg base CX k f fd ps sp ∧ mg x = some (.ref cl) ∧ Binds K fd ps []
  mts : ∀ m cl sp, T.mts.lookup m = some (cl, sp) → ∃ f fd ps, Cls K cl ∧ Meth K cl m f ∧ FnOk P w K mg base CX k f fd ps sp ∧ Binds K fd ps []
  fld : ∀ f cl, T.fld.lookup f = some cl → Cls K cl ∧ NoAttr K cl f
  glo : ∀ x v, T.glo.lookup x = some v → ∃ u, mg x = some u ∧ RelV v u
  nog : ∀ x ∈ T.nog, mg x = none
  fvs : ∀ p ∈ T.fvs, ∃ fd ps, FnOk P w K mg base CX k p.1 fd ps p.2 ∧ PySem.W.keepIn K (.ref p.1) = true ∧ Binds K fd ps []
  ics : ∀ c ∈ T.ics, IsC K c
  exs : ∀ x cl, T.exs.lookup x = some cl → mg x = some (.ref cl) ∧ ExcC K cl
  kit : KitOk K T.kit
  hit : ∀ p ∈ T.hit, PySem.W.exmOne K (.ref p.1) (.ref p.2) = some true
section
variable {P : Program} {w : World} {K : PySem.W.Frag} {mg : Str → Option Value} {base : Heap} {CX : CXT} {k : Nat} {T : Tabs}
/-- a def whose callees raise nothing -/
theorem fn_wp (n : Nat) {x qual : Str} {st : Stmt} {f : Addr} {fd : FuncData} {N ps : List Str} {sp : Sp} (F : Fun K x qual st f fd) (S : FnScope N ps (defScope st)) (L : Lib P w K mg base CX0 k T)
    (len : ∀ vs H Q E, sp vs H Q E → vs.length = ps.length) {t : TS} (ht : wSs (wp n) (cfg T K N (defScope st).names E0) (defBody st) = t)
    (hb : ∀ vs H Q E, sp vs H Q E → t { nx := fun _ H' => Q .non H', rt := Q } (start N vs) H) (htop : T.top = false := by rfl) : FnOk P w K mg base CX0 (k + 2) f fd ps sp := by
  refine F.ok (k := k + 1) S len fun cdv A outer s H vs Q E hr h => ⟨t, ?_, hb vs H Q E h⟩
  rw [← ht]
  have Ft : Fits CX0 k (cxOf CX0 P w K mg base N qual (defScope st) f cdv A outer s H E).nox (cfg T K N (defScope st).names E0) := {
    K := rfl, N := rfl, nd := S.nd, names := rfl, kind := S.kind, calm := rfl, room := hr, pass := pass0, no := fun _ _ _ _ _ h => h,
    fns := L.fns, mks := L.mks, mts := L.mts, fld := L.fld, glo := L.glo, nog := L.nog, fvs := L.fvs, ics := L.ics, exs := L.exs, kit := L.kit, hit := L.hit, cxe := fun z => (by rw [show (cfg T K N (defScope st).names E0).top = T.top from rfl, htop] at z; cases z), rse := fun _ _ _ _ _ _ _ _ _ _ h => False.elim h }
  exact wSs_ok (fun s => (wp_ok n).S Ft PassesOwn.never (fun _ => rfl) s) _
/-- what raises nothing passes for what may -/
theorem FnOk.lift {f : Addr} {fd : FuncData} {ps : List Str} {sp : Sp} {k : Nat} (F : FnOk P w K mg base CX0 k f fd ps sp) : FnOk P w K mg base (CXE P w) k f fd ps sp :=
  ⟨F.len, fun A outer s H args us vs Q E hr he hb hv hs => codeAny_mono (F.run A outer s H args us vs Q E hr he hb hv hs) fun r s' h => by
    cases r with
    | error e => exact False.elim h
    | ok fl => cases fl <;> exact h⟩
theorem pass_E {N : List Str} {qual : Str} {scope : Scope} {f : Addr} {cd : Value} {A : Around} {outer : List Env} {s : Shared} {H : Hp} {E : XK} : Passes (CXE P w) (cxOf (CXE P w) P w K mg base N qual scope f cd A outer s H E) E :=
  fun pins σ H1 s1 e s2 I h => fly_on I rfl rfl rfl h
/-- a def that may raise: the caller's wish goes along -/
theorem fn_wpE (n : Nat) {x qual : Str} {st : Stmt} {f : Addr} {fd : FuncData} {N ps : List Str} {sp : Sp} (F : Fun K x qual st f fd) (S : FnScope N ps (defScope st)) (L : Lib P w K mg base (CXE P w) k T)
    (len : ∀ vs H Q E, sp vs H Q E → vs.length = ps.length) {t : XK → TS} (ht : ∀ E, wSs (wp n) (cfg T K N (defScope st).names E) (defBody st) = t E)
    (hb : ∀ vs H Q E, sp vs H Q E → t E { nx := fun _ H' => Q .non H', rt := Q } (start N vs) H) : FnOk P w K mg base (CXE P w) (k + 2) f fd ps sp := by
  obtain ⟨oc, od, kV, doc, pm, an, cdv, ct, osl, rfl, lk, hcd⟩ := F.ex
  refine fn_of (k := k + 1) lk hcd S len fun A outer s H vs Q E hr hsp => ⟨t E, ?_, hb vs H Q E hsp⟩
  rw [← ht E]
  have Ft : Fits (CXE P w) k (cxOf (CXE P w) P w K mg base N qual (defScope st) f cdv A outer s H E) (cfg T K N (defScope st).names E) := {
    K := rfl, N := rfl, nd := S.nd, names := rfl, kind := S.kind, calm := rfl, room := hr, pass := pass_E, no := fun _ _ _ _ _ ⟨_, _, _, _, _, _, _, _, _, h⟩ => h,
    fns := L.fns, mks := L.mks, mts := L.mts, fld := L.fld, glo := L.glo, nog := L.nog, fvs := L.fvs, ics := L.ics, exs := L.exs, kit := L.kit, hit := L.hit, cxe := fun _ => ⟨rfl, rfl, rfl⟩, rse := fun pins σ H1 s1 a cl vs h1 I hx q => fly_new I rfl rfl rfl hx q }
  exact wSs_ok (fun s => (wp_ok n).S Ft PassesOwn.leaving (fun _ => rfl) s) _
end
end Tv

set_option Elab.async false
set_option linter.all false
set_option maxRecDepth 100000
set_option maxHeartbeats 4000000
/-! ### small words for readings -/
namespace Tv
open PySem PySem.Spec PyProof.Rows L2
/-! loops -/
theorem loop_lst {a : Addr} {xs : List V} {g : TG} {tb : TS} {D : Ends} {σ : St} {H : Hp} (Pv : Nat → St → Hp → Prop) (h0 : Pv 0 σ H) (hl : ∀ i σ H, i ≤ xs.length → Pv i σ H → H a = some (.lst xs))
    (hs : ∀ i x σ H, xs[i]? = some x → Pv i σ H → g x σ H fun σ2 H2 => tb { D with nx := Pv (i + 1), ct := Pv (i + 1), bk := D.nx } σ2 H2) (hd : ∀ σ H, Pv xs.length σ H → D.nx σ H) : loopJ (Itl0 a) g tb D σ H := by
  unfold loopJ
  exact for_list0 Pv h0 (fun i σ H hi p => .inl (hl i σ H hi p)) hs hd
theorem loop_rng {lo : Int} {n : Nat} {g : TG} {tb : TS} {D : Ends} {σ : St} {H : Hp} (Pv : Nat → St → Hp → Prop) (h0 : Pv 0 σ H)
    (hs : ∀ i σ H, i < n → Pv i σ H → g (.int (lo + i)) σ H fun σ2 H2 => tb { D with nx := Pv (i + 1), ct := Pv (i + 1), bk := D.nx } σ2 H2) (hd : ∀ σ H, Pv n σ H → D.nx σ H) : loopJ (Itr lo n) g tb D σ H := by
  unfold loopJ
  exact for_range Pv h0 hs hd
/-! comprehensions -/
/-- over a text: turns that leave the heap as it is -/
theorem comp_txt {z : Str} {tn : List Str} {fr : List (Str × Nat)} {g : TG} {tt : TT} {te : TE} {σ : St} {H : Hp} {Q : VK} (f : Nat → Option V) (hz : z.length < sizeLine)
    (turn : ∀ (i c : Nat), z.cps[i]? = some c → ∀ (G : Hp) (k : Option V → Hp → Prop), k (f c) G → g (.str ⟨#[c]⟩) (inn tn fr σ) G fun σ2 G2 => tt σ2 G2 fun b G3 => br b (te σ2 G3 fun y G4 => k (some y) G4) (k none G3))
    (fin : ∀ p, H p = none → Q (.ref p) (upd H p (.lst (z.cps.toList.filterMap f)))) : compJ (Its z) tn fr g tt te σ H Q := by
  unfold compJ
  intro p hp
  exact comp_str f hz turn (fin p hp)
theorem eqv_str {a b : Str} : PyData.eqv (.str a) (.str b) = (a == b) := rfl
theorem eqv_int {a b : Int} : PyData.eqv (.int a) (.int b) = (a == b) := rfl
theorem one_lt (a b : Nat) : (([b] : List Nat) < [a]) ↔ b < a := by
  rw [List.cons_lt_cons_iff]
  constructor
  · rintro (h | ⟨_, h⟩)
    · exact h
    · exact absurd h (List.not_lt_nil _)
  · exact .inl
theorem le_one (a b : Nat) : (!decide (([b] : List Nat) < [a])) = decide (a ≤ b) := by
  by_cases h : a ≤ b
  · rw [decide_eq_true h, decide_eq_false (by rw [one_lt]; omega)]
    rfl
  · rw [decide_eq_false h, decide_eq_true (by rw [one_lt]; omega)]
    rfl
theorem all_i {p : Addr} {ys : List V} {bs : List Bool} {H : Hp} {Q : VK} (h : H p = some (.lst ys)) (hb : blsOf ys = some bs) (q : Q (.bl (bs.all id)) H) : allG [.ref p] H Q := by
  unfold allG
  simp only [h, hb]
  exact q
theorem bls_map {α : Type} (f : α → Bool) : ∀ l : List α, blsOf (l.map fun c => V.bl (f c)) = some (l.map f)
  | [] => rfl
  | a :: r => by
    rw [List.map_cons, List.map_cons]
    show (blsOf (r.map fun c => V.bl (f c))).map (f a :: ·) = _
    rw [bls_map f r]
    rfl
def lowB (c : Nat) : Bool := decide (97 ≤ c) && decide (c ≤ 122)
def nameB (z : Str) : Bool := decide (1 ≤ z.length) && decide (z.length ≤ 8) && !(z == ("all" : Str)) && z.cps.toList.all lowB
def nameV : V → Bool
  | .str z => nameB z
  | _ => false
theorem kind_str {H : Hp} {x : V} (h : kindV H x = some "str") : ∃ z, x = .str z := by
  cases x with
  | str z => exact ⟨z, rfl⟩
  | ref a =>
    unfold kindV at h
    simp only at h
    split at h <;> first | (cases h; done) | (simp at h)
  | _ => first | (cases h; done) | (simp [kindV] at h)
theorem isi_i {T S : String} {x : V} {H : Hp} {Q : VK} (hT : okTy T = true) (hk : kindV H x = some S) (q : Q (.bl (isKind S T)) H) : isiG [x, .ty T] H Q := by
  unfold isiG
  refine ⟨hT, ?_⟩
  rw [hk]
  exact q
theorem iterS_i {z : Str} {H : Hp} {R : It → Hp → Th → Prop} (q : R (Its z) H none) : iterG (.str z) H R := by
  unfold iterG
  exact q
theorem kind_lst {H : Hp} {p : Addr} {xs : List V} (h : H p = some (.lst xs)) : kindV H (.ref p) = some "list" := by
  unfold kindV
  simp only [h]
theorem kind_tup {H : Hp} {p : Addr} {xs : List V} (h : H p = some (.tup xs)) : kindV H (.ref p) = some "tuple" := by
  unfold kindV
  simp only [h]
theorem kind_dK {H : Hp} {p : Addr} {xs : List (Key × V)} (h : H p = some (.dK xs)) : kindV H (.ref p) = some "dict" := by
  unfold kindV
  simp only [h]
def t_is_name : TS :=
  (tSeq (sIf (tOrB (tNot (ptG (tCB isiG (tCons (gv 0) (tCons (tC (.ty "str")) tNil))))) (tNot (bT (chainG leG leG (tC (.int 1)) (tCB lenG (tCons (gv 0) tNil)) (tC (.int 8))))))
    (tRet (tC (.bl false)))
    tNext)
  (tRet (tAndG (tOp neG (gv 0) (tC (.str "all"))) (tCB allG (tCons (tCompI (iOf iterG (gv 0)) ["sign"] [] (gName 0) tYes (chainG leG leG (tC (.str "a")) (gv 0) (tC (.str "z")))) tNil)))))
theorem r_is_name {x : V} {S : String} {H : Hp} {D : Ends} (hk : kindV H x = some S) (hz : ∀ z, x = .str z → z.length < sizeLine) (q : ∀ H', Same H H' → D.rt (.bl (nameV x)) H') : t_is_name D [some x] H := by
  refine isi_i rfl hk ?_
  have q0 := q H (Same.refl H)
  by_cases hS : S = "str"
  · subst hS
    obtain ⟨z, rfl⟩ := kind_str hk
    have hz := hz z rfl
    have hn : nameV (.str z) = (decide (1 ≤ z.length) && decide (z.length ≤ 8) && !(z == ("all" : Str)) && z.cps.toList.all lowB) := rfl
    refine br_f rfl ⟨Nat.le_of_lt hz, ?_⟩
    refine br_dec (fun h1 => ?_) (fun h1 => ?_)
    · refine br_not (br_dec (fun h2 => ?_) (fun h2 => ?_))
      · refine br_not (br_of (fun h3 => ?_) (fun h3 => ?_))
        · rw [hn, show (z == ("all" : Str)) = true from h3] at q0
          have q0 : D.rt (.bl false) H := by simpa using q0
          exact q0
        · refine comp_i (iterS_i (comp_txt (fun c => some (.bl (lowB c))) hz ?_ ?_))
          · intro i c hc G k' hk'
            refine br_t rfl ?_
            have e1 : (!decide (([c] : List Nat) < ("a" : Str).cps.toList)) = decide (97 ≤ c) := le_one 97 c
            have e2 : (!decide (("z" : Str).cps.toList < ([c] : List Nat))) = decide (c ≤ 122) := le_one c 122
            refine br_of (fun h4 => ?_) (fun h4 => ?_)
            · have h4 : decide (97 ≤ c) = true := e1 ▸ h4
              have e3 : lowB c = decide (c ≤ 122) := by
                unfold lowB
                rw [h4, Bool.true_and]
              rw [e3, ← e2] at hk'
              exact hk'
            · have h4 : decide (97 ≤ c) = false := e1 ▸ h4
              have e3 : lowB c = false := by
                unfold lowB
                rw [h4, Bool.false_and]
              rw [e3] at hk'
              exact hk'
          · intro p hp
            have q1 := q (upd H p (.lst (z.cps.toList.filterMap fun c => some (V.bl (lowB c))))) (same_upd hp)
            refine all_i upd_same (bs := z.cps.toList.map lowB) ?_ ?_
            · rw [List.filterMap_eq_map']
              exact bls_map lowB _
            · rw [hn, decide_eq_true (show 1 ≤ z.length by omega), decide_eq_true (show z.length ≤ 8 by omega), show (z == ("all" : Str)) = false from h3] at q1
              rw [List.all_map]
              simpa using q1
      · rw [hn, decide_eq_false (show ¬ z.length ≤ 8 by omega)] at q0
        have q0 : D.rt (.bl false) H := by simpa using q0
        exact q0
    · rw [hn, decide_eq_false (show ¬ 1 ≤ z.length by omega)] at q0
      have q0 : D.rt (.bl false) H := by simpa using q0
      exact br_t rfl q0
  · have e : nameV x = false := by
      cases x with
      | str z => exact absurd (by cases hk; rfl) hS
      | _ => rfl
    rw [e] at q0
    have hi : isKind S "str" = false := by
      unfold isKind
      simp [hS]
    exact br_t (by rw [hi]; rfl) (br_t rfl q0)
theorem getS_i {z : Str} {i : Int} {c : Nat} {H : Hp} {Q : VK} (hc : atI z.cps.toList i = some c) (hz : z.length ≤ sizeLine) (q : Q (.str ⟨#[c]⟩) H) : getG (.str z) (.int i) H Q := by
  unfold getG
  simp only [hc]
  exact ⟨hz, q⟩
theorem getL_i {p : Addr} {xs : List V} {i : Int} {v : V} {H : Hp} {Q : VK} (h : H p = some (.lst xs)) (hv : atI xs i = some v) (q : Q v H) : getG (.ref p) (.int i) H Q := by
  unfold getG
  simp only [h, hv]
  exact q
theorem getT_i {p : Addr} {xs : List V} {i : Int} {v : V} {H : Hp} {Q : VK} (h : H p = some (.tup xs)) (hv : atI xs i = some v) (q : Q v H) : getG (.ref p) (.int i) H Q := by
  unfold getG
  simp only [h, hv]
  exact q
theorem lenL_i {p : Addr} {xs : List V} {H : Hp} {Q : VK} (h : H p = some (.lst xs)) (q : Q (.int xs.length) H) : lenH p H Q := by
  unfold lenH
  simp only [h]
  exact q
theorem addL_i {l b : Addr} {xs ys : List V} {H : Hp} {Q : VK} (hl : H l = some (.lst xs)) (hb : H b = some (.lst ys)) (hz : xs.length + ys.length ≤ sizeLine) (q : newO H (.lst (xs ++ ys)) Q) : addH l b H Q := by
  unfold addH
  simp only [hl, hb]
  exact ⟨hz, q⟩
theorem iterL_i {a : Addr} {xs : List V} {H : Hp} {R : It → Hp → Th → Prop} (h : H a = some (.lst xs)) (q : R (Itl0 a) H none) : iterG (.ref a) H R := by
  unfold iterG
  simp only [h]
  exact q
theorem eq_i {x y : V} {d e : PyData} {H : Hp} {Q : VK} (hx : rdD 8 H x = some d) (hy : rdD 8 H y = some e) (q : Q (.bl (PyData.eqv d e)) H) : eqH x y H Q := by
  unfold eqH eqD
  refine .inl ?_
  simp only [hx, hy]
  exact q
theorem eqL_i {p q : Addr} {xs ys : List V} {H : Hp} {Q : VK} (hp : H p = some (.lst xs)) (hq : H q = some (.lst ys)) (hl : xs.length = ys.length) (he : ∀ (i : Nat) x y, xs[i]? = some x → ys[i]? = some y → EqT H 8 x y) (h : Q (.bl true) H) : eqH (.ref p) (.ref q) H Q := by
  unfold eqH
  exact .inr ⟨p, q, xs, ys, rfl, rfl, hp, hq, hl, he, h⟩
theorem few {n : Nat} (h : Nat.ble n 1000 = true) : n ≤ sizeLine := Nat.le_of_lt (small1000 (Nat.le_of_ble_eq_true h))
end Tv

set_option Elab.async false
set_option linter.all false
set_option maxRecDepth 100000
set_option maxHeartbeats 4000000
/-! ### more small words for readings -/
namespace Tv
open PySem PySem.Spec PyProof.Rows L2
section
variable {K : PySem.W.Frag}
/-! ### cell_at -/
def cellAt (ns : List Int) (k : Int) : Int := if k < ns.length then ns.getD k.toNat 0 else 0
def sp_law_cell_at (K : PySem.W.Frag) : Sp := fun vs H Q _ => ∃ (a : Addr) (ns : List Int) (k : Int), vs = [.ref a, .int k] ∧ SqL K H a (ns.map V.int) ∧ 0 ≤ k ∧ Q (.int (cellAt ns k)) H
def t_law_cell_at (K : PySem.W.Frag) : TS :=
  (tSeq (sIf (bT (tOp ltG (gv 1) (tCB (lenS K) (tCons (gv 0) tNil))))
    (tRet (tOp (rIxL K) (gv 0) (gv 1)))
    tNext)
  (tRet (tC (.int 0))))
theorem r_law_cell_at {a : Addr} {ns : List Int} {k : Int} {H : Hp} {D : Ends} (hS : SqL K H a (ns.map V.int)) (hk : 0 ≤ k) (q : D.rt (.int (cellAt ns k)) H) : t_law_cell_at K D [some (.ref a), some (.int k)] H := by
  refine ⟨a, _, rfl, hS, ?_⟩
  unfold cellAt at q
  refine br_dec (fun h => ?_) (fun h => ?_)
  · rw [List.length_map] at h
    rw [if_pos h] at q
    obtain ⟨j, rfl⟩ : ∃ j : Nat, k = j := ⟨k.toNat, by omega⟩
    have hj : j < ns.length := by omega
    refine ⟨a, _, j, .int ns[j], rfl, rfl, hS, atI_nat (by simp [hj]), ?_⟩
    simpa [List.getD, hj] using q
  · rw [List.length_map] at h
    rw [if_neg h] at q
    exact q
end
theorem disp_i {tk tv : TE} {σ : St} {H : Hp} {Q : VK} {x v : V} {k : Key} (h1 : ∀ G R, R x G → tk σ G R) (h2 : ∀ G R, R v G → tv σ G R) (hk : x = kV k) (h : ∀ p G, H p = none → Same H G → G p = some (.dK [(k, v)]) → Q (.ref p) G) : tDisp [(tk, tv)] σ H Q := by
  intro p hp
  refine h1 _ _ (h2 _ _ ⟨upd_same, [(k, v)], by rw [hk]; rfl, by show 1 ≤ 15; decide, ?_⟩)
  rw [upd_upd]
  have e : mergeK [] [(k, v)] = [(k, v)] := by
    show putK [] k v = _
    rw [putK_new v rfl]
    rfl
  rw [e]
  exact h p _ hp (same_upd hp) upd_same
theorem sz : sizeLine = 16777216 := sizeLine_eq
def sp_is_name : Sp := fun vs H Q _ => ∃ x S, vs = [x] ∧ kindV H x = some S ∧ (∀ z, x = .str z → z.length < sizeLine) ∧ ∀ H', Same H H' → Q (.bl (nameV x)) H'
theorem mul_small {a b : Int} (h0 : 0 ≤ b) (h1 : b < 2 ^ 64) : CMul a b := .inr ⟨by omega, h1⟩
def spLaw (K : PySem.W.Frag) : Sp := fun vs H Q _ => ∃ (a : Addr) (ns : List Int), vs = [.ref a] ∧ SqL K H a (ns.map V.int) ∧ ns.length ≤ 63 ∧ ∀ H', Q (.bl true) H'
/-! built-in methods -/
theorem app_i {l : Addr} {xs : List V} {t : TA} {σ : St} {Q : VK} {H : Hp} (h : H l = some (.lst xs)) (q : t σ H fun vs H2 => appendG (.ref l) vs H2 Q) : bmK "append" t σ Q (.ref l) H := by
  unfold bmK
  have : tyB H (.ref l) = some "list" := by unfold tyB; simp only [h]
  rw [this]
  exact q
theorem app_at {l : Addr} {xs : List V} {y : V} {Q : VK} {H : Hp} (h : H l = some (.lst xs)) (hz : xs.length < sizeLine) (q : Q .non (upd H l (.lst (xs ++ [y])))) : appendG (.ref l) [y] H Q := by
  unfold appendG
  simp only [h]
  exact ⟨hz, q⟩
theorem join_i {z : Str} {t : TA} {σ : St} {Q : VK} {H : Hp} (q : t σ H fun vs H2 => joinG (.str z) vs H2 Q) : bmK "join" t σ Q (.str z) H := by
  unfold bmK
  exact q
theorem join_at {z : Str} {l : Addr} {xs : List V} {ys : List Str} {Q : VK} {H : Hp} (h : H l = some (.lst xs)) (hy : strsOf xs = some ys) (hz : (ys.map (·.length)).sum + ys.length * z.length ≤ 16777216) (q : Q (.str (Txt.join z ys)) H) : joinG (.str z) [.ref l] H Q := by
  unfold joinG
  simp only [h, hy]
  exact ⟨hz, q⟩
/-! fields, methods -/
theorem fld_i {cl : Addr} {f : Str} {p dx : Addr} {fs : List (Str × V)} {v : V} {H : Hp} {Q : VK} (h : H p = some (.ins cl dx fs)) (hf : fs.lookup f = some v) (q : Q v H) : fldK cl f (.ref p) H Q := by
  unfold fldK
  simp only [h, hf]
  exact ⟨trivial, q⟩
theorem meth_i {cl : Addr} {m : Str} {p dx : Addr} {fs : List (Str × V)} {H : Hp} {R : Prop} (h : H p = some (.ins cl dx fs)) (hf : fs.lookup m = none) (q : R) : methK cl m (.ref p) H R := by
  unfold methK
  simp only [h]
  exact ⟨trivial, hf, q⟩
theorem sfl_i {cl : Addr} {f : Str} {p dx : Addr} {y : V} {fs : List (Str × V)} {σ : St} {H : Hp} {N : St → Hp → Prop} (h : H p = some (.ins cl dx fs)) (hz : Nat.blt fs.length 1000 = true) (q : N σ (upd H p (.ins cl dx (putF f y fs)))) : sfH cl f p y σ H N := by
  unfold sfH
  simp only [h]
  exact ⟨trivial, by simpa using hz, q⟩
/-- {k: []} -/
theorem dispL_i {tk : TE} {σ : St} {H : Hp} {Q : VK} {x : V} {k : Key} (h1 : ∀ G R, R x G → tk σ G R) (hk : x = kV k) (h : ∀ p b G, H p = none → H b = none → b ≠ p → Same H G → G p = some (.dK [(k, .ref b)]) → G b = some (.lst []) → Q (.ref p) G) : tDisp [(tk, tLstG tNil)] σ H Q := by
  intro p hp
  refine h1 _ _ ⟨few rfl, new_u fun b hb => ⟨?_, [(k, .ref b)], by rw [hk]; rfl, by show 1 ≤ 15; decide, ?_⟩⟩
  · rw [upd_ne fun z => by rw [← z, upd_same] at hb; cases hb]
    exact upd_same
  have nb : b ≠ p := fun z => by
    rw [z, upd_same] at hb
    cases hb
  have hb' : H b = none := by
    rw [upd_ne nb] at hb
    exact hb
  have e : mergeK [] [(k, V.ref b)] = [(k, V.ref b)] := by
    show putK [] k _ = _
    rw [putK_new _ rfl]
    rfl
  rw [e]
  refine h p b _ hp hb' nb (fun c o q => ?_) upd_same ?_
  · rw [upd_ne (ne_of_none q hp), upd_ne (ne_of_none q hb'), upd_ne (ne_of_none q hp)]
    exact q
  · rw [upd_ne nb]
    exact upd_same
/-! dicts -/
theorem getK_i {p : Addr} {y v : V} {k : Key} {kvs : List (Key × V)} {H : Hp} {Q : VK} (h : Rd H p (.dK kvs)) (hk : keyOf y = some k) (hv : valV kvs k = some v) (q : Q v H) : getG (.ref p) y H Q := by
  unfold getG
  rcases h with h | ⟨o, h⟩
  · have : dLook H p y = some (some v) := by
      unfold dLook
      simp only [h, hk, Option.map_some, hv]
    simp only [h, this]
    exact q
  · have : dLook H p y = some (some v) := by
      unfold dLook
      simp only [h, hk, Option.map_some, hv]
    simp only [h, this]
    exact q
theorem setK_i {p : Addr} {i v : V} {k : Key} {kvs : List (Key × V)} {H : Hp} {Q : Hp → Prop} (h : H p = some (.dK kvs)) (hk : keyOf i = some k) (hz : kvs.length < sizeLine) (q : Q (upd H p (.dK (putK kvs k v)))) : setG (.ref p) i v H Q := by
  unfold setG
  simp only [h, hk]
  exact ⟨hz, q⟩
theorem setL_i {p : Addr} {i : Int} {v : V} {j : Nat} {xs : List V} {H : Hp} {Q : Hp → Prop} (h : H p = some (.lst xs)) (hj : ixN xs.length i = some j) (q : Q (upd H p (.lst (xs.set j v)))) : setG (.ref p) (.int i) v H Q := by
  unfold setG
  simp only [h, hj]
  exact q
theorem iterD_i {a : Addr} {kvs : List (Key × V)} {H : Hp} {R : It → Hp → Th → Prop} (h : H a = some (.dK kvs)) (q : ∀ o, R (Itd a o kvs) (upd H a (.frz o (.dK kvs))) (some (a, .dK kvs))) : iterG (.ref a) H R := by
  unfold iterG
  simp only [h]
  exact q
theorem items_i {a : Addr} {kvs : List (Key × V)} {H : Hp} {R : It → Hp → Th → Prop} (h : H a = some (.dK kvs)) (q : ∀ o, R (Itp a o kvs) (upd H a (.frz o (.dK kvs))) (some (a, .dK kvs))) : itemsG (.ref a) H R := by
  unfold itemsG
  simp only [h]
  exact q
theorem listL_i {p : Addr} {ys : List V} {H : Hp} {Q : VK} (h : H p = some (.lst ys)) (q : newO H (.lst ys) Q) : listG [.ref p] H Q := by
  unfold listG
  simp only [h]
  exact q
theorem listD_i {p : Addr} {kvs : List (Key × V)} {H : Hp} {Q : VK} (h : Rd H p (.dK kvs)) (q : newO H (.lst (kvs.map fun kv => kV kv.1)) Q) : listG [.ref p] H Q := by
  unfold listG
  rcases h with h | ⟨o, h⟩
  · simp only [h]
    exact q
  · simp only [h]
    exact q
theorem listS_i {z : Str} {H : Hp} {Q : VK} (hz : z.length ≤ sizeLine) (q : newO H (.lst (z.cps.toList.map fun c => V.str ⟨#[c]⟩)) Q) : listG [.str z] H Q := by
  unfold listG
  exact ⟨hz, q⟩
theorem lenT_i {p : Addr} {xs : List V} {H : Hp} {Q : VK} (h : H p = some (.tup xs)) (q : Q (.int xs.length) H) : lenH p H Q := by
  unfold lenH
  simp only [h]
  exact q
theorem inL_i {neg : Bool} {p : Addr} {x : V} {ys : List V} {es : List PyData} {d : PyData} {H : Hp} {Q : VK} (h : H p = some (.lst ys)) (he : rdAll H ys = some es) (hd : rdD 7 H x = some d) (q : Q (.bl (neg ^^ es.any fun e => PyData.eqv e d)) H) : inG neg x (.ref p) H Q := by
  unfold inG
  simp only [h, he, hd]
  exact q
theorem truL_i {p : Addr} {xs : List V} {H : Hp} {Q : Bool → Hp → Prop} (h : H p = some (.lst xs)) (q : Q (!xs.isEmpty) H) : truH p H Q := by
  unfold truH
  simp only [h]
  exact q
theorem slL_i {a : Addr} {xs : List V} {lo hi : Option Int} {H : Hp} {Q : VK} (h : H a = some (.lst xs)) (q : newO H (.lst (cutV xs lo hi)) Q) : slH a lo hi H Q := by
  unfold slH
  simp only [h]
  exact q
/-! walks -/
theorem loop_dic {a : Addr} {o : Obj} {kvs : List (Key × V)} {g : TG} {tb : TS} {D : Ends} {σ : St} {H : Hp} (Pv : Nat → St → Hp → Prop) (h0 : Pv 0 σ H) (hl : ∀ i σ H, i ≤ kvs.length → Pv i σ H → H a = some (.frz o (.dK kvs)))
    (hs : ∀ i k v σ H, kvs[i]? = some (k, v) → Pv i σ H → g (kV k) σ H fun σ2 H2 => tb { D with nx := Pv (i + 1), ct := Pv (i + 1), bk := D.nx } σ2 H2) (hd : ∀ σ H, Pv kvs.length σ H → D.nx σ H) : loopJ (Itd a o kvs) g tb D σ H := by
  unfold loopJ
  refine ⟨fun i m σ H => m = kvs.length - i ∧ i ≤ kvs.length ∧ Pv i σ H, ⟨_, rfl, Nat.zero_le _, h0⟩, ?_⟩
  rintro i m σ H ⟨rfl, hi, p⟩
  have q := hl i σ H hi p
  by_cases hlt : i < kvs.length
  · refine .inr ⟨⟨q, hlt⟩, Pv (i + 1), fun σ' H' h => ⟨_, by omega, rfl, hlt, h⟩, ?_⟩
    rintro x H' ⟨rfl, k, v, hx, rfl⟩
    exact hs i k v σ _ hx p
  · have e : i = kvs.length := by omega
    subst e
    exact .inl ⟨⟨q, Nat.le_refl _⟩, hd σ H p⟩
theorem loop_itm {a : Addr} {o : Obj} {kvs : List (Key × V)} {g : TG} {tb : TS} {D : Ends} {σ : St} {H : Hp} (Pv : Nat → St → Hp → Prop) (h0 : Pv 0 σ H) (hl : ∀ i σ H, i ≤ kvs.length → Pv i σ H → H a = some (.frz o (.dK kvs)))
    (hs : ∀ i k v t σ H G, kvs[i]? = some (k, v) → Pv i σ H → H t = none → Same H G → G t = some (.tup [kV k, v]) → G = upd H t (.tup [kV k, v]) → g (.ref t) σ G fun σ2 H2 => tb { D with nx := Pv (i + 1), ct := Pv (i + 1), bk := D.nx } σ2 H2) (hd : ∀ σ H, Pv kvs.length σ H → D.nx σ H) : loopJ (Itp a o kvs) g tb D σ H := by
  unfold loopJ
  refine ⟨fun i m σ H => m = kvs.length - i ∧ i ≤ kvs.length ∧ Pv i σ H, ⟨_, rfl, Nat.zero_le _, h0⟩, ?_⟩
  rintro i m σ H ⟨rfl, hi, p⟩
  have q := hl i σ H hi p
  by_cases hlt : i < kvs.length
  · refine .inr ⟨⟨q, hlt⟩, Pv (i + 1), fun σ' H' h => ⟨_, by omega, rfl, hlt, h⟩, ?_⟩
    rintro x H' ⟨k, v, t, hx, rfl, ht, rfl⟩
    exact hs i k v t σ H _ hx p ht (same_upd ht) upd_same rfl
  · have e : i = kvs.length := by omega
    subst e
    exact .inl ⟨⟨q, Nat.le_refl _⟩, hd σ H p⟩
/-- a comprehension whose turns leave the heap as it is: J gives the values xs -/
theorem comp_of {J : It} {xs : List V} {tn : List Str} {fr : List (Str × Nat)} {g : TG} {tt : TT} {te : TE} {σ : St} {H : Hp} {Q : VK} (f : V → Option V) (hz : xs.length < sizeLine)
    (hJ : ∀ G, Same H G → (∀ i, i < xs.length → J.go i G) ∧ J.stop xs.length G ∧ ∀ i x G', i < xs.length → J.yld i G x G' → G' = G ∧ xs[i]? = some x)
    (turn : ∀ (i : Nat) (x : V), xs[i]? = some x → ∀ (G : Hp) (k : Option V → Hp → Prop), Same H G → k (f x) G → g x (inn tn fr σ) G fun σ2 G2 => tt σ2 G2 fun b G3 => br b (te σ2 G3 fun y G4 => k (some y) G4) (k none G3))
    (fin : ∀ p G, H p = none → Same H G → G p = some (.lst (xs.filterMap f)) → Q (.ref p) G) : compJ J tn fr g tt te σ H Q := by
  unfold compJ
  intro p hp
  refine ⟨fun i m G => m = xs.length - i ∧ i ≤ xs.length ∧ Same H G ∧ G p = some (.lst ((xs.take i).filterMap f)), ⟨_, rfl, Nat.zero_le _, same_upd hp, by simp [upd_same]⟩, ?_⟩
  rintro i m G ⟨rfl, hi, sm, hg⟩
  obtain ⟨j1, j2, j3⟩ := hJ G sm
  by_cases hlt : i < xs.length
  · refine .inr ⟨j1 i hlt, fun G' => Same H G' ∧ G' p = some (.lst ((xs.take (i + 1)).filterMap f)), fun G' h => ⟨_, by omega, rfl, hlt, h⟩, fun x G' y => ?_⟩
    obtain ⟨rfl, hx⟩ := j3 i x G' hlt y
    have et : xs.take (i + 1) = xs.take i ++ [x] := by
      rw [List.take_succ, hx]
      rfl
    have hlen : ((xs.take i).filterMap f).length < sizeLine := by
      have := List.length_filterMap_le f (xs.take i)
      have h2 := List.length_take_le i xs
      omega
    refine turn i x hx _ (fun r G4 => match r with
      | some y => ∃ ys, G4 p = some (.lst ys) ∧ ys.length < sizeLine ∧ Same H (upd G4 p (.lst (ys ++ [y]))) ∧ (upd G4 p (.lst (ys ++ [y]))) p = some (.lst ((xs.take (i + 1)).filterMap f))
      | none => Same H G4 ∧ G4 p = some (.lst ((xs.take (i + 1)).filterMap f))) sm ?_
    cases e : f x with
    | none =>
      refine ⟨sm, ?_⟩
      rw [et, List.filterMap_append]
      simpa [e] using hg
    | some y =>
      refine ⟨_, hg, hlen, sm.put hp, ?_⟩
      rw [upd_same, et, List.filterMap_append]
      simp [e]
  · have e : i = xs.length := by omega
    subst e
    rw [List.take_length] at hg
    exact .inl ⟨j2, fin p G hp sm hg⟩
theorem comp_dic {a : Addr} {o : Obj} {kvs : List (Key × V)} {tn : List Str} {fr : List (Str × Nat)} {g : TG} {tt : TT} {te : TE} {σ : St} {H : Hp} {Q : VK} (f : V → Option V) (ha : H a = some (.frz o (.dK kvs))) (hz : kvs.length < sizeLine)
    (turn : ∀ (i : Nat) (x : V), (kvs.map fun kv => kV kv.1)[i]? = some x → ∀ (G : Hp) (k : Option V → Hp → Prop), Same H G → k (f x) G → g x (inn tn fr σ) G fun σ2 G2 => tt σ2 G2 fun b G3 => br b (te σ2 G3 fun y G4 => k (some y) G4) (k none G3))
    (fin : ∀ p G, H p = none → Same H G → G p = some (.lst ((kvs.map fun kv => kV kv.1).filterMap f)) → Q (.ref p) G) : compJ (Itd a o kvs) tn fr g tt te σ H Q := by
  refine comp_of f (by rw [List.length_map]; exact hz) (fun G sm => ?_) turn fin
  rw [List.length_map]
  refine ⟨fun i hi => ⟨sm _ _ ha, hi⟩, ⟨sm _ _ ha, Nat.le_refl _⟩, ?_⟩
  rintro i x G' hi ⟨rfl, k, v, hx, rfl⟩
  exact ⟨rfl, by simp [hx]⟩
theorem comp_l {a : Addr} {xs : List V} {tn : List Str} {fr : List (Str × Nat)} {g : TG} {tt : TT} {te : TE} {σ : St} {H : Hp} {Q : VK} (f : V → Option V) (ha : H a = some (.lst xs)) (hz : xs.length < sizeLine)
    (turn : ∀ (i : Nat) (x : V), xs[i]? = some x → ∀ (G : Hp) (k : Option V → Hp → Prop), Same H G → k (f x) G → g x (inn tn fr σ) G fun σ2 G2 => tt σ2 G2 fun b G3 => br b (te σ2 G3 fun y G4 => k (some y) G4) (k none G3))
    (fin : ∀ p G, H p = none → Same H G → G p = some (.lst (xs.filterMap f)) → Q (.ref p) G) : compJ (Itl0 a) tn fr g tt te σ H Q := by
  refine comp_of f hz (fun G sm => ?_) turn fin
  refine ⟨fun i hi => ⟨xs, xs[i], .inl (sm _ _ ha), by simp [hi]⟩, ⟨xs, .inl (sm _ _ ha), Nat.le_refl _⟩, ?_⟩
  rintro i x G' hi ⟨rfl, h⟩
  exact ⟨rfl, h xs (.inl (sm _ _ ha))⟩
/-! heaps -/
theorem same_thaw {H G : Hp} {a : Addr} {u f : HO} (h : H a = some u) (s : Same (upd H a f) G) : Same H (upd G a u) := fun b o e => by
  by_cases z : b = a
  · subst z
    rw [h] at e
    cases e
    exact upd_same
  · rw [upd_ne z]
    exact s b o (by rw [upd_ne z]; exact e)
theorem frz_free {H : Hp} {a p : Addr} {f : HO} (h : upd H a f p = none) : H p = none ∧ p ≠ a := by
  by_cases z : p = a
  · subst z
    rw [upd_same] at h
    cases h
  · rw [upd_ne z] at h
    exact ⟨h, z⟩
/-- all but one object as it was -/
def SameX (x : Addr) (H G : Hp) : Prop := ∀ b o, b ≠ x → H b = some o → G b = some o
theorem SameX.trans {x : Addr} {H G J : Hp} (a : SameX x H G) (b : SameX x G J) : SameX x H J := fun c o n e => b c o n (a c o n e)
theorem same_x {x : Addr} {H G : Hp} (s : Same H G) : SameX x H G := fun b o _ e => s b o e
theorem sameX_upd {x : Addr} {H : Hp} {o : HO} : SameX x H (upd H x o) := fun b u n e => by
  rw [upd_ne n]
  exact e
end Tv

set_option Elab.async false
set_option linter.all false
set_option maxRecDepth 100000
set_option maxHeartbeats 4000000
namespace Tv
open PySem PySem.Spec PyProof.Rows L2
/-- a def that keeps a promise, under its name -/
def FnE (P : Program) (w : World) (K : PySem.W.Frag) (mg : Str → Option Value) (base : Heap) (CX : CXT) (k : Nat) (x : Str) (sp : Sp) : Prop :=
  ∃ f fd ps, FnOk P w K mg base CX k f fd ps sp ∧ mg x = some (.ref f) ∧ PySem.W.keepIn K (.ref f) = true ∧ Binds K fd ps []
section
variable {P : Program} {w : World} {K : PySem.W.Frag} {mg : Str → Option Value} {base : Heap} {CX : CXT} {j k : Nat} {T : Tabs} {x : Str} {sp : Sp}
theorem FnE.mono (h : FnE P w K mg base CX j x sp) (hj : j ≤ k) : FnE P w K mg base CX k x sp := by
  obtain ⟨f, fd, ps, F, r⟩ := h
  exact ⟨f, fd, ps, F.mono hj, r⟩
/-- all of a list's entries -/
inductive Ents {α : Type} (R : Str → α → Prop) : List (Str × α) → Prop where
  | nil : Ents R []
  | cons {x : Str} {a : α} {r : List (Str × α)} (h : R x a) (t : Ents R r) : Ents R ((x, a) :: r)
theorem Ents.get {α : Type} {R : Str → α → Prop} : ∀ {l : List (Str × α)}, Ents R l → ∀ x a, l.lookup x = some a → R x a
  | _, .nil, x, a, h => by cases h
  | _, .cons h t, x, a, e => by
    rw [List.lookup_cons] at e
    split at e
    · rename_i q
      cases e
      have := eq_of_beq q
      subst this
      exact h
    · exact t.get x a e
/-- what the top has written of a def: its name, its object -/
structure DefAt (K : PySem.W.Frag) (mg : Str → Option Value) (x : Str) (st : Stmt) (ps : List Str) (f : Addr) (fd : FuncData) : Prop where
  fn : Fun K x x st f fd
  b : Binds K fd ps []
  m : mg x = some (.ref f)
theorem defAt {h : Heap} {st : Stmt} {ps : List Str} {f : Addr} {oc : Value} {od an : Option Addr} {osl : Array (Option Value)} {kV doc pm cdv ct : Value} (X : K.In h) (G : h.Ns mainGlobals mg)
    (a : PySem.W.nsIn K mainGlobals x = some (some (.ref f))) (l : K.lookup f = some ⟨oc, od, .func (PySem.W.fnOf x x (defArgs st) (defBody st) (defScope st) .none kV doc pm an cdv ct), osl⟩) (c : PySem.W.codeIn K cdv x = true) (k : PySem.W.keepIn K (.ref f) = true)
    (hb : ∀ (kV doc pm : Value) (an : Option Addr) (cdv ct : Value) (us : List Value), us.length = ps.length → bindArgs (PySem.W.fnOf x x (defArgs st) (defBody st) (defScope st) .none kV doc pm an cdv ct) ⟨us, []⟩ = pure (ps.zip us)) :
    ∃ fd, DefAt K mg x st ps f fd := by
  have F := fun_mk (st := st) l c k
  exact ⟨_, F, F.binds hb, PySem.W.mg_of X G a⟩
theorem DefAt.ok {st : Stmt} {N ps : List Str} {f : Addr} {fd : FuncData} (A : DefAt K mg x st ps f fd) (n : Nat) (S : FnScope N ps (defScope st)) (L : Lib P w K mg base CX0 k T)
    (len : ∀ vs H Q E, sp vs H Q E → vs.length = ps.length) {t : TS} (ht : wSs (wp n) (cfg T K N (defScope st).names E0) (defBody st) = t)
    (hb : ∀ vs H Q E, sp vs H Q E → t { nx := fun _ H' => Q .non H', rt := Q } (start N vs) H) (htop : T.top = false := by rfl) : FnE P w K mg base CX0 (k + 2) x sp :=
  ⟨f, fd, ps, fn_wp n A.fn S L len ht hb htop, A.m, A.fn.kp, A.b⟩
/-- a class's method, its maker -/
def MtE (P : Program) (w : World) (K : PySem.W.Frag) (mg : Str → Option Value) (base : Heap) (CX : CXT) (k : Nat) (m : Str) (p : Addr × Sp) : Prop :=
  ∃ f fd ps, Meth K p.1 m f ∧ FnOk P w K mg base CX k f fd ps p.2 ∧ Binds K fd ps []
def MkE (P : Program) (w : World) (K : PySem.W.Frag) (mg : Str → Option Value) (base : Heap) (CX : CXT) (k : Nat) (x : Str) (p : Addr × Sp) : Prop :=
  ∃ f fd ps, Mk K p.1 f ∧ FnOk P w K mg base CX k f fd ps p.2 ∧ mg x = some (.ref p.1) ∧ Binds K fd ps []
theorem MtE.mono {p : Addr × Sp} (h : MtE P w K mg base CX j x p) (hj : j ≤ k) : MtE P w K mg base CX k x p := by
  obtain ⟨f, fd, ps, M, F, r⟩ := h
  exact ⟨f, fd, ps, M, F.mono hj, r⟩
theorem MkE.mono {p : Addr × Sp} (h : MkE P w K mg base CX j x p) (hj : j ≤ k) : MkE P w K mg base CX k x p := by
  obtain ⟨f, fd, ps, M, F, r⟩ := h
  exact ⟨f, fd, ps, M, F.mono hj, r⟩
theorem MtE.mk {cl : Addr} {m qual : Str} {st : Stmt} {N ps : List Str} {f : Addr} {fd : FuncData} (M : Meth K cl m f) (F : Fun K m qual st f fd) (b : Binds K fd ps []) (n : Nat) (S : FnScope N ps (defScope st)) (L : Lib P w K mg base CX0 k T)
    (len : ∀ vs H Q E, sp vs H Q E → vs.length = ps.length) {t : TS} (ht : wSs (wp n) (cfg T K N (defScope st).names E0) (defBody st) = t)
    (hb : ∀ vs H Q E, sp vs H Q E → t { nx := fun _ H' => Q .non H', rt := Q } (start N vs) H) (htop : T.top = false := by rfl) : MtE P w K mg base CX0 (k + 2) m (cl, sp) :=
  ⟨f, fd, ps, M, fn_wp n F S L len ht hb htop, b⟩
/-! .. that may raise -/
theorem DefAt.okE {st : Stmt} {N ps : List Str} {f : Addr} {fd : FuncData} (A : DefAt K mg x st ps f fd) (n : Nat) (S : FnScope N ps (defScope st)) (L : Lib P w K mg base (CXE P w) k T)
    (len : ∀ vs H Q E, sp vs H Q E → vs.length = ps.length) {t : XK → TS} (ht : ∀ E, wSs (wp n) (cfg T K N (defScope st).names E) (defBody st) = t E)
    (hb : ∀ vs H Q E, sp vs H Q E → t E { nx := fun _ H' => Q .non H', rt := Q } (start N vs) H) : FnE P w K mg base (CXE P w) (k + 2) x sp :=
  ⟨f, fd, ps, fn_wpE n A.fn S L len ht hb, A.m, A.fn.kp, A.b⟩
theorem MkE.mkE {cl : Addr} {m qual : Str} {st : Stmt} {N ps : List Str} {f : Addr} {fd : FuncData} (M : Mk K cl f) (hx : mg x = some (.ref cl)) (F : Fun K m qual st f fd) (b : Binds K fd ps []) (n : Nat) (S : FnScope N ps (defScope st)) (L : Lib P w K mg base (CXE P w) k T)
    (len : ∀ vs H Q E, sp vs H Q E → vs.length = ps.length) {t : XK → TS} (ht : ∀ E, wSs (wp n) (cfg T K N (defScope st).names E) (defBody st) = t E)
    (hb : ∀ vs H Q E, sp vs H Q E → t E { nx := fun _ H' => Q .non H', rt := Q } (start N vs) H) : MkE P w K mg base (CXE P w) (k + 2) x (cl, sp) :=
  ⟨f, fd, ps, M, fn_wpE n F S L len ht hb, hx, b⟩
/-- a def as a value -/
def FvE (P : Program) (w : World) (K : PySem.W.Frag) (mg : Str → Option Value) (base : Heap) (CX : CXT) (k : Nat) (p : Addr × Sp) : Prop :=
  ∃ fd ps, FnOk P w K mg base CX k p.1 fd ps p.2 ∧ PySem.W.keepIn K (.ref p.1) = true ∧ Binds K fd ps []
theorem lib_cls {C : Addr} (c : Cls K C) (h : Ents (FnE P w K mg base CX k) T.fns) (hm : Ents (MkE P w K mg base CX k) T.mks) (ht : Ents (fun m p => p.1 = C ∧ MtE P w K mg base CX k m p) T.mts) (hf : Ents (fun f cl => cl = C ∧ NoAttr K cl f) T.fld)
    (hg : ∀ x v, T.glo.lookup x = some v → ∃ u, mg x = some u ∧ RelV v u) (hn : ∀ x ∈ T.nog, mg x = none) (hv : ∀ p ∈ T.fvs, FvE P w K mg base CX k p := by intro p hp; cases hp) (hi : ∀ c ∈ T.ics, IsC K c := by intro c hc; cases hc) (he : ∀ x cl, T.exs.lookup x = some cl → mg x = some (.ref cl) ∧ ExcC K cl := by intro x cl e; cases e) (hk : KitOk K T.kit := by intro p hp; cases hp) (hh : ∀ p ∈ T.hit, PySem.W.exmOne K (.ref p.1) (.ref p.2) = some true := by intro p hp; cases hp) : Lib P w K mg base CX k T where
  ics := hi
  exs := he
  kit := hk
  hit := hh
  fvs := hv
  fns := h.get
  mks := fun x cl sp e => hm.get x (cl, sp) e
  mts := fun x cl sp e => by
    obtain ⟨e, f, fd, ps, M, F, b⟩ := ht.get x (cl, sp) e
    have e : cl = C := e
    subst e
    exact ⟨f, fd, ps, c, M, F, b⟩
  fld := fun x cl e => by
    obtain ⟨e, n⟩ := hf.get x cl e
    subst e
    exact ⟨c, n⟩
  glo := hg
  nog := hn
end
end Tv

set_option Elab.async false
set_option linter.all false
set_option maxRecDepth 100000
set_option maxHeartbeats 4000000
/-! ### houses.py -/
namespace Tv
open PySem PySem.Spec PyProof.Rows L2
abbrev sts (zs : List Str) : List V := zs.map V.str
theorem strsOf_map : ∀ zs : List Str, strsOf (sts zs) = some zs
  | [] => rfl
  | z :: r => by
    rw [sts, List.map_cons]
    show (match strsOf (sts r) with | some l => some (z :: l) | none => none) = _
    rw [strsOf_map r]
theorem rd_strs (n : Nat) (H : Hp) : ∀ zs : List Str, (sts zs).mapM (rdD n H) = some (zs.map PyData.str)
  | [] => by simp
  | z :: r => by
    rw [sts, List.map_cons, mapM_cons]
    have : rdD n H (.str z) = some (.str z) := by cases n <;> rfl
    rw [this, Option.bind_some, show (r.map V.str).mapM (rdD n H) = some (r.map PyData.str) from rd_strs n H r]
    rfl
theorem any_str (zs : List Str) (z : Str) : ((zs.map PyData.str).any fun e => PyData.eqv e (.str z)) = decide (z ∈ zs) := by
  induction zs with
  | nil => simp
  | cons a r ih =>
    rw [List.map_cons, List.any_cons, ih, show PyData.eqv (.str a) (.str z) = (a == z) from rfl]
    by_cases h : a = z
    · subst h
      simp
    · have : ¬ z = a := fun e => h e.symm
      simp [h, this]
theorem inS_i {neg : Bool} {p : Addr} {z : Str} {zs : List Str} {H : Hp} {Q : VK} (h : H p = some (.lst (sts zs))) (q : Q (.bl (neg ^^ decide (z ∈ zs))) H) : inG neg (.str z) (.ref p) H Q :=
  inL_i h (rd_strs 7 H zs) rfl (by rw [any_str]; exact q)
theorem atS {zs : List Str} {j : Nat} {z : Str} (h : zs[j]? = some z) : atI (sts zs) (j : Int) = some (.str z) := atI_nat (by simp [h])
/-! names -/
theorem nameB_at {z : Str} (h : nameB z = true) : 1 ≤ z.length ∧ z.length ≤ 8 ∧ z ≠ "all" := by
  unfold nameB at h
  simp only [Bool.and_eq_true, decide_eq_true_eq, Bool.not_eq_true', beq_eq_false_iff_ne] at h
  exact ⟨h.1.1.1, h.1.1.2, h.1.2⟩
def Nms (zs : List Str) : Prop := (∀ z ∈ zs, nameB z = true) ∧ zs.Nodup
/-! plain_text -/
def sp_plain_text : Sp := fun vs H Q _ => ∃ z : Str, vs = [.str z] ∧ z.length ≤ 1000 ∧ ∀ H', Same H H' → Q (.str z) H'
def t_plain_text : TS :=
  (tRet (tBmG "join" (tC (.str "")) (tCons (tCB listG (tCons (gv 0) tNil)) tNil)))
theorem join_signs : ∀ l : List Nat, (Str.join "" (l.map fun c => (⟨#[c]⟩ : Str))).cps.toList = l
  | [] => rfl
  | [c] => rfl
  | c :: d :: r => by
    have ih := join_signs (d :: r)
    rw [List.map_cons] at ih ⊢
    show ((⟨#[c]⟩ : Str) ++ "" ++ Str.join "" ((d :: r).map fun c => (⟨#[c]⟩ : Str))).cps.toList = _
    rw [app_list, app_list]
    rw [List.map_cons, ih]
    rfl
theorem str_ext {a b : Str} (h : a.cps.toList = b.cps.toList) : a = b := by
  obtain ⟨⟨l⟩⟩ := a
  obtain ⟨⟨m⟩⟩ := b
  simp at h
  subst h
  rfl
theorem join_all (z : Str) : Txt.join "" (z.cps.toList.map fun c => (⟨#[c]⟩ : Str)) = z := by
  show Builtin.Str.glued _ _ = _
  rw [StrLaws.glued_eq_join]
  exact str_ext (join_signs _)
theorem sum_ones : ∀ l : List Nat, ((l.map fun c => (⟨#[c]⟩ : Str)).map (·.length)).sum = l.length
  | [] => rfl
  | c :: r => by
    rw [List.map_cons, List.map_cons, List.sum_cons, sum_ones r, List.length_cons]
    show 1 + _ = _
    omega
theorem r_plain_text {z : Str} {H : Hp} {D : Ends} (hz : z.length ≤ 1000) (q : ∀ H', Same H H' → D.rt (.str z) H') : t_plain_text D [some (.str z)] H := by
  have hs := sz
  refine join_i (listS_i (by omega) (new_i fun p G n s h => ?_))
  have e : (z.cps.toList.map fun c => V.str ⟨#[c]⟩) = sts (z.cps.toList.map fun c => (⟨#[c]⟩ : Str)) := by rw [sts, List.map_map]; rfl
  rw [e] at h
  refine join_at h (strsOf_map _) ?_ ?_
  · rw [sum_ones]
    have e0 : ("" : Str).length = 0 := rfl
    have : z.cps.toList.length = z.length := by rw [Array.length_toList]; rfl
    rw [e0, Nat.mul_zero]
    omega
  · rw [join_all]
    exact q G s
/-! checked_name, checked_above -/
/-! checked_columns -/
theorem nd_take {α : Type} {xs : List α} (h : xs.Nodup) {i : Nat} {x : α} (hx : xs[i]? = some x) : x ∉ xs.take i := by
  intro m
  obtain ⟨j, hj, e⟩ := List.mem_iff_getElem.mp m
  have hi := (List.getElem?_eq_some_iff.mp hx).1
  rw [List.length_take] at hj
  rw [List.getElem_take] at e
  have e2 : xs[i] = x := (List.getElem?_eq_some_iff.mp hx).2
  have hp := List.pairwise_iff_getElem.mp h j i (by omega) hi (by omega)
  exact hp (e.trans e2.symm)
theorem take_snoc {α : Type} {xs : List α} {i : Nat} {x : α} (hx : xs[i]? = some x) : xs.take (i + 1) = xs.take i ++ [x] := by
  rw [List.take_succ, hx]
  rfl
theorem sts_at {zs : List Str} {i : Nat} {x : V} (h : (sts zs)[i]? = some x) : ∃ z, zs[i]? = some z ∧ x = .str z := by
  rw [sts, List.getElem?_map] at h
  cases e : zs[i]? with
  | none => rw [e] at h; cases h
  | some z => rw [e] at h; cases h; exact ⟨z, rfl, rfl⟩
theorem sts_snoc (zs : List Str) (z : Str) : sts zs ++ [.str z] = sts (zs ++ [z]) := by simp [sts]
/-! pairs of texts -/
def PairsAt (H : Hp) (xs : List V) (ps : List (Str × Str)) : Prop := xs.length = ps.length ∧ ∀ (i : Nat) q, ps[i]? = some q → ∃ t, xs[i]? = some (.ref t) ∧ H t = some (.tup [.str q.1, .str q.2])
theorem PairsAt.same {H G : Hp} {xs : List V} {ps : List (Str × Str)} (h : PairsAt H xs ps) (s : Same H G) : PairsAt G xs ps := ⟨h.1, fun i q e => by
  obtain ⟨t, e1, e2⟩ := h.2 i q e
  exact ⟨t, e1, s _ _ e2⟩⟩
theorem PairsAt.put {H : Hp} {xs ys : List V} {ps : List (Str × Str)} {l : Addr} {o : HO} (h : PairsAt H xs ps) (hl : H l = some (.lst ys)) : PairsAt (upd H l o) xs ps := ⟨h.1, fun i q e => by
  obtain ⟨t, e1, e2⟩ := h.2 i q e
  refine ⟨t, e1, ?_⟩
  rw [upd_ne fun z => by rw [z, hl] at e2; cases e2]
  exact e2⟩
theorem PairsAt.nil {H : Hp} : PairsAt H [] [] := ⟨rfl, fun i q e => by simp at e⟩
theorem PairsAt.snoc {H : Hp} {xs : List V} {ps : List (Str × Str)} {t : Addr} {q : Str × Str} (h : PairsAt H xs ps) (ht : H t = some (.tup [.str q.1, .str q.2])) : PairsAt H (xs ++ [.ref t]) (ps ++ [q]) := by
  refine ⟨by simp [h.1], fun i r e => ?_⟩
  by_cases hi : i < ps.length
  · rw [List.getElem?_append_left hi] at e
    rw [List.getElem?_append_left (by rw [h.1]; exact hi)]
    exact h.2 i r e
  · have hi2 : i = ps.length := by
      have := (List.getElem?_eq_some_iff.mp e).1
      simp at this
      omega
    subst hi2
    simp at e
    subst e
    exact ⟨t, by rw [← h.1]; simp, ht⟩
theorem PairsAt.at {H : Hp} {xs : List V} {ps : List (Str × Str)} (h : PairsAt H xs ps) {i : Nat} {x : V} (hx : xs[i]? = some x) : ∃ q t, ps[i]? = some q ∧ x = .ref t ∧ H t = some (.tup [.str q.1, .str q.2]) := by
  have hi := (List.getElem?_eq_some_iff.mp hx).1
  rw [h.1] at hi
  obtain ⟨t, e1, e2⟩ := h.2 i ps[i] (by simp [hi])
  rw [hx] at e1
  cases e1
  exact ⟨ps[i], t, by simp [hi], rfl, e2⟩
/-! checked_parts -/
structure Good (ps : List (Str × Str)) : Prop where
  one : 1 ≤ ps.length
  many : ps.length ≤ 24
  nms : Nms (ps.map (·.1))
  abv : ∀ (i : Nat) q, ps[i]? = some q → q.2 = "all" ∨ q.2 ∈ (ps.take i).map (·.1)
def abvD (ps : List (Str × Str)) : List (Key × V) := ps.map fun q => (.inr q.1, .str q.2)
theorem abv_keys (ps : List (Str × Str)) : ((abvD ps).map fun kv => kV kv.1) = sts (ps.map (·.1)) := by
  unfold abvD
  rw [sts, List.map_map, List.map_map]
  rfl
theorem abv_none {ps : List (Str × Str)} {n : Str} (h : n ∉ ps.map (·.1)) : valV (abvD ps) (Sum.inr n) = none := by
  induction ps with
  | nil => rfl
  | cons a r ih =>
    unfold abvD
    rw [List.map_cons] at h ⊢
    rw [valV_neg (fun e => h (by
      have : a.1 = n := by injection e
      rw [this]
      simp))]
    exact ih fun m => h (List.mem_cons_of_mem _ m)
theorem good_fst {ps : List (Str × Str)} {i : Nat} {q : Str × Str} (h : ps[i]? = some q) : (ps.map (·.1))[i]? = some q.1 := by simp [h]
theorem Good.len2 {ps : List (Str × Str)} (g : Good ps) {i : Nat} {q : Str × Str} (h : ps[i]? = some q) : q.2.length ≤ 8 := by
  rcases g.abv i q h with e | m
  · rw [e]
    decide
  · have : q.2 ∈ ps.map (·.1) := by
      obtain ⟨r, hr, e⟩ := List.mem_map.mp m
      exact List.mem_map.mpr ⟨r, List.mem_of_mem_take hr, e⟩
    exact (nameB_at (g.nms.1 _ this)).2.1
/-! paired -/
end Tv

set_option Elab.async false
set_option linter.all false
set_option maxRecDepth 100000
set_option maxHeartbeats 4000000
namespace Tv
open PySem PySem.Spec PyProof.Rows L2
/-! turned_about -/
theorem same_frz {H G : Hp} {a : Addr} {f : HO} (s : Same H G) : Same (upd H a f) (upd G a f) := fun b o e => by
  by_cases z : b = a
  · subst z
    rw [upd_same] at e ⊢
    exact e
  · rw [upd_ne z] at e ⊢
    exact s b o e
def below (ps : List (Str × Str)) (k : Str) : List Str := (ps.filter fun q => q.2 == k).map (·.1)
theorem below_snoc (ps : List (Str × Str)) (q : Str × Str) (k : Str) : below (ps ++ [q]) k = below ps k ++ if q.2 = k then [q.1] else [] := by
  unfold below
  rw [List.filter_append, List.map_append]
  congr 1
  by_cases h : q.2 = k <;> simp [h]
def benD (ks : List Str) (bs : List Addr) : List (Key × V) := (ks.zip bs).map fun e => (Sum.inr e.1, V.ref e.2)
structure Ben (G : Hp) (b : Addr) (bs : List Addr) (ks : List Str) (f : Str → List Str) : Prop where
  len : bs.length = ks.length
  nd : bs.Nodup
  d : G b = some (.dK (benD ks bs))
  l : ∀ (i : Nat) k a, ks[i]? = some k → bs[i]? = some a → G a = some (.lst (sts (f k)))
theorem val_zip : ∀ {ks : List Str} {bs : List Addr} {j : Nat} {k : Str} {c : Addr}, ks.Nodup → ks[j]? = some k → bs[j]? = some c → valV (benD ks bs) (Sum.inr k) = some (.ref c)
  | [], bs, j, k, c, _, h, _ => by simp at h
  | _ :: _, [], j, k, c, _, _, h => by simp at h
  | a :: ks, b :: bs, 0, k, c, _, h1, h2 => by
    simp at h1 h2
    subst h1 h2
    exact valV_pos rfl
  | a :: ks, b :: bs, j + 1, k, c, hn, h1, h2 => by
    obtain ⟨n1, n2⟩ := List.nodup_cons.mp hn
    have h1' : ks[j]? = some k := by simpa using h1
    have h2' : bs[j]? = some c := by simpa using h2
    show valV ((Sum.inr a, V.ref b) :: benD ks bs) (Sum.inr k) = _
    rw [valV_neg]
    · exact val_zip n2 h1' h2'
    · intro e
      have : a = k := by injection e
      subst this
      exact n1 (List.mem_of_getElem? h1')
theorem ben_none {ks : List Str} {bs : List Addr} {k : Str} (h : k ∉ ks) : valV (benD ks bs) (Sum.inr k) = none := by
  induction ks generalizing bs with
  | nil => rfl
  | cons a r ih =>
    cases bs with
    | nil => rfl
    | cons b bs =>
      show valV ((Sum.inr a, V.ref b) :: benD r bs) (Sum.inr k) = none
      rw [valV_neg (fun e => h (by
        have : a = k := by injection e
        rw [this]
        simp))]
      exact ih fun m => h (List.mem_cons_of_mem _ m)
theorem benD_len (ks : List Str) (bs : List Addr) : (benD ks bs).length ≤ ks.length := by
  unfold benD
  rw [List.length_map, List.length_zip]
  omega
theorem benD_snoc {ks : List Str} {bs : List Addr} (k : Str) (b : Addr) (h : bs.length = ks.length) : benD (ks ++ [k]) (bs ++ [b]) = benD ks bs ++ [(Sum.inr k, V.ref b)] := by
  unfold benD
  rw [List.zip_append h.symm, List.map_append]
  rfl
theorem Ben.to {G G' : Hp} {b : Addr} {bs : List Addr} {ks : List Str} {f : Str → List Str} (h : Ben G b bs ks f) (hb : G' b = G b) (hl : ∀ c ∈ bs, G' c = G c) : Ben G' b bs ks f :=
  ⟨h.len, h.nd, by rw [hb]; exact h.d, fun i k a e1 e2 => by rw [hl a (List.mem_of_getElem? e2)]; exact h.l i k a e1 e2⟩
theorem Ben.same {G G' : Hp} {b : Addr} {bs : List Addr} {ks : List Str} {f : Str → List Str} (h : Ben G b bs ks f) (s : Same G G') : Ben G' b bs ks f :=
  ⟨h.len, h.nd, s _ _ h.d, fun i k a e1 e2 => s _ _ (h.l i k a e1 e2)⟩
theorem Ben.congr {G : Hp} {b : Addr} {bs : List Addr} {ks : List Str} {f f' : Str → List Str} (h : Ben G b bs ks f) (e : ∀ k ∈ ks, f k = f' k) : Ben G b bs ks f' :=
  ⟨h.len, h.nd, h.d, fun i k a e1 e2 => by rw [← e k (List.mem_of_getElem? e1)]; exact h.l i k a e1 e2⟩
/-- every list's address is there -/
theorem Ben.get {G : Hp} {b : Addr} {bs : List Addr} {ks : List Str} {f : Str → List Str} (h : Ben G b bs ks f) (hn : ks.Nodup) {k : Str} (hk : k ∈ ks) : ∃ (j : Nat) (c : Addr), ks[j]? = some k ∧ bs[j]? = some c ∧ valV (benD ks bs) (Sum.inr k) = some (.ref c) ∧ G c = some (.lst (sts (f k))) := by
  obtain ⟨j, hj⟩ := List.mem_iff_getElem?.mp hk
  have hl := (List.getElem?_eq_some_iff.mp hj).1
  obtain ⟨c, hc⟩ : ∃ c, bs[j]? = some c := ⟨bs[j]'(by rw [h.len]; exact hl), by simp [h.len, hl]⟩
  exact ⟨j, c, hj, hc, val_zip hn hj hc, h.l j k c hj hc⟩
/-- one list grows -/
theorem Ben.app {G : Hp} {b : Addr} {bs : List Addr} {ks : List Str} {f : Str → List Str} (h : Ben G b bs ks f) (hn : ks.Nodup) {k n : Str} {j : Nat} {c : Addr} (hj : ks[j]? = some k) (hc : bs[j]? = some c) :
    Ben (upd G c (.lst (sts (f k) ++ [.str n]))) b bs ks (fun x => f x ++ if k = x then [n] else []) := by
  refine ⟨h.len, h.nd, ?_, fun i x a e1 e2 => ?_⟩
  · have hg := h.l j k c hj hc
    rw [upd_ne fun z => by rw [← z, h.d] at hg; cases hg]
    exact h.d
  · by_cases hi : i = j
    · subst hi
      rw [hj] at e1
      rw [hc] at e2
      cases e1
      cases e2
      rw [upd_same, if_pos rfl, sts_snoc]
    · have li := (List.getElem?_eq_some_iff.mp e1).1
      have lj := (List.getElem?_eq_some_iff.mp hj).1
      have nx : k ≠ x := fun z => by
        subst z
        exact hi (nd_inj hn e1 hj)
      have na : a ≠ c := fun z => by
        subst z
        exact hi (nd_inj h.nd e2 hc)
      rw [upd_ne na, if_neg nx, List.append_nil]
      exact h.l i x a e1 e2
where
  nd_inj {α : Type} {xs : List α} (h : xs.Nodup) {i j : Nat} {x : α} (hi : xs[i]? = some x) (hj : xs[j]? = some x) : i = j := by
    rcases Nat.lt_trichotomy i j with l | l | l
    · have e1 := List.getElem?_eq_some_iff.mp hi
      have e2 := List.getElem?_eq_some_iff.mp hj
      exact absurd (e1.2.trans e2.2.symm) (List.pairwise_iff_getElem.mp h i j e1.1 e2.1 l)
    · exact l
    · have e1 := List.getElem?_eq_some_iff.mp hi
      have e2 := List.getElem?_eq_some_iff.mp hj
      exact absurd (e2.2.trans e1.2.symm) (List.pairwise_iff_getElem.mp h j i e2.1 e1.1 l)
def keysB (ps : List (Str × Str)) : List Str := "all" :: ps.map (·.1)
theorem Good.keys {ps : List (Str × Str)} (g : Good ps) : (keysB ps).Nodup := List.nodup_cons.mpr ⟨fun m => (nameB_at (g.nms.1 _ m)).2.2 rfl, g.nms.2⟩
theorem Good.abvIn {ps : List (Str × Str)} (g : Good ps) {i : Nat} {q : Str × Str} (h : ps[i]? = some q) : q.2 ∈ keysB ps := by
  rcases g.abv i q h with e | m
  · rw [e]
    exact List.mem_cons_self ..
  · obtain ⟨r, hr, e⟩ := List.mem_map.mp m
    exact List.mem_cons_of_mem _ (List.mem_map.mpr ⟨r, List.mem_of_mem_take hr, e⟩)
theorem below_len (ps : List (Str × Str)) (k : Str) : (below ps k).length ≤ ps.length := by
  unfold below
  rw [List.length_map]
  exact List.length_filter_le ..
def sp_turned_about : Sp := fun vs H Q _ => ∃ (a : Addr) (ps : List (Str × Str)), vs = [.ref a] ∧ H a = some (.dK (abvD ps)) ∧ Good ps ∧ ∀ b bs H', Same H H' → H b = none → (∀ c ∈ bs, H c = none) → Ben H' b bs (keysB ps) (below ps) → Q (.ref b) H'
def t_turned_about : TS :=
  (tSeq (tAsg (tDisp [((tC (.str "all")), (tLstG tNil))]) (gName 1))
  (tSeq (sFor (iOf iterG (gv 0)) (gName 2)
    (tAsg (tLstG tNil) (gSub (gv 1) (gv 2) setG)))
  (tSeq (sFor (iOf itemsG (gv 0)) (gTup0 2 (gCons (gName 2) (gCons (gName 3) gNil)))
    (tDrop (tBmG "append" (tOp getG (gv 1) (gv 3)) (tCons (gv 2) tNil))))
  (tRet (gv 1)))))
theorem abv_at {ps : List (Str × Str)} {i : Nat} {k : Key} {v : V} (h : (abvD ps)[i]? = some (k, v)) : ∃ q, ps[i]? = some q ∧ k = Sum.inr q.1 ∧ v = .str q.2 := by
  unfold abvD at h
  rw [List.getElem?_map] at h
  cases e : ps[i]? with
  | none => rw [e] at h; cases h
  | some q => rw [e] at h; cases h; exact ⟨q, rfl, rfl, rfl⟩
theorem abv_len (ps : List (Str × Str)) : (abvD ps).length = ps.length := List.length_map ..
theorem r_turned_about {a : Addr} {ps : List (Str × Str)} {H : Hp} {D : Ends} (ha : H a = some (.dK (abvD ps))) (g : Good ps) (q : ∀ b bs H', Same H H' → H b = none → (∀ c ∈ bs, H c = none) → Ben H' b bs (keysB ps) (below ps) → D.rt (.ref b) H') : t_turned_about D [some (.ref a), none, none, none] H := by
  have hs := sz
  have g2 := g.many
  show tAsg (tDisp [(tC (.str "all"), tLstG tNil)]) (gName 1) _ _ _
  show tDisp [(tC (.str "all"), tLstG tNil)] _ _ _
  refine dispL_i (tk := tC (.str "all")) (x := .str "all") (fun G R r => r) (k := Sum.inr "all") rfl fun b b0 G1 nb nb0 nbb s1 tb tb0 => ?_
  have ha1 := s1 _ _ ha
  refine sFor_i (iterD_i ha1 fun o => ?_)
  have nab : ∀ c, H c = none → c ≠ a := fun c n z => by rw [z, ha] at n; cases n
  refine loop_dic (fun i σ G => Same (upd H a (.frz o (.dK (abvD ps)))) G ∧ (∃ bs, Ben G b bs (keysB (ps.take i)) (fun _ => []) ∧ ∀ c ∈ bs, H c = none) ∧ ∃ u, σ = [some (.ref a), some (.ref b), u, none]) ⟨same_frz s1, ⟨[b0], ⟨rfl, by simp, ?_, ?_⟩, by simpa using nb0⟩, _, rfl⟩ (fun i σ G _ h => h.1 _ _ upd_same) ?_ ?_
  · rw [upd_ne (nab b nb)]
    exact tb
  · intro i k c e1 e2
    match i, e1, e2 with
    | 0, _, e2 =>
      cases e2
      rw [upd_ne (nab b0 nb0)]
      exact tb0
    | i + 1, _, e2 => simp at e2
  · rintro i k v σ G hk ⟨sm, ⟨bs, bn, fr⟩, u, rfl⟩
    obtain ⟨r, hr, rfl, rfl⟩ := abv_at hk
    have hi := (List.getElem?_eq_some_iff.mp hr).1
    refine ⟨few rfl, new_i fun c G2 n2 s2 t2 => ?_⟩
    have hc : H c = none := (frz_free (sm.free n2)).1
    have hno : r.1 ∉ keysB (ps.take i) := by
      unfold keysB
      rw [List.mem_cons]
      rintro (e | m)
      · exact (nameB_at (g.nms.1 _ (List.mem_of_getElem? (good_fst hr)))).2.2 e
      · rw [List.map_take] at m
        exact nd_take g.nms.2 (good_fst hr) m
    have hd := s2 _ _ bn.d
    have ncb : c ≠ b := fun z => by
      rw [z, bn.d] at n2
      cases n2
    refine setK_i hd (k := Sum.inr r.1) rfl ?_ ⟨?_, ⟨bs ++ [c], ⟨?_, ?_, ?_, ?_⟩, ?_⟩, _, rfl⟩
    · have := benD_len (keysB (ps.take i)) bs
      have e : (keysB (ps.take i)).length = (ps.take i).length + 1 := by
        unfold keysB
        rw [List.length_cons, List.length_map]
      rw [List.length_take] at e
      omega
    · exact (sm.trans s2).put (by rw [upd_ne (nab b nb)]; exact nb)
    · unfold keysB
      rw [take_snoc hr, List.map_append, List.length_append, bn.len]
      simp [keysB]
    · refine nd_snoc bn.nd fun m => ?_
      obtain ⟨j, hj⟩ := List.mem_iff_getElem?.mp m
      have hl := (List.getElem?_eq_some_iff.mp hj).1
      rw [bn.len] at hl
      have := bn.l j _ c (by simp [hl]; rfl) hj
      rw [n2] at this
      cases this
    · rw [upd_same, putK_new _ (ben_none hno), take_snoc hr]
      unfold keysB
      rw [List.map_append, ← List.cons_append]
      exact congrArg (fun z => some (HO.dK z)) (benD_snoc r.1 c bn.len).symm
    · intro j k' c' e1 e2
      rw [take_snoc hr] at e1
      unfold keysB at e1
      rw [List.map_append, ← List.cons_append] at e1
      by_cases hj : j < bs.length
      · rw [List.getElem?_append_left hj] at e2
        rw [List.getElem?_append_left (by have := bn.len; unfold keysB at this; rw [← this]; exact hj)] at e1
        have := bn.l j k' c' e1 e2
        have nb' : c' ≠ b := fun z => by
          rw [z, bn.d] at this
          cases this
        rw [upd_ne nb']
        exact s2 _ _ this
      · have hl := (List.getElem?_eq_some_iff.mp e2).1
        rw [List.length_append] at hl
        have : j = bs.length := by simp at hl; omega
        subst this
        simp at e2
        subst e2
        rw [upd_ne ncb]
        exact t2
    · intro c' m
      rcases List.mem_append.mp m with m | m
      · exact fr c' m
      · rw [List.mem_singleton.mp m]
        exact hc
  · rintro σ G ⟨sm, ⟨bs, bn, fr⟩, u, rfl⟩
    rw [abv_len, List.take_length] at bn
    refine ⟨⟨o, sm _ _ upd_same⟩, ?_⟩
    have bnT : ∀ x : HO, Ben (upd G a x) b bs (keysB ps) (fun _ => []) := fun x => bn.to (upd_ne (nab b nb)) fun c hc => upd_ne (nab c (fr c hc))
    refine sFor_i (items_i upd_same fun o2 => ?_)
    rw [upd_upd]
    have sm0 : Same (upd H a (.frz o2 (.dK (abvD ps)))) (upd G a (.frz o2 (.dK (abvD ps)))) := by
      have := same_frz (a := a) (f := .frz o2 (.dK (abvD ps))) (same_thaw ha sm)
      rw [upd_upd] at this
      exact this
    refine loop_itm (fun i σ G => Same (upd H a (.frz o2 (.dK (abvD ps)))) G ∧ Ben G b bs (keysB ps) (below (ps.take i)) ∧ ∃ u v, σ = [some (.ref a), some (.ref b), u, v]) ⟨sm0, (bnT _).congr fun k _ => rfl, _, _, rfl⟩ (fun i σ G _ h => h.1 _ _ upd_same) ?_ ?_
    · rintro i k v t σ G3 G4 hk ⟨sm3, bn3, u, v, rfl⟩ nt s4 ht _
      obtain ⟨r, hr, rfl, rfl⟩ := abv_at hk
      replace bn3 := bn3.same s4
      replace sm3 := sm3.trans s4
      obtain ⟨j, c, hj, hc, hv, hl⟩ := bn3.get g.keys (g.abvIn hr)
      refine ⟨t, _, rfl, .inl ht, rfl, _, _, rfl, _, _, rfl, rfl, ?_⟩
      refine getK_i (.inl bn3.d) (k := Sum.inr r.2) rfl hv ?_
      refine app_i hl (app_at hl ?_ ⟨sm3.put ?_, ?_, _, _, rfl⟩)
      · have := below_len (ps.take i) r.2
        rw [List.length_take] at this
        simp
        omega
      · have nc := fr c (List.mem_of_getElem? hc)
        rw [upd_ne (nab c nc)]
        exact nc
      · exact (bn3.app g.keys hj hc).congr fun k _ => by rw [take_snoc hr, below_snoc]
    · rintro σ G5 ⟨sm5, bn5, u, v, rfl⟩
      rw [abv_len, List.take_length] at bn5
      refine ⟨⟨o2, sm5 _ _ upd_same⟩, ?_⟩
      exact q b bs _ (same_thaw ha sm5) nb fr (bn5.to (upd_ne (nab b nb)) fun c hc => upd_ne (nab c (fr c hc)))
/-! the class -/
def fsH (a c b : Addr) : List (Str × V) := [("above_of", .ref a), ("column_names", .ref c), ("beneath_of", .ref b)]
structure HouseAt (cl : Addr) (H : Hp) (x : Addr) (ps : List (Str × Str)) (cs : List Str) : Prop where
  mk ::
  good : Good ps
  nms : Nms cs
  one : 1 ≤ cs.length
  many : cs.length ≤ 8
  at' : ∃ dx a c b bs, H x = some (.ins cl dx (fsH a c b)) ∧ H a = some (.dK (abvD ps)) ∧ H c = some (.lst (sts cs)) ∧ Ben H b bs (keysB ps) (below ps)
section
variable {cl : Addr}
theorem nx_of {H : Hp} {a x : Addr} {o u : HO} (h : H a = some o) (hx : H x = some u) (n : o ≠ u) : a ≠ x := fun z => by
  rw [z, hx] at h
  cases h
  exact n rfl
/-! methods -/
def namesOf (ps : List (Str × Str)) : List Str := ps.map (·.1)
def rowsOf (ps : List (Str × Str)) : List Str := (namesOf ps).filter fun n => (below ps n).isEmpty
/-- a method that gives a new list of texts -/
def sp_texts (cl : Addr) (f : List (Str × Str) → List Str → List Str) : Sp := fun vs H Q _ => ∃ x ps cs, vs = [.ref x] ∧ HouseAt cl H x ps cs ∧ ∀ p H', Same H H' → H p = none → H' p = some (.lst (sts (f ps cs))) → Q (.ref p) H'
def sp_rows (cl : Addr) : Sp := sp_texts cl fun ps _ => rowsOf ps
def sp_columns (cl : Addr) : Sp := sp_texts cl fun _ cs => cs
def t_House_columns (cl : Addr) : TS :=
  (tRet (tCB listG (tCons (tFldG cl "column_names" (gv 0)) tNil)))
theorem r_House_columns {x : Addr} {ps : List (Str × Str)} {cs : List Str} {H : Hp} {D : Ends} (h : HouseAt cl H x ps cs) (q : ∀ p H', Same H H' → H p = none → H' p = some (.lst (sts cs)) → D.rt (.ref p) H') : t_House_columns cl D [some (.ref x)] H := by
  obtain ⟨g, hn, h1, h8, dx, a, c, b, bs, e1, e2, e3, e4⟩ := h
  refine fld_i e1 (v := .ref c) rfl ?_
  exact listL_i e3 (new_i fun p G n s t => q p G s n t)
def t_House_rows (cl : Addr) : TS :=
  (tRet (tCompI (iOf iterG (tFldG cl "above_of" (gv 0))) ["part"] [("self", 0)] (gName 0) (tNot (ptG (tOp getG (tFldG cl "beneath_of" (gv 1)) (gv 0)))) (gv 0)))
def rowF (ps : List (Str × Str)) : V → Option V
  | .str z => if (below ps z).isEmpty = true then some (.str z) else none
  | _ => none
theorem fm_rows (ps : List (Str × Str)) : ∀ l : List Str, (sts l).filterMap (rowF ps) = sts (l.filter fun n => (below ps n).isEmpty)
  | [] => rfl
  | a :: r => by
    rw [sts, List.map_cons, List.filterMap_cons]
    have ih := fm_rows ps r
    rw [sts] at ih
    by_cases h : (below ps a).isEmpty = true
    · simp only [rowF, h, if_true, List.filter_cons, List.map_cons, ih]
    · simp only [rowF, h, List.filter_cons, ih]
      rfl
theorem r_House_rows {x : Addr} {ps : List (Str × Str)} {cs : List Str} {H : Hp} {D : Ends} (h : HouseAt cl H x ps cs) (q : ∀ p H', Same H H' → H p = none → H' p = some (.lst (sts (rowsOf ps))) → D.rt (.ref p) H') : t_House_rows cl D [some (.ref x)] H := by
  have hs := sz
  obtain ⟨g, hn, h1, h8, dx, a, c, b, bs, e1, e2, e3, e4⟩ := h
  have g2 := g.many
  refine comp_i (fld_i e1 (v := .ref a) rfl (iterD_i e2 fun o => ?_))
  have nba := nx_of e4.d e2 (fun z => by
    injection z with z
    have z := congrArg List.length z
    have hl := e4.len
    unfold benD abvD keysB at z
    unfold keysB at hl
    rw [List.length_map, List.length_map, List.length_zip, hl, List.length_cons, List.length_map] at z
    omega)
  have bn : Ben (upd H a (.frz o (.dK (abvD ps)))) b bs (keysB ps) (below ps) := e4.to (upd_ne nba) fun e he => upd_ne fun z => by
    obtain ⟨j, hj⟩ := List.mem_iff_getElem?.mp he
    have hl := (List.getElem?_eq_some_iff.mp hj).1
    rw [e4.len] at hl
    have := e4.l j _ e (by simp [hl]; rfl) hj
    rw [z, e2] at this
    cases this
  have nxa : x ≠ a := nx_of e1 e2 (by simp)
  refine comp_dic (rowF ps) upd_same (by rw [abv_len]; omega) ?_ ?_
  · intro i z hz G k sm hk
    rw [abv_keys] at hz
    obtain ⟨n, hn, rfl⟩ := sts_at hz
    replace bn := bn.same sm
    obtain ⟨j, c', hj, hc, hv, hl⟩ := bn.get g.keys (List.mem_cons_of_mem _ (List.mem_of_getElem? hn))
    refine fld_i (sm _ _ (by rw [upd_ne nxa]; exact e1)) (v := .ref b) rfl ?_
    refine getK_i (.inl bn.d) (k := Sum.inr n) rfl hv (truL_i hl ?_)
    have e : (!(!(sts (below ps n)).isEmpty)) = (below ps n).isEmpty := by
      rw [Bool.not_not]
      cases below ps n <;> rfl
    unfold rowF at hk
    refine br_of (fun h => ?_) (fun h => ?_)
    · rw [e] at h
      simp only [h, if_true] at hk
      exact hk
    · rw [e] at h
      simp only [h] at hk
      exact hk
  · intro p G n s t
    rw [abv_keys, fm_rows] at t
    obtain ⟨n1, n2⟩ := frz_free n
    refine ⟨⟨o, s _ _ upd_same⟩, q p _ (same_thaw e2 s) n1 ?_⟩
    rw [upd_ne n2]
    exact t
end
end Tv

set_option Elab.async false
set_option linter.all false
set_option maxRecDepth 100000
set_option maxHeartbeats 4000000
/-! ### the houses that a law draws -/
namespace Tv
open PySem PySem.Spec PyProof.Rows L2
section
variable {K : PySem.W.Frag}
/-! _law_names -/
def tn_fin : TS := (tAsg (tOp addG (gv 8) (tOp getG (tC (.str "bcdefghijklmnopqrstuvwxyz")) (tOp modG (gv 10) (tC (.int 25))))) (gName 8))
def tn_two : TS := (tSeq (sIf (bT (tOp eqG (gv 9) (gv 4)))
        (tAsg (tOp addG (tOp fdivG (gv 0) (tC (.int 17))) (tOp fdivG (gv 7) (tC (.int 25)))) (gName 10))
        tNext)
      tn_fin)
def t_law_names : TS :=
  (tSeq (tAsg (tOp addG (tC (.int 2)) (tOp modG (gv 0) (tC (.int 7)))) (gName 2))
  (tSeq (tAsg (tOp modG (tOp fdivG (gv 0) (tC (.int 7))) (gv 2)) (gName 3))
  (tSeq (tAsg (tOp modG (tOp addG (tOp addG (gv 3) (tC (.int 1))) (tOp modG (tOp fdivG (gv 0) (tC (.int 61))) (tOp subG (gv 2) (tC (.int 1))))) (gv 2)) (gName 4))
  (tSeq (tAsg (tOp addG (tC (.int 1)) (tCB maxG (tCons (gv 3) (tCons (gv 4) tNil)))) (gName 5))
  (tSeq (tAsg (tLstG tNil) (gName 6))
  (tSeq (sFor (iRngG (tCons (gv 1) tNil)) (gName 7)
    (tSeq (tAsg (tC (.str "")) (gName 8))
    (tSeq (sFor (iRngG (tCons (tOp addG (gv 5) (tOp modG (gv 7) (tOp addG (tOp subG (gv 2) (gv 5)) (tC (.int 1))))) tNil)) (gName 9)
      (tSeq (tAsg (tOp addG (tOp fdivG (gv 0) (tC (.int 3))) (tOp mulG (tOp mulG (gv 9) (gv 9)) (tC (.int 5)))) (gName 10))
      (tSeq (sIf (bT (tOp eqG (gv 9) (gv 3)))
        (tAsg (tOp addG (tOp fdivG (gv 0) (tC (.int 11))) (gv 7)) (gName 10))
        tNext)
      tn_two)))
    (tDrop (tBmG "append" (gv 6) (tCons (gv 8) tNil))))))
  (tRet (gv 6))))))))
theorem beta_tab : ∀ j : Fin 25, ("bcdefghijklmnopqrstuvwxyz" : Str).cps.toList[j.val]? = some (98 + j.val) := by decide +kernel
theorem beta_at {i : Int} (h0 : 0 ≤ i) (h1 : i < 25) : atI ("bcdefghijklmnopqrstuvwxyz" : Str).cps.toList i = some (98 + i.toNat) := by
  obtain ⟨j, rfl⟩ : ∃ j : Nat, i = j := ⟨i.toNat, by omega⟩
  exact atI_nat (beta_tab ⟨j, by omega⟩)
def Bz (y : Str) : Prop := ∀ d ∈ y.cps.toList, 98 ≤ d ∧ d ≤ 122
theorem Bz.name {y : Str} (h : Bz y) (h1 : 1 ≤ y.length) (h8 : y.length ≤ 8) : nameB y = true := by
  unfold nameB
  have ha : y.cps.toList.all lowB = true := List.all_eq_true.mpr fun c hc => by
    obtain ⟨h1, h2⟩ := h c hc
    unfold lowB
    rw [decide_eq_true (show 97 ≤ c by omega), decide_eq_true h2]
    rfl
  have hn : (y == ("all" : Str)) = false := beq_eq_false_iff_ne.mpr fun e => by
    subst e
    have := (h 97 (by decide)).1
    omega
  rw [decide_eq_true h1, decide_eq_true h8, ha, hn]
  rfl
theorem Bz.snoc {z : Str} {c : Nat} (h : Bz z) (h1 : 98 ≤ c) (h2 : c ≤ 122) : Bz (z ++ ⟨#[c]⟩) := by
  intro d hd
  rw [app_list] at hd
  rcases List.mem_append.mp hd with hd | hd
  · exact h d hd
  · have : d = c := by simpa using hd
    subst this
    exact ⟨h1, h2⟩
theorem list_len (y : Str) : y.cps.toList.length = y.length := by rw [Array.length_toList]; rfl
theorem apart {c S : Int} (h2 : 2 ≤ S) (h8 : S ≤ 8) (A B e : Int) (hA : A = c / 7 % S) (he : e = c / 61 % (S - 1)) (hB : B = (A + 1 + e) % S) : 0 ≤ A ∧ A < S ∧ 0 ≤ B ∧ B < S ∧ A ≠ B := by
  have : S = 2 ∨ S = 3 ∨ S = 4 ∨ S = 5 ∨ S = 6 ∨ S = 7 ∨ S = 8 := by omega
  rcases this with rfl | rfl | rfl | rfl | rfl | rfl | rfl <;> omega
/-! _law_columns -/
def sp_law_columns (K : PySem.W.Frag) : Sp := fun vs H Q _ => ∃ (a : Addr) (ns : List Int), vs = [.ref a] ∧ SqL K H a (ns.map V.int) ∧ ∀ p (cs : List Str) H', Same H H' → H p = none → H' p = some (.lst (sts cs)) → 1 ≤ cs.length → cs.length ≤ 8 → Nms cs → Q (.ref p) H'
/-! _law_parts -/
def tp_fin : TS := (tDrop (tBmG "append" (gv 3) (tCons (tTupG (tCons (tOp getG (gv 2) (gv 4)) (tCons (gv 6) tNil))) tNil)))
def tp_two : TS := (tSeq (sIf (bT (tOp eqG (tOp modG (gv 5) (tC (.int 3))) (tC (.int 2))))
      (tAsg (tC (.str "all")) (gName 6))
      tNext)
    tp_fin)
theorem three_at {i : Int} (h0 : 0 ≤ i) (h1 : i < 3) : ∃ d : Int, atI ([.int 5, .int 8, .int 24] : List V) i = some (.int d) ∧ 0 < d ∧ d ≤ 24 := by
  have : i = 0 ∨ i = 1 ∨ i = 2 := by omega
  rcases this with rfl | rfl | rfl
  · exact ⟨5, rfl, by decide, by decide⟩
  · exact ⟨8, rfl, by decide, by decide⟩
  · exact ⟨24, rfl, by decide, by decide⟩
theorem cut_take (zs : List Str) (k : Nat) (hk : k ≤ zs.length) : cutV (sts zs) none (some (0 + (k : Int))) = sts (zs.take k) := by
  unfold cutV
  rw [Int.zero_add, HT.sIx_none, HT.sIx_nat, List.drop_zero, sts, List.length_map, Nat.min_eq_left hk, Nat.sub_zero]
  exact List.map_take.symm
theorem all_at (zs : List Str) {i : Int} (h0 : 0 ≤ i) (h1 : i < zs.length + 1) : ∃ u : Str, atI ([.str "all"] ++ sts zs) i = some (.str u) ∧ (u = "all" ∨ u ∈ zs) := by
  obtain ⟨j, rfl⟩ : ∃ j : Nat, i = j := ⟨i.toNat, by omega⟩
  cases j with
  | zero => exact ⟨"all", atI_nat rfl, .inl rfl⟩
  | succ j =>
    have hj : j < zs.length := by omega
    exact ⟨zs[j], atI_nat (by simp [hj]), .inr (List.getElem_mem _)⟩
/-! _law_list -/
end
end Tv

set_option Elab.async false
set_option linter.all false
set_option maxRecDepth 100000
set_option maxHeartbeats 4000000
namespace Tv
open PySem PySem.Spec PyProof.Rows L2
/-! ### lists and pairs -/
theorem fm_at {α β : Type} {f : α → Option β} : ∀ {xs : List α} {ys : List β}, xs.length = ys.length → (∀ (i : Nat) y, ys[i]? = some y → ∃ x, xs[i]? = some x ∧ f x = some y) → xs.filterMap f = ys
  | [], [], _, _ => by simp
  | [], _ :: _, h, _ => by simp at h
  | _ :: _, [], h, _ => by simp at h
  | x :: xs, y :: ys, h, k => by
    obtain ⟨x', e1, e2⟩ := k 0 y rfl
    simp at e1
    subst e1
    rw [List.filterMap_cons, e2]
    simp only
    rw [fm_at (xs := xs) (ys := ys) (by simpa using h) fun i z hz => by
      obtain ⟨w, w1, w2⟩ := k (i + 1) z (by simpa using hz)
      exact ⟨w, by simpa using w1, w2⟩]
def fstOf (H : Hp) : V → Option V
  | .ref t => match H t with
    | some (.tup [x, _]) => some x
    | _ => none
  | _ => none
theorem fst_at {H : Hp} {t : Addr} {x y : V} (h : H t = some (.tup [x, y])) : fstOf H (.ref t) = some x := by
  unfold fstOf
  simp only [h]
theorem PairsAt.fsts {H : Hp} {xs : List V} {ps : List (Str × Str)} (h : PairsAt H xs ps) : xs.filterMap (fstOf H) = sts (ps.map (·.1)) := by
  refine fm_at (by rw [sts, List.length_map, List.length_map]; exact h.1) fun i y hy => ?_
  obtain ⟨z, hz, rfl⟩ := sts_at hy
  rw [List.getElem?_map] at hz
  cases e : ps[i]? with
  | none => rw [e] at hz; cases hz
  | some q =>
    rw [e] at hz
    cases hz
    obtain ⟨t, e1, e2⟩ := h.2 i q e
    exact ⟨_, e1, fst_at e2⟩
theorem same_make {H G : Hp} {x dx cl : Addr} (hx : H x = none) (hdx : H dx = none) (s : SameX x (upd (upd H dx (.own x)) x (.ins cl dx [])) G) : Same H G := fun b o e => by
  have n1 := ne_of_none e hx
  have n2 := ne_of_none e hdx
  exact s b o n1 (by rw [upd_ne n1, upd_ne n2]; exact e)
end Tv

set_option Elab.async false
set_option linter.all false
set_option maxRecDepth 100000
set_option maxHeartbeats 4000000
namespace Tv
open PySem PySem.Spec PyProof.Rows L2
/-! ### equal lists of texts -/
theorem eqv_strs : ∀ xs ys : List Str, PyData.eqvAll (xs.map PyData.str) (ys.map PyData.str) = decide (xs = ys)
  | [], [] => rfl
  | [], _ :: _ => rfl
  | _ :: _, [] => rfl
  | x :: xs, y :: ys => by
    rw [List.map_cons, List.map_cons, PyData.eqvAll, eqv_strs xs ys]
    show ((x == y) && _) = _
    by_cases h : x = y
    · subst h
      simp
    · simp [h]
theorem rd_lstS {H : Hp} {p : Addr} {zs : List Str} (n : Nat) (h : H p = some (.lst (sts zs))) : rdD (n + 1) H (.ref p) = some (.list (zs.map PyData.str)) := by
  show (match H p with
    | some (.lst xs) => (xs.mapM (rdD n H)).map PyData.list
    | some (.tup xs) => (xs.mapM (rdD n H)).map PyData.tuple
    | _ => none) = _
  simp only [h, rd_strs n H zs]
  rfl
theorem eqS_i {p q : Addr} {xs ys : List Str} {H : Hp} {Q : VK} (hp : H p = some (.lst (sts xs))) (hq : H q = some (.lst (sts ys))) (k : Q (.bl (decide (xs = ys))) H) : eqH (.ref p) (.ref q) H Q := by
  refine eq_i (rd_lstS 7 hp) (rd_lstS 7 hq) ?_
  rw [show PyData.eqv (.list (xs.map PyData.str)) (.list (ys.map PyData.str)) = decide (xs = ys) by rw [PyData.eqv]; exact eqv_strs xs ys]
  exact k
section
variable {cl : Addr}
end
/-! ### tuples of texts -/
def TupsAt (H : Hp) (xs : List V) (ls : List (List Str)) : Prop := xs.length = ls.length ∧ ∀ (i : Nat) l, ls[i]? = some l → ∃ t, xs[i]? = some (.ref t) ∧ H t = some (.tup (sts l))
theorem TupsAt.same {H G : Hp} {xs : List V} {ls : List (List Str)} (h : TupsAt H xs ls) (s : Same H G) : TupsAt G xs ls := ⟨h.1, fun i q e => by
  obtain ⟨t, e1, e2⟩ := h.2 i q e
  exact ⟨t, e1, s _ _ e2⟩⟩
theorem TupsAt.put {H : Hp} {xs ys : List V} {ls : List (List Str)} {l : Addr} {o : HO} (h : TupsAt H xs ls) (hl : H l = some (.lst ys)) : TupsAt (upd H l o) xs ls := ⟨h.1, fun i q e => by
  obtain ⟨t, e1, e2⟩ := h.2 i q e
  refine ⟨t, e1, ?_⟩
  rw [upd_ne fun z => by rw [z, hl] at e2; cases e2]
  exact e2⟩
theorem TupsAt.nil {H : Hp} : TupsAt H [] [] := ⟨rfl, fun i q e => by simp at e⟩
theorem TupsAt.append {H : Hp} {xs ys : List V} {ls ms : List (List Str)} (h : TupsAt H xs ls) (k : TupsAt H ys ms) : TupsAt H (xs ++ ys) (ls ++ ms) := by
  refine ⟨by simp [h.1, k.1], fun i r e => ?_⟩
  by_cases hi : i < ls.length
  · rw [List.getElem?_append_left hi] at e
    rw [List.getElem?_append_left (by rw [h.1]; exact hi)]
    exact h.2 i r e
  · rw [List.getElem?_append_right (by omega)] at e
    rw [List.getElem?_append_right (by rw [h.1]; omega), h.1]
    exact k.2 _ r e
theorem TupsAt.one {H : Hp} {t : Addr} {l : List Str} (ht : H t = some (.tup (sts l))) : TupsAt H [.ref t] [l] := ⟨rfl, fun i r e => by
  cases i with
  | zero => simp at e; subst e; exact ⟨t, rfl, ht⟩
  | succ i => simp at e⟩
theorem TupsAt.snoc {H : Hp} {xs : List V} {ls : List (List Str)} {t : Addr} {l : List Str} (h : TupsAt H xs ls) (ht : H t = some (.tup (sts l))) : TupsAt H (xs ++ [.ref t]) (ls ++ [l]) := h.append (.one ht)
theorem TupsAt.at {H : Hp} {xs : List V} {ls : List (List Str)} (h : TupsAt H xs ls) {i : Nat} {x : V} (hx : xs[i]? = some x) : ∃ l t, ls[i]? = some l ∧ x = .ref t ∧ H t = some (.tup (sts l)) := by
  have hi := (List.getElem?_eq_some_iff.mp hx).1
  rw [h.1] at hi
  obtain ⟨t, e1, e2⟩ := h.2 i ls[i] (by simp [hi])
  rw [hx] at e1
  cases e1
  exact ⟨ls[i], t, by simp [hi], rfl, e2⟩
theorem rd_lst {H : Hp} {p : Addr} {xs : List V} {ds : List PyData} (n : Nat) (h : H p = some (.lst xs)) (pa : xs.mapM (rdD n H) = some ds) : rdD (n + 1) H (.ref p) = some (.list ds) := by
  show (match H p with
    | some (.lst xs) => (xs.mapM (rdD n H)).map PyData.list
    | some (.tup xs) => (xs.mapM (rdD n H)).map PyData.tuple
    | _ => none) = _
  simp only [h, pa]
  rfl
/-- a comprehension that lays a tuple of texts a turn, or passes over -/
theorem comp_tups {J : It} {ys : List V} (f : V → Option (List Str)) {tn : List Str} {fr : List (Str × Nat)} {g : TG} {tt : TT} {te : TE} {σ : St} {H : Hp} {Q : VK} (hz : ys.length < sizeLine)
    (hJ : ∀ G, Same H G → (∀ i, i < ys.length → J.go i G) ∧ J.stop ys.length G ∧ ∀ i x G', i < ys.length → J.yld i G x G' → G' = G ∧ ys[i]? = some x)
    (turn : ∀ (i : Nat) (x : V), ys[i]? = some x → ∀ (G : Hp) (k : VK) (B : Hp → Prop), Same H G → (∀ l, f x = some l → ∀ t G', Same G G' → G' t = some (.tup (sts l)) → k (.ref t) G') → (f x = none → B G) → g x (inn tn fr σ) G fun σ2 G2 => tt σ2 G2 fun b G3 => br b (te σ2 G3 k) (B G3))
    (fin : ∀ p zs G, H p = none → Same H G → G p = some (.lst zs) → TupsAt G zs (ys.filterMap f) → Q (.ref p) G) : compJ J tn fr g tt te σ H Q := by
  unfold compJ
  intro p hp
  refine ⟨fun i m G => m = ys.length - i ∧ i ≤ ys.length ∧ Same H G ∧ ∃ zs, G p = some (.lst zs) ∧ TupsAt G zs ((ys.take i).filterMap f), ⟨_, rfl, Nat.zero_le _, same_upd hp, [], upd_same, .nil⟩, ?_⟩
  rintro i m G ⟨rfl, hi, sm, zs, hg, pz⟩
  obtain ⟨j1, j2, j3⟩ := hJ G sm
  by_cases hlt : i < ys.length
  · refine .inr ⟨j1 i hlt, fun G' => Same H G' ∧ ∃ zs, G' p = some (.lst zs) ∧ TupsAt G' zs ((ys.take (i + 1)).filterMap f), fun G' h => ⟨_, by omega, rfl, hlt, h⟩, fun x G' y => ?_⟩
    obtain ⟨rfl, hx⟩ := j3 i x G' hlt y
    refine turn i x hx _ _ _ sm (fun l hl t G2 s2 t2 => ⟨zs, s2 _ _ hg, ?_, (sm.trans s2).put hp, _, upd_same, ?_⟩) (fun hn => ⟨sm, zs, hg, ?_⟩)
    · rw [pz.1]
      have := List.length_filterMap_le f (ys.take i)
      have h2 := List.length_take_le i ys
      omega
    · rw [take_snoc hx, List.filterMap_append, List.filterMap_cons, hl]
      exact ((pz.same s2).snoc t2).put (s2 _ _ hg)
    · rw [take_snoc hx, List.filterMap_append, List.filterMap_cons, hn]
      simpa using pz
  · have e : i = ys.length := by omega
    subst e
    rw [List.take_length] at pz
    exact .inl ⟨j2, fin p zs G hp sm hg pz⟩
/-- over a list -/
theorem comp_lt {a : Addr} {ys : List V} (f : V → Option (List Str)) {tn : List Str} {fr : List (Str × Nat)} {g : TG} {tt : TT} {te : TE} {σ : St} {H : Hp} {Q : VK} (ha : H a = some (.lst ys)) (hz : ys.length < sizeLine)
    (turn : ∀ (i : Nat) (x : V), ys[i]? = some x → ∀ (G : Hp) (k : VK) (B : Hp → Prop), Same H G → (∀ l, f x = some l → ∀ t G', Same G G' → G' t = some (.tup (sts l)) → k (.ref t) G') → (f x = none → B G) → g x (inn tn fr σ) G fun σ2 G2 => tt σ2 G2 fun b G3 => br b (te σ2 G3 k) (B G3))
    (fin : ∀ p zs G, H p = none → Same H G → G p = some (.lst zs) → TupsAt G zs (ys.filterMap f) → Q (.ref p) G) : compJ (Itl0 a) tn fr g tt te σ H Q := by
  refine comp_tups f hz (fun G sm => ?_) turn fin
  refine ⟨fun i hi => ⟨ys, ys[i], .inl (sm _ _ ha), by simp [hi]⟩, ⟨ys, .inl (sm _ _ ha), Nat.le_refl _⟩, ?_⟩
  rintro i x G' hi ⟨rfl, h⟩
  exact ⟨rfl, h ys (.inl (sm _ _ ha))⟩
/-- of a list of texts, a tuple each -/
def tupF (f : Str → List Str) : V → Option (List Str)
  | .str z => some (f z)
  | _ => none
theorem fm_tup (f : Str → List Str) : ∀ l : List Str, (sts l).filterMap (tupF f) = l.map f
  | [] => rfl
  | a :: r => by
    rw [sts, List.map_cons, List.filterMap_cons]
    show f a :: (sts r).filterMap (tupF f) = _
    rw [fm_tup f r]
    rfl
end Tv

set_option Elab.async false
set_option linter.all false
set_option maxRecDepth 100000
set_option maxHeartbeats 4000000
/-! ### houses.py, where it may refuse -/
namespace Tv
open PySem PySem.Spec PyProof.Rows L2
/-- a thing that may be handed in -/
inductive Thing (H : Hp) : V → Prop where
  | non : Thing H .non
  | bl (b : Bool) : Thing H (.bl b)
  | int (i : Int) : Thing H (.int i)
  | str {z : Str} (h : z.length ≤ 1000) : Thing H (.str z)
  | lst {p : Addr} {xs : List V} (e : H p = some (.lst xs)) : Thing H (.ref p)
  | tup {p : Addr} {xs : List V} (e : H p = some (.tup xs)) : Thing H (.ref p)
  | dK {p : Addr} {xs : List (Key × V)} (e : H p = some (.dK xs)) : Thing H (.ref p)
theorem Thing.kind {H : Hp} {x : V} (h : Thing H x) : ∃ S, kindV H x = some S := by
  cases h with
  | non => exact ⟨_, rfl⟩
  | bl b => exact ⟨_, rfl⟩
  | int i => exact ⟨_, rfl⟩
  | str h => exact ⟨_, rfl⟩
  | lst e => exact ⟨_, kind_lst e⟩
  | tup e => exact ⟨_, kind_tup e⟩
  | dK e => exact ⟨_, kind_dK e⟩
theorem Thing.len {H : Hp} {x : V} (h : Thing H x) : ∀ z, x = .str z → z.length ≤ 1000 := by
  cases h <;> intro z e <;> cases e
  assumption
theorem Thing.same {H G : Hp} {x : V} (h : Thing H x) (s : Same H G) : Thing G x := by
  cases h with
  | non => exact .non
  | bl b => exact .bl b
  | int i => exact .int i
  | str h => exact .str h
  | lst e => exact .lst (s _ _ e)
  | tup e => exact .tup (s _ _ e)
  | dK e => exact .dK (s _ _ e)
def okN (ys : List Str) : V → Bool
  | .str z => nameB z && !decide (z ∈ ys)
  | _ => false
def okA (ys : List Str) : V → Bool
  | .str z => (z == ("all" : Str)) || decide (z ∈ ys)
  | _ => false
section
variable {cl NH : Addr}
/-! checked_name, checked_above -/
def spE_checked_name (NH : Addr) : Sp := fun vs H Q E => ∃ (x : V) (l : Addr) (ys : List Str), vs = [x, .ref l] ∧ H l = some (.lst (sts ys)) ∧ Thing H x ∧ (okN ys x = true → ∀ H', Same H H' → Q x H') ∧ (okN ys x = false → ∀ H', Same H H' → E (.ref NH) none H')
def tE_checked_name (NH : Addr) (E : XK) : TS :=
  (tSeq (sIf (tNot (ptG (tCall sp_is_name [] E (tCons (gv 0) tNil))))
    (tRaise E NH (tCons (tC (.str "a part or a column has no name")) tNil))
    tNext)
  (tSeq (tAsg (tCall sp_plain_text [] E (tCons (gv 0) tNil)) (gName 2))
  (tSeq (sIf (bT (tOp (inG false) (gv 2) (gv 1)))
    (tRaise E NH (tCons (tC (.str "two parts, or two columns, have one name")) tNil))
    tNext)
  (tRet (gv 2)))))
theorem rE_checked_name {x : V} {l : Addr} {ys : List Str} {H : Hp} {D : Ends} {E : XK} (hl : H l = some (.lst (sts ys))) (ht : Thing H x) (q : okN ys x = true → ∀ H', Same H H' → D.rt x H') (qe : okN ys x = false → ∀ H', Same H H' → E (.ref NH) none H') : tE_checked_name NH E D [some x, some (.ref l), none] H := by
  have hs := sz
  obtain ⟨S, hk⟩ := ht.kind
  refine ⟨x, S, rfl, hk, fun z e => by have := ht.len z e; omega, fun G1 s1 => ?_⟩
  cases hn : nameV x with
  | false =>
    refine br_t rfl ⟨few rfl, qe ?_ G1 s1⟩
    cases x <;> first | rfl | skip
    rename_i z
    have hn : nameB z = false := hn
    show (nameB z && _) = false
    rw [hn]
    rfl
  | true =>
    cases x <;> first | (cases hn; done) | skip
    rename_i z
    have hn : nameB z = true := hn
    refine br_f rfl ⟨z, rfl, ht.len z rfl, fun G2 s2 => inS_i (s2 _ _ (s1 _ _ hl)) (br_of (fun b => ?_) (fun b => ?_))⟩
    · have b : decide (z ∈ ys) = true := by simpa using b
      refine ⟨few rfl, qe ?_ G2 (s1.trans s2)⟩
      show (nameB z && !decide (z ∈ ys)) = false
      rw [b]
      simp
    · have b : decide (z ∈ ys) = false := by simpa using b
      refine q ?_ G2 (s1.trans s2)
      show (nameB z && !decide (z ∈ ys)) = true
      rw [b, hn]
      rfl
def spE_checked_above (NH : Addr) : Sp := fun vs H Q E => ∃ (x : V) (l : Addr) (ys : List Str), vs = [x, .ref l] ∧ H l = some (.lst (sts ys)) ∧ Thing H x ∧ (okA ys x = true → ∀ H', Same H H' → Q x H') ∧ (okA ys x = false → ∀ H', Same H H' → E (.ref NH) none H')
def tE_checked_above (NH : Addr) (E : XK) : TS :=
  (tSeq (sIf (tNot (ptG (tCB isiG (tCons (gv 0) (tCons (tC (.ty "str")) tNil)))))
    (tRaise E NH (tCons (tC (.str "what is above a part is no text")) tNil))
    tNext)
  (tSeq (tAsg (tCall sp_plain_text [] E (tCons (gv 0) tNil)) (gName 2))
  (tSeq (sIf (tAndB (bT (tOp neG (gv 2) (tC (.str "all")))) (bT (tOp (inG true) (gv 2) (gv 1))))
    (tRaise E NH (tCons (tC (.str "what is above a part is no part ahead of it")) tNil))
    tNext)
  (tRet (gv 2)))))
theorem rE_checked_above {x : V} {l : Addr} {ys : List Str} {H : Hp} {D : Ends} {E : XK} (hl : H l = some (.lst (sts ys))) (ht : Thing H x) (q : okA ys x = true → ∀ H', Same H H' → D.rt x H') (qe : okA ys x = false → ∀ H', Same H H' → E (.ref NH) none H') : tE_checked_above NH E D [some x, some (.ref l), none] H := by
  cases ht with
  | @str z hz =>
    refine isi_i rfl rfl (br_f rfl ⟨z, rfl, hz, fun G2 s2 => br_of (fun b1 => ?_) (fun b1 => br_f rfl (q ?_ G2 s2))⟩)
    · have b1 : (!(z == ("all" : Str))) = true := b1
      have b1 : (z == ("all" : Str)) = false := by simpa using b1
      refine inS_i (s2 _ _ hl) (br_of (fun b => ⟨few rfl, qe ?_ G2 s2⟩) (fun b => q ?_ G2 s2))
      · have b : (!decide (z ∈ ys)) = true := by rw [← b, Bool.true_xor]
        show ((z == ("all" : Str)) || decide (z ∈ ys)) = false
        rw [b1, show decide (z ∈ ys) = false by simpa using b]
        rfl
      · have b : (!decide (z ∈ ys)) = false := by rw [← b, Bool.true_xor]
        show ((z == ("all" : Str)) || decide (z ∈ ys)) = true
        rw [show decide (z ∈ ys) = true by simpa using b, Bool.or_true]
    · have b1 : (!(z == ("all" : Str))) = false := b1
      show ((z == ("all" : Str)) || decide (z ∈ ys)) = true
      rw [show (z == ("all" : Str)) = true by simpa using b1]
      rfl
  | non => exact isi_i (S := "NoneType") rfl rfl (br_t rfl ⟨few rfl, qe rfl H (Same.refl _)⟩)
  | bl b => exact isi_i (S := "bool") rfl rfl (br_t rfl ⟨few rfl, qe rfl H (Same.refl _)⟩)
  | int i => exact isi_i (S := "int") rfl rfl (br_t rfl ⟨few rfl, qe rfl H (Same.refl _)⟩)
  | lst e => exact isi_i rfl (kind_lst e) (br_t rfl ⟨few rfl, qe rfl H (Same.refl _)⟩)
  | tup e => exact isi_i rfl (kind_tup e) (br_t rfl ⟨few rfl, qe rfl H (Same.refl _)⟩)
  | dK e => exact isi_i rfl (kind_dK e) (br_t rfl ⟨few rfl, qe rfl H (Same.refl _)⟩)
/-! checked_columns -/
def ColsOK (H : Hp) (x : V) (cs : List Str) : Prop := ∃ p, x = .ref p ∧ H p = some (.lst (sts cs)) ∧ Nms cs ∧ 1 ≤ cs.length ∧ cs.length ≤ 8
def Deep1 (H : Hp) (x : V) : Prop := Thing H x ∧ ∀ p xs, x = .ref p → H p = some (.lst xs) → ∀ y ∈ xs, Thing H y
def spE_checked_columns (NH : Addr) : Sp := fun vs H Q E => ∃ x : V, vs = [x] ∧ Deep1 H x ∧ (∀ cs, ColsOK H x cs → ∀ p H', Same H H' → H p = none → H' p = some (.lst (sts cs)) → Q (.ref p) H') ∧ ((∀ cs, ¬ ColsOK H x cs) → ∀ H', Same H H' → E (.ref NH) none H')
def tE_checked_columns (NH : Addr) (E : XK) : TS :=
  (tSeq (sIf (tOrB (tNot (ptG (tCB isiG (tCons (gv 0) (tCons (tC (.ty "list")) tNil))))) (tNot (bT (chainG leG leG (tC (.int 1)) (tCB lenG (tCons (gv 0) tNil)) (tC (.int 8))))))
    (tRaise E NH (tCons (tC (.str "the columns are no list of 1 to 8")) tNil))
    tNext)
  (tSeq (tAsg (tLstG tNil) (gName 1))
  (tSeq (sFor (iOf iterG (gv 0)) (gName 2)
    (tDrop (tBmG "append" (gv 1) (tCons (tCall (spE_checked_name NH) [] E (tCons (gv 2) (tCons (gv 1) tNil))) tNil))))
  (tRet (gv 1)))))
theorem okN_str {ys : List Str} {x : V} (h : okN ys x = true) : ∃ z, x = .str z ∧ nameB z = true ∧ z ∉ ys := by
  cases x <;> first | (cases h; done) | skip
  rename_i z
  have h : (nameB z && !decide (z ∈ ys)) = true := h
  rw [Bool.and_eq_true] at h
  exact ⟨z, rfl, h.1, by simpa using h.2⟩
theorem okA_str {ys : List Str} {x : V} (h : okA ys x = true) : ∃ z, x = .str z ∧ (z = "all" ∨ z ∈ ys) := by
  cases x <;> first | (cases h; done) | skip
  rename_i z
  have h : ((z == ("all" : Str)) || decide (z ∈ ys)) = true := h
  rw [Bool.or_eq_true] at h
  exact ⟨z, rfl, by simpa using h⟩
theorem nd_snoc {l : List Str} {z : Str} (h : l.Nodup) (hz : z ∉ l) : (l ++ [z]).Nodup := by
  rw [List.nodup_append]
  refine ⟨h, by simp, fun a ha b hb e => ?_⟩
  rw [List.mem_singleton.mp hb] at e
  exact hz (e ▸ ha)
theorem Nms.snoc {l : List Str} {z : Str} (h : Nms l) (hz : z ∉ l) (hn : nameB z = true) : Nms (l ++ [z]) := ⟨fun y hy => by
  rcases List.mem_append.mp hy with m | m
  · exact h.1 y m
  · rw [List.mem_singleton.mp m]
    exact hn, nd_snoc h.2 hz⟩
theorem Nms.nil : Nms [] := ⟨fun z h => by simp at h, by simp⟩
theorem rE_checked_columns {x : V} {H : Hp} {D : Ends} {E : XK} (ht : Deep1 H x) (q : ∀ cs, ColsOK H x cs → ∀ p H', Same H H' → H p = none → H' p = some (.lst (sts cs)) → D.rt (.ref p) H') (qe : (∀ cs, ¬ ColsOK H x cs) → ∀ H', Same H H' → E (.ref NH) none H') : tE_checked_columns NH E D [some x, none, none] H := by
  have hs := sz
  obtain ⟨ht, hy⟩ := ht
  have no : ∀ {S : String}, kindV H x = some S → isKind S "list" = false → tE_checked_columns NH E D [some x, none, none] H := fun {S} hk hS =>
    isi_i rfl hk (br_t (by rw [hS]; rfl) (br_t rfl ⟨few rfl, qe (fun cs ⟨p, e, h, _⟩ => by
      subst e
      rw [kind_lst h] at hk
      cases hk
      cases hS) H (Same.refl _)⟩))
  cases ht with
  | non => exact no rfl rfl
  | bl b => exact no rfl rfl
  | int i => exact no rfl rfl
  | str h => exact no rfl rfl
  | tup e => exact no (kind_tup e) rfl
  | dK e => exact no (kind_dK e) rfl
  | @lst c xs hc =>
    have cs_of : ∀ cs, ColsOK H (.ref c) cs → xs = sts cs ∧ Nms cs ∧ 1 ≤ cs.length ∧ cs.length ≤ 8 := fun cs ⟨p, e, h, k⟩ => by
      cases e
      rw [hc] at h
      cases h
      exact ⟨rfl, k⟩
    refine isi_i rfl (kind_lst hc) (br_f rfl (lenL_i hc ?_))
    have bad : (¬ (1 ≤ xs.length ∧ xs.length ≤ 8)) → ∀ H', Same H H' → E (.ref NH) none H' := fun hn => qe fun cs h => by
      obtain ⟨e, _, h1, h8⟩ := cs_of cs h
      rw [e, sts, List.length_map] at hn
      exact hn ⟨h1, h8⟩
    refine br_dec (fun h1 => br_not (br_dec (fun h8 => ?_) (fun h8 => ⟨few rfl, bad (fun h => h8 (by omega)) H (Same.refl _)⟩))) (fun h1 => br_t rfl ⟨few rfl, bad (fun h => h1 (by omega)) H (Same.refl _)⟩)
    refine ⟨few rfl, new_i fun p G1 n1 s1 t1 => ?_⟩
    refine sFor_i (iterL_i (s1 _ _ hc) (loop_lst (xs := xs) (fun i σ G => Same H G ∧ (∃ ys, G p = some (.lst (sts ys)) ∧ xs.take i = sts ys ∧ Nms ys) ∧ ∃ v, σ = [some (.ref c), some (.ref p), v]) ⟨s1, ⟨[], t1, rfl, Nms.nil⟩, _, rfl⟩ (fun i σ G _ h => h.1 _ _ hc) ?_ ?_))
    · rintro i y σ G hyi ⟨sm, ⟨ys, hg, et, nm⟩, v, rfl⟩
      have hi := (List.getElem?_eq_some_iff.mp hyi).1
      have ly : ys.length = i := by
        have := congrArg List.length et
        rw [List.length_take, sts, List.length_map] at this
        omega
      refine app_i hg ⟨y, p, ys, rfl, hg, (hy c xs rfl hc y (List.mem_of_getElem? hyi)).same sm, fun ok G2 s2 => ?_, fun bad G2 s2 => ?_⟩
      · obtain ⟨z, rfl, hn, hz⟩ := okN_str ok
        refine app_at (s2 _ _ hg) (by simp; omega) ⟨(sm.trans s2).put n1, ⟨ys ++ [z], ?_, ?_, nm.snoc hz hn⟩, _, rfl⟩
        · rw [upd_same, sts_snoc]
        · rw [take_snoc hyi, et, sts_snoc]
      · refine qe (fun cs h => ?_) G2 (sm.trans s2)
        obtain ⟨e, hn, _, _⟩ := cs_of cs h
        subst e
        obtain ⟨z, hz, rfl⟩ := sts_at hyi
        have ey : ys = cs.take i := by
          have : sts (cs.take i) = sts ys := by rw [← et, sts, sts, List.map_take]
          exact (List.map_inj_right (fun a b e => by injection e)).mp this.symm
        have h1 := hn.1 z (List.mem_of_getElem? hz)
        have h2 := nd_take hn.2 hz
        have : okN ys (.str z) = true := by
          show (nameB z && !decide (z ∈ ys)) = true
          rw [h1, ey, decide_eq_false h2]
          rfl
        rw [this] at bad
        cases bad
    · rintro σ G ⟨sm, ⟨ys, hg, et, nm⟩, v, rfl⟩
      rw [List.take_length] at et
      have ly : xs.length = ys.length := by rw [et, sts, List.length_map]
      exact q ys ⟨c, rfl, by rw [hc, et], nm, by omega, by omega⟩ p G sm n1 hg
/-! checked_parts -/
def PartsOK (H : Hp) (x : V) (ps : List (Str × Str)) : Prop := ∃ p xs, x = .ref p ∧ H p = some (.lst xs) ∧ PairsAt H xs ps ∧ Good ps
def Deep2 (H : Hp) (x : V) : Prop := Thing H x ∧ ∀ p xs, x = .ref p → H p = some (.lst xs) → ∀ y ∈ xs, Thing H y ∧ ∀ t zs, y = .ref t → H t = some (.tup zs) → ∀ z ∈ zs, Thing H z
def spE_checked_parts (NH : Addr) : Sp := fun vs H Q E => ∃ x : V, vs = [x] ∧ Deep2 H x ∧ (∀ ps, PartsOK H x ps → ∀ a H', Same H H' → H a = none → H' a = some (.dK (abvD ps)) → Q (.ref a) H') ∧ ((∀ ps, ¬ PartsOK H x ps) → ∀ H', Same H H' → E (.ref NH) none H')
def tE_checked_parts (NH : Addr) (E : XK) : TS :=
  (tSeq (sIf (tOrB (tNot (ptG (tCB isiG (tCons (gv 0) (tCons (tC (.ty "list")) tNil))))) (tNot (bT (chainG leG leG (tC (.int 1)) (tCB lenG (tCons (gv 0) tNil)) (tC (.int 24))))))
    (tRaise E NH (tCons (tC (.str "the parts are no list of 1 to 24")) tNil))
    tNext)
  (tSeq (tAsg tDNew (gName 1))
  (tSeq (sFor (iOf iterG (gv 0)) (gName 2)
    (tSeq (sIf (tOrB (tNot (ptG (tCB isiG (tCons (gv 2) (tCons (tC (.ty "tuple")) tNil))))) (bT (tOp neG (tCB lenG (tCons (gv 2) tNil)) (tC (.int 2)))))
      (tRaise E NH (tCons (tC (.str "a part is no tuple of its name and the one above it")) tNil))
      tNext)
    (tSeq (tAsg (tCall (spE_checked_name NH) [] E (tCons (tOp getG (gv 2) (tC (.int 0))) (tCons (tCB listG (tCons (gv 1) tNil)) tNil))) (gName 3))
    (tSeq (tAsg (tCall (spE_checked_above NH) [] E (tCons (tOp getG (gv 2) (tC (.int 1))) (tCons (tCB listG (tCons (gv 1) tNil)) tNil))) (gName 4))
    (tAsg (gv 4) (gSub (gv 1) (gv 3) setG))))))
  (tRet (gv 1)))))
theorem PairsAt.uniq {H : Hp} : ∀ {xs : List V} {ps qs : List (Str × Str)}, PairsAt H xs ps → PairsAt H xs qs → ps = qs := fun {xs ps qs} h k => by
  apply List.ext_getElem?
  intro i
  by_cases hi : i < ps.length
  · obtain ⟨t, e1, e2⟩ := h.2 i ps[i] (by simp [hi])
    obtain ⟨u, f1, f2⟩ := k.2 i (qs[i]'(by rw [← k.1, h.1]; exact hi)) (by simp)
    rw [e1] at f1
    cases f1
    rw [e2] at f2
    have hq : i < qs.length := by rw [← k.1, h.1]; exact hi
    rw [List.getElem?_eq_getElem hi, List.getElem?_eq_getElem hq]
    injection f2 with f2
    injection f2 with f2
    injection f2 with a b
    injection a with a
    injection b with b _
    injection b with b
    exact congrArg some (Prod.ext a b)
  · have hq : ¬ i < qs.length := by rw [← k.1, h.1]; exact hi
    rw [List.getElem?_eq_none (by omega), List.getElem?_eq_none (by omega)]
theorem PairsAt.take {H : Hp} {xs : List V} {ps : List (Str × Str)} (h : PairsAt H xs ps) (n : Nat) : PairsAt H (xs.take n) (ps.take n) := by
  refine ⟨by rw [List.length_take, List.length_take, h.1], fun i q e => ?_⟩
  have hi : i < n := by
    have := (List.getElem?_eq_some_iff.mp e).1
    rw [List.length_take] at this
    omega
  rw [List.getElem?_take_of_lt hi] at e ⊢
  exact h.2 i q e
theorem rE_checked_parts {x : V} {H : Hp} {D : Ends} {E : XK} (ht : Deep2 H x) (q : ∀ ps, PartsOK H x ps → ∀ a H', Same H H' → H a = none → H' a = some (.dK (abvD ps)) → D.rt (.ref a) H') (qe : (∀ ps, ¬ PartsOK H x ps) → ∀ H', Same H H' → E (.ref NH) none H') : tE_checked_parts NH E D [some x, none, none, none, none] H := by
  have hs := sz
  obtain ⟨ht, hy⟩ := ht
  have no : ∀ {S : String}, kindV H x = some S → isKind S "list" = false → tE_checked_parts NH E D [some x, none, none, none, none] H := fun {S} hk hS =>
    isi_i rfl hk (br_t (by rw [hS]; rfl) (br_t rfl ⟨few rfl, qe (fun cs ⟨p, xs, e, h, _⟩ => by
      subst e
      rw [kind_lst h] at hk
      cases hk
      cases hS) H (Same.refl _)⟩))
  cases ht with
  | non => exact no rfl rfl
  | bl b => exact no rfl rfl
  | int i => exact no rfl rfl
  | str h => exact no rfl rfl
  | tup e => exact no (kind_tup e) rfl
  | dK e => exact no (kind_dK e) rfl
  | @lst p xs hp =>
    have ps_of : ∀ ps, PartsOK H (.ref p) ps → PairsAt H xs ps ∧ Good ps := fun ps ⟨p', xs', e, h, k⟩ => by
      cases e
      rw [hp] at h
      cases h
      exact k
    refine isi_i rfl (kind_lst hp) (br_f rfl (lenL_i hp ?_))
    have bad : (¬ (1 ≤ xs.length ∧ xs.length ≤ 24)) → ∀ H', Same H H' → E (.ref NH) none H' := fun hn => qe fun ps h => by
      obtain ⟨e, g⟩ := ps_of ps h
      rw [e.1] at hn
      exact hn ⟨g.one, g.many⟩
    refine br_dec (fun h1 => br_not (br_dec (fun h8 => ?_) (fun h8 => ⟨few rfl, bad (fun h => h8 (by omega)) H (Same.refl _)⟩))) (fun h1 => br_t rfl ⟨few rfl, bad (fun h => h1 (by omega)) H (Same.refl _)⟩)
    refine .inl (new_i fun a G1 n1 s1 t1 => ?_)
    refine sFor_i (iterL_i (s1 _ _ hp) (loop_lst (xs := xs) (fun i σ G => Same H G ∧ (∃ ps, G a = some (.dK (abvD ps)) ∧ PairsAt H (xs.take i) ps ∧ Nms (ps.map (·.1)) ∧ ∀ (j : Nat) r, ps[j]? = some r → r.2 = "all" ∨ r.2 ∈ (ps.take j).map (·.1)) ∧ ∃ u v w, σ = [some (.ref p), some (.ref a), u, v, w])
      ⟨s1, ⟨[], t1, .nil, Nms.nil, fun j r e => by simp at e⟩, _, _, _, rfl⟩ (fun i σ G _ h => h.1 _ _ hp) ?_ ?_))
    · rintro i y σ G hyi ⟨sm, ⟨ps, hg, pa, nm, ab⟩, u, v, w, rfl⟩
      have hi := (List.getElem?_eq_some_iff.mp hyi).1
      have li : ps.length = i := by
        have := pa.1
        rw [List.length_take] at this
        omega
      obtain ⟨ty, tz⟩ := hy p xs rfl hp y (List.mem_of_getElem? hyi)
      have non : ∀ G', Same H G' → (∀ t (r : Str × Str), y = .ref t → H t = some (.tup [.str r.1, .str r.2]) → (okN (ps.map (·.1)) (.str r.1) = true ∧ okA (ps.map (·.1)) (.str r.2) = true) → False) → E (.ref NH) none G' := fun G' s' hbad => qe (fun ps' h => by
        obtain ⟨pa', g'⟩ := ps_of ps' h
        have hi' : i < ps'.length := by rw [← pa'.1]; exact hi
        obtain ⟨t, e1, e2⟩ := pa'.2 i ps'[i] (by simp [hi'])
        rw [hyi] at e1
        cases e1
        have ep : ps = ps'.take i := pa.uniq (pa'.take i)
        have hr : ps'[i]? = some ps'[i] := by simp [hi']
        refine hbad t ps'[i] rfl e2 ⟨?_, ?_⟩
        · show (nameB ps'[i].1 && !decide (ps'[i].1 ∈ ps.map (·.1))) = true
          rw [g'.nms.1 _ (List.mem_of_getElem? (good_fst hr)), ep, List.map_take, decide_eq_false (nd_take g'.nms.2 (good_fst hr))]
          rfl
        · show ((ps'[i].2 == ("all" : Str)) || decide (ps'[i].2 ∈ ps.map (·.1))) = true
          rw [ep]
          rcases g'.abv i _ hr with e | m
          · rw [e]
            simp
          · rw [decide_eq_true m, Bool.or_true]) G' s'
      have raise : (∀ t zs, y = .ref t → H t ≠ some (.tup zs)) → E (.ref NH) none G := fun hn => non G sm fun t r e1 e2 _ => hn t _ e1 e2
      cases ty with
      | non => exact isi_i (S := "NoneType") rfl rfl (br_t rfl (br_t rfl ⟨few rfl, raise fun t zs e => nomatch e⟩))
      | bl b => exact isi_i (S := "bool") rfl rfl (br_t rfl (br_t rfl ⟨few rfl, raise fun t zs e => nomatch e⟩))
      | int n => exact isi_i (S := "int") rfl rfl (br_t rfl (br_t rfl ⟨few rfl, raise fun t zs e => nomatch e⟩))
      | str h => exact isi_i (S := "str") rfl rfl (br_t rfl (br_t rfl ⟨few rfl, raise fun t zs e => nomatch e⟩))
      | lst e => exact isi_i rfl (kind_lst (sm _ _ e)) (br_t rfl (br_t rfl ⟨few rfl, raise fun t zs e1 e2 => by cases e1; rw [e] at e2; cases e2⟩))
      | dK e => exact isi_i rfl (kind_dK (sm _ _ e)) (br_t rfl (br_t rfl ⟨few rfl, raise fun t zs e1 e2 => by cases e1; rw [e] at e2; cases e2⟩))
      | @tup t zs e =>
        have ht := sm _ _ e
        refine isi_i rfl (kind_tup ht) (br_f rfl (lenT_i ht ?_))
        by_cases h2 : zs.length = 2
        · obtain ⟨x1, x2, rfl⟩ : ∃ x1 x2, zs = [x1, x2] := by
            match zs, h2 with
            | [a, b], _ => exact ⟨a, b, rfl⟩
          refine br_f rfl ?_
          refine getT_i ht (v := x1) rfl (listD_i (.inl hg) (new_i fun l G2 n2 s2 t2 => ?_))
          rw [abv_keys] at t2
          have T1 := tz t _ rfl e x1 (by simp)
          have T2 := tz t _ rfl e x2 (by simp)
          have S2 := sm.trans s2
          refine ⟨x1, l, _, rfl, t2, T1.same S2, fun ok1 G3 s3 => ?_, fun b1 G3 s3 => non G3 (S2.trans s3) fun t' r e1 e2 h => ?_⟩
          · obtain ⟨z1, rfl, hn1, hz1⟩ := okN_str ok1
            have s23 := s2.trans s3
            have S3 := sm.trans s23
            refine getT_i (s23 _ _ ht) (v := x2) rfl (listD_i (.inl (s23 _ _ hg)) (new_i fun l' G4 n4 s4 t4 => ?_))
            rw [abv_keys] at t4
            refine ⟨x2, l', _, rfl, t4, T2.same (S3.trans s4), fun ok2 G5 s5 => ?_, fun b2 G5 s5 => non G5 ((S3.trans s4).trans s5) fun t' r e1 e2 h => ?_⟩
            · obtain ⟨z2, rfl, hz2⟩ := okA_str ok2
              have s25 := (s23.trans s4).trans s5
              have hno : valV (abvD ps) (Sum.inr z1) = none := abv_none hz1
              refine setK_i (s25 _ _ hg) (k := Sum.inr z1) rfl ?_ ⟨(sm.trans s25).put n1, ⟨ps ++ [(z1, z2)], ?_, ?_, ?_, fun j r e => ?_⟩, _, _, _, rfl⟩
              · unfold abvD
                rw [List.length_map]
                omega
              · rw [upd_same, putK_new _ hno]
                unfold abvD
                rw [List.map_append]
                rfl
              · rw [take_snoc hyi]
                exact pa.snoc (q := (z1, z2)) (by assumption)
              · rw [List.map_append]
                exact nm.snoc hz1 hn1
              · by_cases hj : j < ps.length
                · rw [List.getElem?_append_left hj] at e
                  rw [List.take_append_of_le_length (by omega)]
                  exact ab j r e
                · have hlt := (List.getElem?_eq_some_iff.mp e).1
                  rw [List.length_append] at hlt
                  have : j = ps.length := by simp at hlt; omega
                  subst this
                  simp at e
                  subst e
                  rw [List.take_append_of_le_length (by omega), List.take_length]
                  exact hz2
            · cases e1
              rw [e] at e2
              cases e2
              rw [h.2] at b2
              cases b2
          · cases e1
            rw [e] at e2
            cases e2
            rw [h.1] at b1
            cases b1
        · refine br_t ?_ ⟨few rfl, non G sm fun t' r e1 e2 _ => ?_⟩
          · show (!(((zs.length : Nat) : Int) == 2)) = true
            have : ((zs.length : Int) == 2) = false := beq_eq_false_iff_ne.mpr (by omega)
            rw [this]
            rfl
          · cases e1
            rw [e] at e2
            cases e2
            exact h2 rfl
    · rintro σ G ⟨sm, ⟨ps, hg, pa, nm, ab⟩, u, v, w, rfl⟩
      rw [List.take_length] at pa
      exact q ps ⟨p, xs, rfl, hp, pa, by rw [← pa.1]; omega, by rw [← pa.1]; omega, nm, ab⟩ a G sm n1 hg
/-! House(..) -/
def spE_init (cl NH : Addr) : Sp := fun vs H Q E => ∃ (x dx : Addr) (p c : V), vs = [.ref x, p, c] ∧ H x = some (.ins cl dx []) ∧ Deep2 H p ∧ Deep1 H c ∧
  (∀ ps cs, PartsOK H p ps → ColsOK H c cs → ∀ H', SameX x H H' → (∀ G : Hp, (∀ b o, H b = none ∨ b = x → H' b = some o → G b = some o) → HouseAt cl G x ps cs) → Q .non H') ∧
  (((∀ ps, ¬ PartsOK H p ps) ∨ ∀ cs, ¬ ColsOK H c cs) → ∀ H', SameX x H H' → E (.ref NH) none H')
def tE_init (cl NH : Addr) (E : XK) : TS :=
  (tSeq (sFldG cl "above_of" (gv 0) (tCall (spE_checked_parts NH) [] E (tCons (gv 1) tNil)))
  (tSeq (sFldG cl "column_names" (gv 0) (tCall (spE_checked_columns NH) [] E (tCons (gv 2) tNil)))
  (sFldG cl "beneath_of" (gv 0) (tCall sp_turned_about [] E (tCons (tFldG cl "above_of" (gv 0)) tNil)))))
theorem Thing.at {H G : Hp} {x : Addr} {o : HO} {y : V} (hx : H x = some o) (no : (∀ xs, o ≠ .lst xs) ∧ (∀ xs, o ≠ .tup xs) ∧ ∀ xs, o ≠ .dK xs) (sx : SameX x H G) (h : Thing H y) : Thing G y := by
  have ne : ∀ {p : Addr} {u : HO}, H p = some u → o ≠ u → p ≠ x := fun {p u} e n z => by
    rw [z, hx] at e
    cases e
    exact n rfl
  cases h with
  | non => exact .non
  | bl b => exact .bl b
  | int i => exact .int i
  | str h => exact .str h
  | lst e => exact .lst (sx _ _ (ne e (no.1 _)) e)
  | tup e => exact .tup (sx _ _ (ne e (no.2.1 _)) e)
  | dK e => exact .dK (sx _ _ (ne e (no.2.2 _)) e)
/-- a list that was there ahead is the same one -/
theorem deep1_to {H G : Hp} {c : V} (h : Deep1 H c) (th : ∀ y, Thing H y → Thing G y) (back : ∀ p xs, Thing H (.ref p) → G p = some (.lst xs) → H p = some (.lst xs)) : Deep1 G c :=
  ⟨th c h.1, fun p xs e g y hy => by
    subst e
    exact th y (h.2 p xs rfl (back p xs h.1 g) y hy)⟩
theorem rE_init {x dx : Addr} {p c : V} {H : Hp} {Q : VK} {E : XK} (hx : H x = some (.ins cl dx [])) (tp : Deep2 H p) (tc : Deep1 H c)
    (q : ∀ ps cs, PartsOK H p ps → ColsOK H c cs → ∀ H', SameX x H H' → (∀ G : Hp, (∀ b o, H b = none ∨ b = x → H' b = some o → G b = some o) → HouseAt cl G x ps cs) → Q .non H')
    (qe : ((∀ ps, ¬ PartsOK H p ps) ∨ ∀ cs, ¬ ColsOK H c cs) → ∀ H', SameX x H H' → E (.ref NH) none H') : tE_init cl NH E { nx := fun _ H' => Q .non H', rt := Q } [some (.ref x), some p, some c] H := by
  refine ⟨p, rfl, tp, fun ps pok a G1 s1 n1 t1 => ?_, fun bad H' s' => qe (.inl bad) H' (same_x s')⟩
  have g : Good ps := by obtain ⟨_, _, _, _, _, g⟩ := pok; exact g
  refine sfl_i (s1 _ _ hx) rfl ?_
  have nax : a ≠ x := fun z => by rw [z, hx] at n1; cases n1
  have sx1 : SameX x H (upd G1 x (.ins cl dx (putF "above_of" (.ref a) []))) := (same_x s1).trans sameX_upd
  have no : (∀ xs, HO.ins cl dx [] ≠ .lst xs) ∧ (∀ xs, HO.ins cl dx [] ≠ .tup xs) ∧ ∀ xs, HO.ins cl dx [] ≠ .dK xs := ⟨fun _ z => (by cases z), fun _ z => (by cases z), fun _ z => (by cases z)⟩
  have back : ∀ b o, (∃ u, H b = some u) → upd G1 x (.ins cl dx (putF "above_of" (.ref a) [])) b = some o → b ≠ x → H b = some o := fun b o ⟨u, eu⟩ e n => by
    have := sx1 b u n eu
    rw [this] at e
    cases e
    exact eu
  have tc1 : Deep1 (upd G1 x (.ins cl dx (putF "above_of" (.ref a) []))) c := deep1_to tc (fun y => Thing.at hx no sx1) fun b xs th e => by
    have nb : b ≠ x := fun z => by rw [z, upd_same] at e; cases e
    refine back b _ ?_ e nb
    cases th with
    | lst e => exact ⟨_, e⟩
    | tup e => exact ⟨_, e⟩
    | dK e => exact ⟨_, e⟩
  refine ⟨c, rfl, tc1, fun cs cok d G2 s2 n2 t2 => ?_, fun bad H' s' => qe (.inr fun cs ⟨b, e, h, k⟩ => bad cs ⟨b, e, sx1 b _ (nx_of h hx (by simp)) h, k⟩) H' (sx1.trans (same_x s'))⟩
  obtain ⟨b0, e0, hb0, hn, h1, h8⟩ := cok
  have cokH : ColsOK H c cs := by
    subst e0
    have nb : b0 ≠ x := fun z => by rw [z, upd_same] at hb0; cases hb0
    refine ⟨b0, rfl, back b0 _ ?_ hb0 nb, hn, h1, h8⟩
    cases tc.1 with
    | lst e => exact ⟨_, e⟩
    | tup e => exact ⟨_, e⟩
    | dK e => exact ⟨_, e⟩
  have hx2 := s2 _ _ upd_same
  have ndx : d ≠ x := fun z => by rw [z, upd_same] at n2; cases n2
  refine sfl_i hx2 rfl ?_
  refine fld_i upd_same (v := .ref a) rfl ?_
  have ha2 : G2 a = some (.dK (abvD ps)) := s2 _ _ (by rw [upd_ne nax]; exact t1)
  refine ⟨a, ps, rfl, by rw [upd_ne nax]; exact ha2, g, fun b bs G3 s3 n3 nbs bn => ?_⟩
  have hx3 := s3 _ _ upd_same
  have nbx : b ≠ x := fun z => by rw [z, upd_same] at n3; cases n3
  refine sfl_i hx3 rfl ?_
  have sx : SameX x H G3 := ((sx1.trans (same_x s2)).trans sameX_upd).trans (same_x s3)
  have nod : H d = none := s1.free (by rw [upd_ne ndx] at n2; exact n2)
  have up : ∀ c, c ≠ x → upd G2 x (.ins cl dx (putF "column_names" (.ref d) (putF "above_of" (.ref a) []))) c = none → H c = none := fun c nc e => by
    rw [upd_ne nc] at e
    have e := s2.free e
    rw [upd_ne nc] at e
    exact s1.free e
  have nob : H b = none := up b nbx n3
  refine q ps cs pok cokH _ (sx.trans sameX_upd) fun G hG => ⟨g, hn, h1, h8, dx, a, d, b, bs, hG x _ (.inr rfl) upd_same, hG a _ (.inl n1) ?_, hG d _ (.inl nod) ?_, ?_⟩
  · rw [upd_ne nax]
    exact s3 _ _ (by rw [upd_ne nax]; exact ha2)
  · rw [upd_ne ndx]
    exact s3 _ _ (by rw [upd_ne ndx]; exact t2)
  · have nex : ∀ e ∈ bs, e ≠ x := fun e he z => by
      have := nbs e he
      rw [z, upd_same] at this
      cases this
    exact ⟨bn.len, bn.nd, hG b _ (.inl nob) (by rw [upd_ne nbx]; exact bn.d), fun i k e e1 e2 => by
      have hm := List.mem_of_getElem? e2
      refine hG e _ (.inl (up e (nex e hm) (nbs e hm))) ?_
      rw [upd_ne (nex e hm)]
      exact bn.l i k e e1 e2⟩
end
end Tv

set_option Elab.async false
set_option linter.all false
set_option maxRecDepth 100000
set_option maxHeartbeats 4000000
/-! ### the houses that a law draws: names of b to z -/
namespace Tv
open PySem PySem.Spec PyProof.Rows L2
section
variable {K : PySem.W.Frag}
def sp_law_namesB : Sp := fun vs H Q _ => ∃ c m : Int, vs = [.int c, .int m] ∧ 0 ≤ m ∧ m ≤ 24 ∧ ∀ p (zs : List Str) H', Same H H' → H p = none → H' p = some (.lst (sts zs)) → (zs.length : Int) = m → Nms zs → (∀ z ∈ zs, Bz z) → Q (.ref p) H'
def sp_law_partsB (K : PySem.W.Frag) : Sp := fun vs H Q _ => ∃ (a : Addr) (ns : List Int), vs = [.ref a] ∧ SqL K H a (ns.map V.int) ∧ ∀ l (xs : List V) (ps : List (Str × Str)) H', Same H H' → H l = none → H' l = some (.lst xs) → PairsAt H' xs ps → Good ps → (∀ r ∈ ps, Bz r.1) → Q (.ref l) H'
theorem r_law_namesB {c m : Int} {H : Hp} {D : Ends} (h0 : 0 ≤ m) (h24 : m ≤ 24) (q : ∀ p (zs : List Str) H', Same H H' → H p = none → H' p = some (.lst (sts zs)) → (zs.length : Int) = m → Nms zs → (∀ z ∈ zs, Bz z) → D.rt (.ref p) H') :
    t_law_names D [some (.int c), some (.int m), none, none, none, none, none, none, none, none, none] H := by
  have hs := sz
  have hS : 2 ≤ 2 + c % 7 ∧ 2 + c % 7 ≤ 8 := by omega
  refine ⟨by decide, ⟨by decide, by decide⟩, by omega, ⟨by decide, by decide⟩, by omega, by omega, few rfl, new_i fun p G1 n1 s1 t1 => ?_⟩
  obtain ⟨a1, a2, b1, b2, ab⟩ := apart hS.1 hS.2 _ _ _ rfl rfl rfl (c := c)
  generalize e2 : (c / 7 % (2 + c % 7) + 1 + c / 61 % (2 + c % 7 - 1)) % (2 + c % 7) = B at *
  generalize e1 : c / 7 % (2 + c % 7) = A at *
  generalize e0 : 2 + c % 7 = S at *
  have hSh : A < 1 + (if B > A then B else A) ∧ B < 1 + (if B > A then B else A) ∧ 1 + (if B > A then B else A) ≤ S := by
    split <;> omega
  generalize e3 : 1 + (if B > A then B else A) = Sh at *
  refine sFor_i ⟨⟨by omega, by omega⟩, ?_⟩
  refine loop_rng (fun i σ G => Same H G ∧ (∃ zs : List Str, G p = some (.lst (sts zs)) ∧ zs.length = i ∧ ∀ (j : Nat) z, zs[j]? = some z → nameB z = true ∧ Bz z ∧ z.cps.toList[A.toNat]? = some (98 + ((c / 11 + j) % 25).toNat)) ∧ ∃ u v w x, σ = [some (.int c), some (.int m), some (.int S), some (.int A), some (.int B), some (.int Sh), some (.ref p), u, v, w, x]) ⟨s1, ⟨[], t1, rfl, fun j z e => by simp at e⟩, _, _, _, _, rfl⟩ ?_ ?_
  · rintro i σ G hi ⟨sm, ⟨zs, hg, hl, hz⟩, u, v, w, x, rfl⟩
    have hL := Int.emod_nonneg (0 + (i : Int)) (show S - Sh + 1 ≠ 0 by omega)
    have hL2 := Int.emod_lt_of_pos (0 + (i : Int)) (show 0 < S - Sh + 1 by omega)
    refine sFor_i ⟨by omega, ⟨by omega, by omega⟩, ?_⟩
    refine loop_rng (fun j σ G' => G' = G ∧ (∃ y : Str, y.length = j ∧ Bz y ∧ (A < j → y.cps.toList[A.toNat]? = some (98 + ((c / 11 + i) % 25).toNat)) ∧ ∃ w x, σ = [some (.int c), some (.int m), some (.int S), some (.int A), some (.int B), some (.int Sh), some (.ref p), some (.int (0 + i)), some (.str y), w, x])) ⟨rfl, "", rfl, (fun d hd => by
        rw [show ("" : Str).cps.toList = [] from rfl] at hd
        cases hd), (fun h => by omega), _, _, rfl⟩ ?_ ?_
    · rintro j σ G' hj ⟨rfl, y, hy, hb, hA, w, x, rfl⟩
      have fin : ∀ (n : Int) (D' : Ends), ((j : Int) = A → n = c / 11 + i) → (D'.nx = fun σ G2 => G2 = G' ∧ (∃ y : Str, y.length = j + 1 ∧ Bz y ∧ (A < (j + 1 : Nat) → y.cps.toList[A.toNat]? = some (98 + ((c / 11 + i) % 25).toNat)) ∧ ∃ w x, σ = [some (.int c), some (.int m), some (.int S), some (.int A), some (.int B), some (.int Sh), some (.ref p), some (.int (0 + i)), some (.str y), w, x])) →
          tn_fin D' [some (.int c), some (.int m), some (.int S), some (.int A), some (.int B), some (.int Sh), some (.ref p), some (.int (0 + i)), some (.str y), some (.int (0 + j)), some (.int n)] G' := by
        intro n D' hn hD
        have m1 := Int.emod_nonneg n (show (25 : Int) ≠ 0 by decide)
        have m2 := Int.emod_lt_of_pos n (show (0 : Int) < 25 by decide)
        refine ⟨by decide, getS_i (beta_at m1 m2) (by decide) ⟨?_, ?_⟩⟩
        · show y.length + 1 ≤ sizeLine
          omega
        · rw [hD]
          refine ⟨rfl, _, ?_, hb.snoc (c := 98 + (n % 25).toNat) (by omega) (by omega), fun hlt => ?_, _, _, rfl⟩
          · rw [app_len, hy]
            rfl
          · rw [app_list]
            by_cases hc : (j : Int) = A
            · have e : A.toNat = y.cps.toList.length := by rw [list_len, hy]; omega
              rw [e, List.getElem?_append_right (Nat.le_refl _), Nat.sub_self, hn hc]
              rfl
            · rw [List.getElem?_append_left (by rw [list_len, hy]; omega)]
              exact hA (by omega)
      have two : ∀ (n : Int) (D' : Ends), ((j : Int) = A → n = c / 11 + i) → (D'.nx = fun σ G2 => G2 = G' ∧ (∃ y : Str, y.length = j + 1 ∧ Bz y ∧ (A < (j + 1 : Nat) → y.cps.toList[A.toNat]? = some (98 + ((c / 11 + i) % 25).toNat)) ∧ ∃ w x, σ = [some (.int c), some (.int m), some (.int S), some (.int A), some (.int B), some (.int Sh), some (.ref p), some (.int (0 + i)), some (.str y), w, x])) →
          tn_two D' [some (.int c), some (.int m), some (.int S), some (.int A), some (.int B), some (.int Sh), some (.ref p), some (.int (0 + i)), some (.str y), some (.int (0 + j)), some (.int n)] G' := by
        intro n D' hn hD
        refine br_of (fun h => ?_) (fun h => fin n D' hn hD)
        have h : ((0 + (j : Int)) == B) = true := h
        have h := eq_of_beq h
        exact ⟨⟨by decide, by decide⟩, ⟨by decide, by decide⟩, fin _ D' (fun e => by omega) hD⟩
      refine ⟨⟨by decide, by decide⟩, mul_small (by omega) (by omega), mul_small (by decide) (by decide), ?_⟩
      refine br_of (fun h => ?_) (fun h => ?_)
      · exact ⟨⟨by decide, by decide⟩, two (c / 11 + (0 + i)) _ (fun e => by omega) rfl⟩
      · have h : ((0 + (j : Int)) == A) = false := h
        have h := beq_eq_false_iff_ne.mp h
        exact two _ _ (fun e => absurd e (by omega)) rfl
    · rintro σ G' ⟨rfl, y, hy, hb, hA, w, x, rfl⟩
      refine app_i hg (app_at hg (by simp; omega) ⟨sm.put n1, ⟨zs ++ [y], by rw [upd_same, sts_snoc], by simp [hl], fun j z e => ?_⟩, _, _, _, _, rfl⟩)
      by_cases hj : j < zs.length
      · rw [List.getElem?_append_left hj] at e
        exact hz j z e
      · have hlt := (List.getElem?_eq_some_iff.mp e).1
        rw [List.length_append] at hlt
        have : j = zs.length := by simp at hlt; omega
        subst this
        simp at e
        subst e
        rw [hl]
        exact ⟨hb.name (by omega) (by omega), hb, hA (by omega)⟩
  · rintro σ G ⟨sm, ⟨zs, hg, hl, hz⟩, u, v, w, x, rfl⟩
    refine q p zs G sm n1 hg (by omega) ⟨fun z hm => ?_, ?_⟩ (fun z hm => by
      obtain ⟨j, hj⟩ := List.mem_iff_getElem?.mp hm
      exact (hz j z hj).2.1)
    · obtain ⟨j, hj⟩ := List.mem_iff_getElem?.mp hm
      exact (hz j z hj).1
    · refine List.pairwise_iff_getElem.mpr fun i j hi hj hlt e => ?_
      have z1 := (hz i zs[i] (by simp [hi])).2.2
      have z2 := (hz j zs[j] (by simp [hj])).2.2
      rw [e, z2] at z1
      injection z1 with z1
      omega
def t_law_columnsB (K : PySem.W.Frag) : TS :=
  (tRet (tCall sp_law_namesB [] E0 (tCons (tCall (sp_law_cell_at K) [] E0 (tCons (gv 0) (tCons (tC (.int 2)) tNil))) (tCons (tOp addG (tC (.int 1)) (tOp modG (tOp fdivG (tCall (sp_law_cell_at K) [] E0 (tCons (gv 0) (tCons (tC (.int 2)) tNil))) (tC (.int 9))) (tC (.int 8)))) tNil))))
theorem r_law_columnsB {a : Addr} {ns : List Int} {H : Hp} {D : Ends} (hS : SqL K H a (ns.map V.int)) (q : ∀ p (cs : List Str) H', Same H H' → H p = none → H' p = some (.lst (sts cs)) → 1 ≤ cs.length → cs.length ≤ 8 → Nms cs → D.rt (.ref p) H') : t_law_columnsB K D [some (.ref a)] H := by
  refine ⟨a, ns, 2, rfl, hS, by decide, a, ns, 2, rfl, hS, by decide, ⟨by decide, by decide⟩, by decide, ?_⟩
  refine ⟨_, _, rfl, by omega, by omega, fun p zs G s n t hl hn hB => ?_⟩
  exact q p zs G s n t (by omega) (by omega) hn
def t_law_partsB (K : PySem.W.Frag) : TS :=
  (tSeq (tAsg (tOp addG (tC (.int 1)) (tOp modG (tOp fdivG (tCall (sp_law_cell_at K) [] E0 (tCons (gv 0) (tCons (tC (.int 0)) tNil))) (tC (.int 5))) (tOp getG (tLstG (tCons (tC (.int 5)) (tCons (tC (.int 8)) (tCons (tC (.int 24)) tNil)))) (tOp modG (tCall (sp_law_cell_at K) [] E0 (tCons (gv 0) (tCons (tC (.int 0)) tNil))) (tC (.int 3)))))) (gName 1))
  (tSeq (tAsg (tCall sp_law_namesB [] E0 (tCons (tCall (sp_law_cell_at K) [] E0 (tCons (gv 0) (tCons (tC (.int 1)) tNil))) (tCons (gv 1) tNil))) (gName 2))
  (tSeq (tAsg (tLstG tNil) (gName 3))
  (tSeq (sFor (iRngG (tCons (gv 1) tNil)) (gName 4)
    (tSeq (tAsg (tOp modG (tOp mulG (tOp addG (tOp addG (tCall (sp_law_cell_at K) [] E0 (tCons (gv 0) (tCons (tOp addG (tC (.int 3)) (gv 4)) tNil))) (tOp mulG (tC (.int 7)) (gv 4))) (tC (.int 1))) (tC (.int 48271))) (tC (.int 2147483647))) (gName 5))
    (tSeq (tAsg (tOp getG (tOp addG (tLstG (tCons (tC (.str "all")) tNil)) (tSl slG (gv 2) tNoPart (partG (gv 4)))) (tOp modG (tOp fdivG (gv 5) (tC (.int 3))) (tOp addG (gv 4) (tC (.int 1))))) (gName 6))
    (tSeq (sIf (tAndB (bT (tOp eqG (tOp modG (gv 5) (tC (.int 3))) (tC (.int 1)))) (bT (tOp gtG (gv 4) (tC (.int 0)))))
      (tAsg (tOp getG (gv 2) (tOp subG (gv 4) (tC (.int 1)))) (gName 6))
      tNext)
    tp_two))))
  (tRet (gv 3))))))
theorem r_law_partsB {a : Addr} {ns : List Int} {H : Hp} {D : Ends} (hS : SqL K H a (ns.map V.int)) (q : ∀ l (xs : List V) (ps : List (Str × Str)) H', Same H H' → H l = none → H' l = some (.lst xs) → PairsAt H' xs ps → Good ps → (∀ r ∈ ps, Bz r.1) → D.rt (.ref l) H') :
    t_law_partsB K D [some (.ref a), none, none, none, none, none, none] H := by
  have hs := sz
  refine ⟨a, ns, 0, rfl, hS, by decide, ⟨by decide, by decide⟩, few rfl, new_i fun p0 G0 n0 s0 t0 => ?_⟩
  generalize cellAt ns 0 = c0
  refine ⟨a, ns, 0, rfl, s0.seq hS, by decide, by decide, ?_⟩
  generalize cellAt ns 0 = c1
  obtain ⟨d, hd, d0, d24⟩ := three_at (Int.emod_nonneg c1 (show (3 : Int) ≠ 0 by decide)) (Int.emod_lt_of_pos c1 (show (0 : Int) < 3 by decide))
  refine getL_i t0 hd ⟨d0, ?_⟩
  have m1 := Int.emod_nonneg (c0 / 5) (show d ≠ 0 by omega)
  have m2 := Int.emod_lt_of_pos (c0 / 5) d0
  generalize c0 / 5 % d = e at *
  refine ⟨a, ns, 1, rfl, s0.seq hS, by decide, _, _, rfl, by omega, by omega, fun p zs G1 s1 n1 t1 hl hn hB => ?_⟩
  refine ⟨few rfl, new_i fun l G2 n2 s2 t2 => ?_⟩
  have S1 := s0.trans s1
  have nl : H l = none := S1.free n2
  have npl : p ≠ l := fun z => by rw [z, n2] at t1; cases t1
  refine sFor_i ⟨⟨by omega, by omega⟩, ?_⟩
  refine loop_rng (fun i σ G => (Same H G ∧ G p = some (.lst (sts zs))) ∧ (∃ xs qs, G l = some (.lst xs) ∧ PairsAt G xs qs ∧ qs.length = i ∧ qs.map (·.1) = zs.take i ∧ ∀ (j : Nat) r, qs[j]? = some r → r.2 = "all" ∨ r.2 ∈ zs.take j) ∧ ∃ u v w, σ = [some (.ref a), some (.int (1 + e)), some (.ref p), some (.ref l), u, v, w])
    ⟨⟨S1.trans s2, s2 _ _ t1⟩, ⟨[], [], t2, .nil, rfl, by simp, fun j r e => by simp at e⟩, _, _, _, rfl⟩ ?_ ?_
  · rintro i σ G hi ⟨⟨sm, hp⟩, ⟨xs, qs, hg, pa, ql, qn, qa⟩, u, v, w, rfl⟩
    have hi2 : i < zs.length := by omega
    refine ⟨a, ns, 3 + (0 + i), rfl, sm.seq hS, by omega, .inl ⟨by decide, by decide⟩, mul_small (by decide) (by decide), by decide, ?_⟩
    generalize (cellAt ns (3 + (0 + ↑i)) + 7 * (0 + ↑i) + 1) * 48271 % 2147483647 = dr
    refine ⟨few rfl, new_i fun pa1 G3 n3 s3 t3 => ?_⟩
    refine slL_i (s3 _ _ hp) (new_i fun pa2 G4 n4 s4 t4 => ?_)
    rw [cut_take zs i (by omega)] at t4
    refine addL_i (s4 _ _ t3) t4 (by simp; omega) (new_i fun pa3 G5 n5 s5 t5 => ⟨⟨by decide, by decide⟩, by omega, ?_⟩)
    have w1 := Int.emod_nonneg (dr / 3) (show (0 + (i : Int)) + 1 ≠ 0 by omega)
    have w2 := Int.emod_lt_of_pos (dr / 3) (show 0 < (0 + (i : Int)) + 1 by omega)
    obtain ⟨ab, hab, hok⟩ := all_at (zs.take i) w1 (by rw [List.length_take]; omega)
    refine getL_i t5 hab ?_
    have S35 := (s3.trans s4).trans s5
    replace sm := sm.trans S35
    replace hp := S35 _ _ hp
    replace hg := S35 _ _ hg
    replace pa := pa.same S35
    have hzi : zs[i]? = some zs[i] := by simp [hi2]
    have fin : ∀ (b : Str) (D' : Ends), (b = "all" ∨ b ∈ zs.take i) → (D'.nx = fun σ G => (Same H G ∧ G p = some (.lst (sts zs))) ∧ (∃ xs qs, G l = some (.lst xs) ∧ PairsAt G xs qs ∧ qs.length = i + 1 ∧ qs.map (·.1) = zs.take (i + 1) ∧ ∀ (j : Nat) r, qs[j]? = some r → r.2 = "all" ∨ r.2 ∈ zs.take j) ∧ ∃ u v w, σ = [some (.ref a), some (.int (1 + e)), some (.ref p), some (.ref l), u, v, w]) →
        tp_fin D' [some (.ref a), some (.int (1 + e)), some (.ref p), some (.ref l), some (.int (0 + i)), some (.int dr), some (.str b)] G5 := by
      intro b D' hb hD
      refine app_i hg (getL_i hp (by rw [Int.zero_add]; exact atS hzi) ⟨few rfl, new_i fun t G6 n6 s6 t6 => app_at (s6 _ _ hg) ?_ ?_⟩)
      · rw [pa.1, ql]
        omega
      · rw [hD]
        refine ⟨⟨(sm.trans s6).put nl, by rw [upd_ne npl]; exact s6 _ _ hp⟩, ⟨_, qs ++ [(zs[i], b)], upd_same, ((pa.same s6).snoc t6).put (s6 _ _ hg), by simp [ql], by rw [List.map_append, qn, take_snoc hzi]; rfl, fun j r e => ?_⟩, _, _, _, rfl⟩
        by_cases hj : j < qs.length
        · rw [List.getElem?_append_left hj] at e
          exact qa j r e
        · have hlt := (List.getElem?_eq_some_iff.mp e).1
          rw [List.length_append] at hlt
          have : j = qs.length := by simp at hlt; omega
          subst this
          simp at e
          subst e
          rw [ql]
          exact hb
    have two : ∀ (b : Str) (D' : Ends), (b = "all" ∨ b ∈ zs.take i) → (D'.nx = fun σ G => (Same H G ∧ G p = some (.lst (sts zs))) ∧ (∃ xs qs, G l = some (.lst xs) ∧ PairsAt G xs qs ∧ qs.length = i + 1 ∧ qs.map (·.1) = zs.take (i + 1) ∧ ∀ (j : Nat) r, qs[j]? = some r → r.2 = "all" ∨ r.2 ∈ zs.take j) ∧ ∃ u v w, σ = [some (.ref a), some (.int (1 + e)), some (.ref p), some (.ref l), u, v, w]) →
        tp_two D' [some (.ref a), some (.int (1 + e)), some (.ref p), some (.ref l), some (.int (0 + i)), some (.int dr), some (.str b)] G5 := by
      intro b D' hb hD
      refine ⟨by decide, br_of (fun h => ?_) (fun h => fin b D' hb hD)⟩
      exact fin "all" D' (.inl rfl) hD
    refine ⟨by decide, br_of (fun h => ?_) (fun h => br_f rfl (two ab _ hok rfl))⟩
    refine br_dec (fun h2 => ?_) (fun h2 => two ab _ hok rfl)
    have hi0 : i - 1 < zs.length := by omega
    refine getL_i hp (v := .str zs[i - 1]) ?_ (two zs[i - 1] _ (.inr ?_) rfl)
    · have : (0 + (i : Int)) - 1 = ((i - 1 : Nat) : Int) := by omega
      rw [this]
      exact atS (by simp [hi0])
    · refine List.mem_iff_getElem?.mpr ⟨i - 1, ?_⟩
      rw [List.getElem?_take_of_lt (by omega)]
      simp [hi0]
  · rintro σ G ⟨⟨sm, hp⟩, ⟨xs, qs, hg, pa, ql, qn, qa⟩, u, v, w, rfl⟩
    have hlz : zs.length = (1 + e).toNat := by omega
    rw [← hlz, List.take_length] at qn
    refine q l xs qs G sm nl hg pa ⟨by omega, by omega, by rw [qn]; exact hn, fun i r e => ?_⟩ (fun r hr => hB r.1 (by rw [← qn]; exact List.mem_map.mpr ⟨r, hr, rfl⟩))
    rw [List.map_take, qn]
    exact qa i r e
end
end Tv

set_option Elab.async false
set_option linter.all false
set_option maxRecDepth 100000
set_option maxHeartbeats 4000000
namespace Tv
open PySem PySem.Spec PyProof.Rows L2
namespace R
section
variable {K : PySem.W.Frag} {cl NH VE NT NX NP : Addr}
/-! small words -/
theorem cut_pre (xs : List V) {k : Nat} (h : k ≤ xs.length) : cutV xs none (some (k : Int)) = xs.take k := by
  unfold cutV
  rw [HT.sIx_none, HT.sIx_nat, List.drop_zero, Nat.min_eq_left h, Nat.sub_zero]
theorem cut_suf (xs : List V) {k : Nat} (h : k ≤ xs.length) : cutV xs (some (k : Int)) none = xs.drop k := by
  unfold cutV
  rw [HT.sIx_none, HT.sIx_nat, Nat.min_eq_left h, List.take_of_length_le (by rw [List.length_drop]; exact Nat.le_refl _)]
theorem tupleL_i {p : Addr} {ys : List V} {H : Hp} {Q : VK} (h : H p = some (.lst ys)) (q : newO H (.tup ys) Q) : tupleG [.ref p] H Q := by
  unfold tupleG
  simp only [h]
  exact q
theorem isiX_i {kit : List (Addr × V × Bool)} {a d : Addr} {c : V} {b : Bool} {H : Hp} {Q : VK} (h : H a = some (.ext (TyAt a d))) (hm : (d, c, b) ∈ kit) (q : Q (.bl b) H) : isiX kit [.ref a, c] H Q := by
  unfold isiX
  exact ⟨a, d, c, b, rfl, h, hm, q⟩
theorem free {H G : Hp} (s : Same H G) {p : Addr} (h : G p = none) : H p = none := by
  cases e : H p with
  | none => rfl
  | some o => rw [s _ _ e] at h; cases h
/-! _law_bad_name -/
def BadN (H : Hp) (zs : List Str) (x : V) : Prop := Thing H x ∧ ∀ z, x = .str z → nameB z = false ∨ z ∈ zs
def sp_bad_name : Sp := fun vs H Q _ => ∃ (c : Int) (l : Addr) (zs : List Str), vs = [.int c, .ref l] ∧ H l = some (.lst (sts zs)) ∧ 1 ≤ zs.length ∧ zs.length ≤ 1000 ∧ (∀ z ∈ zs, z.length ≤ 1000) ∧ ∀ x H', Same H H' → BadN H' zs x → Q x H'
def t_bad_name : TS :=
  (tSeq (tAsg (tLstG (tCons (tC (.str "")) (tCons (tC (.str "all")) (tCons (tC (.str "A")) (tCons (tC (.str "b1")) (tCons (tC (.str " b")) (tCons (tC (.str "bbbbbbbbb")) (tCons (tC (.str "b\n")) (tCons (tC (.int 5)) (tCons (tC .non) (tCons (tC (.bl true)) (tCons (tLstG (tCons (tC (.str "b")) tNil)) (tCons (tTupG (tCons (tC (.str "b")) tNil)) tNil))))))))))))) (gName 2))
  (tRet (tOp getG (tOp addG (gv 2) (tLstG (tCons (tOp getG (gv 1) (tOp modG (tOp fdivG (gv 0) (tC (.int 16))) (tCB lenG (tCons (gv 1) tNil)))) tNil))) (tOp modG (gv 0) (tC (.int 13))))))
def bads (p q : Addr) : List V := [.str "", .str "all", .str "A", .str "b1", .str " b", .str "bbbbbbbbb", .str "b\n", .int 5, .non, .bl true, .ref p, .ref q]
theorem bads_at {H : Hp} {p q : Addr} {xs ys : List V} {zs : List Str} {z : Str} (hp : H p = some (.lst xs)) (hq : H q = some (.tup ys)) (hz : z ∈ zs) (lz : z.length ≤ 1000) {i : Nat} (hi : i < 13) : ∃ x, (bads p q ++ [.str z])[i]? = some x ∧ BadN H zs x := by
  have s : ∀ y : Str, y.length ≤ 1000 → nameB y = false → BadN H zs (.str y) := fun y l n => ⟨.str l, fun w e => .inl (by cases e; exact n)⟩
  match i, hi with
  | 0, _ => exact ⟨_, rfl, s _ (by decide) (by decide +kernel)⟩
  | 1, _ => exact ⟨_, rfl, s _ (by decide) (by decide +kernel)⟩
  | 2, _ => exact ⟨_, rfl, s _ (by decide) (by decide +kernel)⟩
  | 3, _ => exact ⟨_, rfl, s _ (by decide) (by decide +kernel)⟩
  | 4, _ => exact ⟨_, rfl, s _ (by decide) (by decide +kernel)⟩
  | 5, _ => exact ⟨_, rfl, s _ (by decide) (by decide +kernel)⟩
  | 6, _ => exact ⟨_, rfl, s _ (by decide) (by decide +kernel)⟩
  | 7, _ => exact ⟨_, rfl, .int _, fun w e => nomatch e⟩
  | 8, _ => exact ⟨_, rfl, .non, fun w e => nomatch e⟩
  | 9, _ => exact ⟨_, rfl, .bl _, fun w e => nomatch e⟩
  | 10, _ => exact ⟨_, rfl, .lst hp, fun w e => nomatch e⟩
  | 11, _ => exact ⟨_, rfl, .tup hq, fun w e => nomatch e⟩
  | 12, _ => exact ⟨_, rfl, .str lz, fun w e => .inr (by cases e; exact hz)⟩
theorem mod_nat (c : Int) {n : Nat} (h : 0 < n) : ∃ j : Nat, c % (n : Int) = j ∧ j < n := by
  have h1 := Int.emod_nonneg c (show (n : Int) ≠ 0 by omega)
  have h2 := Int.emod_lt_of_pos c (show (0 : Int) < n by omega)
  exact ⟨(c % (n : Int)).toNat, by omega, by omega⟩
theorem r_bad_name {c : Int} {l : Addr} {zs : List Str} {H : Hp} {D : Ends} (hl : H l = some (.lst (sts zs))) (h1 : 1 ≤ zs.length) (hz : zs.length ≤ 1000) (hw : ∀ z ∈ zs, z.length ≤ 1000) (q : ∀ x H', Same H H' → BadN H' zs x → D.rt x H') : t_bad_name D [some (.int c), some (.ref l), none] H := by
  have hs := sz
  refine ⟨few rfl, new_i fun p1 G1 n1 s1 t1 => ⟨few rfl, new_i fun p2 G2 n2 s2 t2 => ⟨few rfl, new_i fun p3 G3 n3 s3 t3 => ?_⟩⟩⟩
  have S3 := (s1.trans s2).trans s3
  obtain ⟨j, hj, hjl⟩ := mod_nat (c / 16) (n := (sts zs).length) (by simp; omega)
  rw [sts, List.length_map] at hjl
  have hzj : zs[j]? = some zs[j] := by simp [hjl]
  refine ⟨⟨by decide, by decide⟩, lenL_i (S3 _ _ hl) ⟨by simp; omega, getL_i (S3 _ _ hl) (v := .str zs[j]) (by rw [hj]; exact atS hzj) ⟨few rfl, new_i fun p4 G4 n4 s4 t4 => ?_⟩⟩⟩
  refine addL_i (s4 _ _ t3) t4 (by simp; omega) (new_i fun p5 G5 n5 s5 t5 => ⟨by decide, ?_⟩)
  obtain ⟨i, hi, hil⟩ := mod_nat c (n := 13) (by decide)
  have s15 := ((s2.trans s3).trans s4).trans s5
  obtain ⟨x, hx, bx⟩ := bads_at (H := G5) (zs := zs) (s15 _ _ t1) (((s3.trans s4).trans s5) _ _ t2) (List.mem_of_getElem? hzj) (hw _ (List.mem_of_getElem? hzj)) hil
  refine getL_i t5 (v := x) ?_ (q x G5 (((S3.trans s4)).trans s5) bx)
  have hi : c % 13 = (i : Int) := hi
  rw [hi]
  exact atI_nat hx
/-! _law_bad_part -/
def sp_bad_part : Sp := fun vs H Q _ => ∃ (pl : Addr) (c : Int) (xs : List V) (ps : List (Str × Str)), vs = [.ref pl, .int c] ∧ H pl = some (.lst xs) ∧ PairsAt H xs ps ∧ Good ps ∧ (∀ r ∈ ps, Bz r.1) ∧ ∀ p ys H', Same H H' → H' p = some (.lst ys) → Deep2 H' (.ref p) → (∀ ps', PairsAt H' ys ps' → Good ps' → False) → H p = none → Q (.ref p) H'
def tb_end : TS := (tRet (tOp addG (tOp addG (tSl slG (gv 0) tNoPart (partG (gv 3))) (tLstG (tCons (gv 7) tNil))) (tSl slG (gv 0) (partG (tOp addG (gv 3) (tC (.int 1)))) tNoPart)))
def tb_rest : TS :=
  (tSeq (tAsg (tOp modG (gv 1) (tC (.int 11))) (gName 6))
  (tSeq (sIf (bT (tOp ltG (gv 6) (tC (.int 3))))
    (tAsg (tOp getG (tLstG (tCons (tLstG (tCons (gv 4) (tCons (gv 5) tNil))) (tCons (tTupG (tCons (gv 4) tNil)) (tCons (tTupG (tCons (gv 4) (tCons (gv 5) (tCons (gv 5) tNil)))) tNil)))) (gv 6)) (gName 7))
    (sIf (bT (tOp eqG (gv 6) (tC (.int 3))))
      (tAsg (tTupG (tCons (gv 4) (tCons (gv 4) tNil))) (gName 7))
      (sIf (bT (tOp eqG (gv 6) (tC (.int 4))))
        (tAsg (tTupG (tCons (gv 4) (tCons (tOp getG (gv 2) (tOp addG (gv 3) (tOp modG (tOp fdivG (gv 1) (tC (.int 300))) (tOp subG (tCB lenG (tCons (gv 2) tNil)) (gv 3))))) tNil))) (gName 7))
        (sIf (bT (tOp ltG (gv 6) (tC (.int 7))))
          (tAsg (tTupG (tCons (gv 4) (tCons (tOp getG (tLstG (tCons (tC (.str "a")) (tCons (tC (.str "")) (tCons (tC (.str "All")) (tCons (tC .non) (tCons (tC (.int 5)) (tCons (tC (.bl true)) (tCons (tLstG (tCons (tC (.str "all")) tNil)) (tCons (tTupG (tCons (tC (.str "all")) tNil)) (tCons tDNew (tCons (tC (.str "al")) tNil))))))))))) (tOp modG (tOp fdivG (gv 1) (tC (.int 300))) (tC (.int 10)))) tNil))) (gName 7))
          (tAsg (tTupG (tCons (tCall sp_bad_name [] E0 (tCons (tOp fdivG (gv 1) (tC (.int 300))) (tCons (tOp addG (tOp addG (tSl slG (gv 2) tNoPart (partG (gv 3))) (tSl slG (gv 2) (partG (tOp addG (gv 3) (tC (.int 1)))) tNoPart)) (tLstG (tCons (tC (.str "all")) tNil))) tNil))) (tCons (gv 5) tNil))) (gName 7))))))
  tb_end))
def t_bad_part : TS :=
  (tSeq (tAsg (tCompI (iOf iterG (gv 0)) ["_law_name", "_law_above"] [] (gTup0 2 (gCons (gName 0) (gCons (gName 1) gNil))) tYes (gv 0)) (gName 2))
  (tSeq (tAsg (tOp modG (tOp fdivG (gv 1) (tC (.int 11))) (tCB lenG (tCons (gv 0) tNil))) (gName 3))
  (tSeq (tAsg (tOp getG (gv 0) (gv 3)) (gTup0 2 (gCons (gName 4) (gCons (gName 5) gNil))))
  tb_rest)))
/-- what comes of the parts with the one at k exchanged -/
theorem exch_at {xs : List V} {k : Nat} {w : V} (hk : k < xs.length) : (xs.take k ++ [w] ++ xs.drop (k + 1))[k]? = some w ∧ (∀ i, i ≠ k → (xs.take k ++ [w] ++ xs.drop (k + 1))[i]? = xs[i]?) := by
  have e : xs.take k ++ [w] ++ xs.drop (k + 1) = xs.set k w := by
    rw [List.set_eq_take_append_cons_drop, if_pos hk]
    simp
  rw [e]
  exact ⟨List.getElem?_set_self hk, fun i hi => List.getElem?_set_ne (Ne.symm hi)⟩
theorem r_tb_end {pl pn : Addr} {c : Int} {k : Nat} {w nm ab wy : V} {xs : List V} {ps : List (Str × Str)} {H : Hp} {D : Ends} (hl : H pl = some (.lst xs)) (pa : PairsAt H xs ps) (g : Good ps) (hk : k < ps.length) (tw : Thing H w) (tz : ∀ t zs, w = .ref t → H t = some (.tup zs) → ∀ z ∈ zs, Thing H z)
    (bad : ∀ (H' : Hp) ys ps', Same H H' → PairsAt H' ys ps' → Good ps' → ys[k]? = some w → (∀ i, i ≠ k → ys[i]? = xs[i]?) → False)
    (q : ∀ p ys H', Same H H' → H' p = some (.lst ys) → Deep2 H' (.ref p) → (∀ ps', PairsAt H' ys ps' → Good ps' → False) → H p = none → D.rt (.ref p) H') :
    tb_end D [some (.ref pl), some (.int c), some (.ref pn), some (.int (k : Int)), some nm, some ab, some wy, some w] H := by
  have hs := sz
  have g2 := g.many
  have lx := pa.1
  refine slL_i hl (new_i fun p1 G1 n1 s1 t1 => ⟨few rfl, new_i fun p2 G2 n2 s2 t2 => addL_i (s2 _ _ t1) t2 ?_ (new_i fun p3 G3 n3 s3 t3 => slL_i ((((s1.trans s2).trans s3)) _ _ hl) (new_i fun p4 G4 n4 s4 t4 => addL_i (s4 _ _ t3) t4 ?_ (new_i fun p5 G5 n5 s5 t5 => ?_)))⟩)
  · have := cutV_length xs none (some (k : Int))
    simp
    omega
  · have h1 := cutV_length xs none (some (k : Int))
    have h2 := cutV_length xs (some ((k : Int) + 1)) none
    simp
    omega
  have S : Same H G5 := (((s1.trans s2).trans s3).trans s4).trans s5
  have e1 : ((k : Int) + 1) = ((k + 1 : Nat) : Int) := by omega
  rw [cut_pre xs (by omega), e1, cut_suf xs (by omega)] at t5
  obtain ⟨x1, x2⟩ := exch_at (xs := xs) (k := k) (w := w) (by omega)
  have ts : ∀ {t zs}, G5 t = some (.tup zs) → (∃ o, H t = some o) → H t = some (.tup zs) := fun {t zs} e ⟨o, eo⟩ => by
    rw [S _ _ eo] at e
    rw [eo, e]
  refine q p5 _ G5 S t5 ⟨.lst t5, fun p ys ep hy y hm => ?_⟩ (fun ps' pa' g' => bad G5 _ ps' S pa' g' x1 x2) (free (((s1.trans s2).trans s3).trans s4) n5)
  cases ep
  rw [t5] at hy
  cases hy
  obtain ⟨i, hi⟩ := List.mem_iff_getElem?.mp hm
  by_cases e : i = k
  · subst e
    rw [x1] at hi
    cases hi
    refine ⟨tw.same S, fun t zs e1 e2 z hz => (tz t zs e1 (ts e2 ?_) z hz).same S⟩
    subst e1
    cases tw with
    | lst e => exact ⟨_, e⟩
    | tup e => exact ⟨_, e⟩
    | dK e => exact ⟨_, e⟩
  · rw [x2 i e] at hi
    obtain ⟨r, t, hr, rfl, ht⟩ := pa.at hi
    have ht5 := S _ _ ht
    refine ⟨.tup ht5, fun t' zs e1 e2 z hz => ?_⟩
    cases e1
    rw [ht5] at e2
    cases e2
    simp only [List.mem_cons, List.not_mem_nil, or_false] at hz
    rcases hz with rfl | rfl
    · exact .str (by have := (nameB_at (g.nms.1 _ (List.mem_of_getElem? (good_fst hr)))).2.1; omega)
    · exact .str (by have := g.len2 hr; omega)
/-- the others are as they were -/
theorem exch_ps {H H' : Hp} {xs ys : List V} {ps ps' : List (Str × Str)} {k : Nat} (pa : PairsAt H xs ps) (s : Same H H') (pa' : PairsAt H' ys ps') (he : ∀ i, i ≠ k → ys[i]? = xs[i]?) {i : Nat} {r : Str × Str} (hi : i ≠ k) (hr : ps[i]? = some r) : ps'[i]? = some r := by
  obtain ⟨t, e1, e2⟩ := pa.2 i r hr
  have e3 := he i hi
  rw [e1] at e3
  obtain ⟨r', t', h1, h2, h3⟩ := pa'.at e3
  cases h2
  rw [s _ _ e2] at h3
  injection h3 with h3
  injection h3 with h3
  injection h3 with a b
  injection a with a
  injection b with b _
  injection b with b
  rw [h1]
  exact congrArg some (Prod.ext a b).symm
theorem at_pair {H' : Hp} {ys : List V} {ps' : List (Str × Str)} {k : Nat} {t : Addr} {o : HO} (pa' : PairsAt H' ys ps') (hk : ys[k]? = some (.ref t)) (ht : H' t = some o) : ∃ r, ps'[k]? = some r ∧ o = .tup [.str r.1, .str r.2] := by
  obtain ⟨r', t', h1, h2, h3⟩ := pa'.at hk
  cases h2
  rw [ht] at h3
  cases h3
  exact ⟨r', h1, rfl⟩
theorem tup_two {a b : V} {r : Str × Str} (h : HO.tup [a, b] = .tup [.str r.1, .str r.2]) : a = .str r.1 ∧ b = .str r.2 := by
  injection h with h
  injection h with h1 h2
  injection h2 with h2 _
  exact ⟨h1, h2⟩
theorem tup_one {a : V} {r : Str × Str} (h : HO.tup [a] = .tup [.str r.1, .str r.2]) : False := by
  injection h with h
  have := congrArg List.length h
  cases this
theorem tup_three {a b c : V} {r : Str × Str} (h : HO.tup [a, b, c] = .tup [.str r.1, .str r.2]) : False := by
  injection h with h
  have := congrArg List.length h
  cases this
/-- no name is told twice -/
theorem twice {ps' : List (Str × Str)} (g' : Good ps') {i j : Nat} {r r' : Str × Str} (hi : ps'[i]? = some r) (hj : ps'[j]? = some r') (hne : i ≠ j) (e : r.1 = r'.1) : False := by
  have nd := g'.nms.2
  have a := good_fst hi
  have b := good_fst hj
  rw [← e] at b
  obtain ⟨ia, ea⟩ := List.getElem?_eq_some_iff.mp a
  obtain ⟨ib, eb⟩ := List.getElem?_eq_some_iff.mp b
  exact hne ((List.getElem_inj nd).mp (ea.trans eb.symm))
theorem Bz.no {z : Str} (h : Bz z) {c : Nat} (hc : c < 98) : c ∉ z.cps.toList := fun m => by
  have := (h c m).1
  omega
/-- an above that none has -/
def noAb (H : Hp) (x : V) : Prop := Thing H x ∧ ∀ z, x = .str z → z ≠ "all" ∧ (Bz z → z = "")
theorem abs_at {H : Hp} {p q d : Addr} {xs ys : List V} (hp : H p = some (.lst xs)) (hq : H q = some (.tup ys)) (hd : H d = some (.dK [])) {i : Nat} (hi : i < 10) : ∃ x, ([.str "a", .str "", .str "All", .non, .int 5, .bl true, .ref p, .ref q, .ref d, .str "al"] : List V)[i]? = some x ∧ noAb H x := by
  have s : ∀ y : Str, y.length ≤ 1000 → y ≠ "all" → (∃ c ∈ y.cps.toList, c < 98) → noAb H (.str y) := fun y l n ⟨c, hm, hc⟩ => ⟨.str l, fun w e => by
    cases e
    exact ⟨n, fun b => absurd hm (Bz.no b hc)⟩⟩
  match i, hi with
  | 0, _ => exact ⟨_, rfl, s _ (by decide) (by decide +kernel) ⟨97, by decide +kernel, by decide⟩⟩
  | 1, _ => exact ⟨_, rfl, .str (by decide), fun w e => by cases e; exact ⟨by decide +kernel, fun _ => rfl⟩⟩
  | 2, _ => exact ⟨_, rfl, s _ (by decide) (by decide +kernel) ⟨65, by decide +kernel, by decide⟩⟩
  | 3, _ => exact ⟨_, rfl, .non, fun w e => nomatch e⟩
  | 4, _ => exact ⟨_, rfl, .int _, fun w e => nomatch e⟩
  | 5, _ => exact ⟨_, rfl, .bl _, fun w e => nomatch e⟩
  | 6, _ => exact ⟨_, rfl, .lst hp, fun w e => nomatch e⟩
  | 7, _ => exact ⟨_, rfl, .tup hq, fun w e => nomatch e⟩
  | 8, _ => exact ⟨_, rfl, .dK hd, fun w e => nomatch e⟩
  | 9, _ => exact ⟨_, rfl, s _ (by decide) (by decide +kernel) ⟨97, by decide +kernel, by decide⟩⟩
theorem names_of {ps : List (Str × Str)} {i : Nat} {r : Str × Str} (h : ps[i]? = some r) : (namesOf ps)[i]? = some r.1 := good_fst h
theorem mem_take_fst {ps : List (Str × Str)} {z : Str} {k : Nat} (h : z ∈ (ps.take k).map (·.1)) : ∃ (i : Nat) (r : Str × Str), i < k ∧ ps[i]? = some r ∧ r.1 = z := by
  obtain ⟨r, hr, e⟩ := List.mem_map.mp h
  obtain ⟨i, hi⟩ := List.mem_iff_getElem?.mp hr
  have hlt : i < k := by
    have := (List.getElem?_eq_some_iff.mp hi).1
    rw [List.length_take] at this
    omega
  rw [List.getElem?_take_of_lt hlt] at hi
  exact ⟨i, r, hlt, hi, e⟩
theorem r_tb_rest {pl pn : Addr} {c : Int} {k : Nat} {r : Str × Str} {xs : List V} {ps : List (Str × Str)} {H : Hp} {D : Ends} (hl : H pl = some (.lst xs)) (pa : PairsAt H xs ps) (g : Good ps) (hB : ∀ r ∈ ps, Bz r.1) (hr : ps[k]? = some r) (hn : H pn = some (.lst (sts (namesOf ps))))
    (q : ∀ p ys H', Same H H' → H' p = some (.lst ys) → Deep2 H' (.ref p) → (∀ ps', PairsAt H' ys ps' → Good ps' → False) → H p = none → D.rt (.ref p) H') :
    tb_rest D [some (.ref pl), some (.int c), some (.ref pn), some (.int (k : Int)), some (.str r.1), some (.str r.2), none, none] H := by
  have hs := sz
  have g2 := g.many
  have hk : k < ps.length := (List.getElem?_eq_some_iff.mp hr).1
  have ln : (namesOf ps).length = ps.length := List.length_map ..
  have n1 : nameB r.1 = true := g.nms.1 _ (List.mem_of_getElem? (good_fst hr))
  have l1 : r.1.length ≤ 1000 := by have := (nameB_at n1).2.1; omega
  have l2 : r.2.length ≤ 1000 := by have := g.len2 hr; omega
  have fin : ∀ (w wy : V) (G : Hp), Same H G → Thing G w → (∀ t zs, w = .ref t → G t = some (.tup zs) → ∀ z ∈ zs, Thing G z) →
      (∀ (H' : Hp) ys ps', Same G H' → PairsAt H' ys ps' → Good ps' → ys[k]? = some w → (∀ i, i ≠ k → ∀ r0, ps[i]? = some r0 → ps'[i]? = some r0) → False) →
      tb_end D [some (.ref pl), some (.int c), some (.ref pn), some (.int (k : Int)), some (.str r.1), some (.str r.2), some wy, some w] G := fun w wy G sm tw tz bad =>
    r_tb_end (sm _ _ hl) (pa.same sm) g hk tw tz (fun H' ys ps' s' pa' g' h1 h2 => bad H' ys ps' s' pa' g' h1 fun i hi r0 h0 => exch_ps (pa.same sm) s' pa' h2 hi h0) fun p ys H' s' a b c f => q p ys H' (sm.trans s') a b c (free sm f)
  -- a pair of a name and something
  have pair : ∀ (x y : V) (wy : V) (t : Addr) (G : Hp), Same H G → G t = some (.tup [x, y]) → Thing G x → Thing G y →
      (∀ ps' (r' : Str × Str), Good ps' → ps'[k]? = some r' → x = .str r'.1 → y = .str r'.2 → (∀ i, i ≠ k → ∀ r0, ps[i]? = some r0 → ps'[i]? = some r0) → False) →
      tb_end D [some (.ref pl), some (.int c), some (.ref pn), some (.int (k : Int)), some (.str r.1), some (.str r.2), some wy, some (.ref t)] G := fun x y wy t G sm ht tx ty bad =>
    fin (.ref t) wy G sm (.tup ht) (fun t' zs e1 e2 z hz => by
      cases e1
      rw [ht] at e2
      cases e2
      simp only [List.mem_cons, List.not_mem_nil, or_false] at hz
      rcases hz with rfl | rfl
      · exact tx
      · exact ty) fun H' ys ps' s' pa' g' h1 h2 => by
      obtain ⟨r', h3, h4⟩ := at_pair pa' h1 (s' _ _ ht)
      obtain ⟨h5, h6⟩ := tup_two h4
      exact bad ps' r' g' h3 h5 h6 h2
  obtain ⟨j, hj, hjl⟩ := mod_nat c (n := 11) (by decide)
  have hj : c % 11 = (j : Int) := hj
  refine ⟨by decide, ?_⟩
  rw [hj]
  refine br_dec (fun h3 => ?_) (fun h3 => br_of (fun h4 => ?_) (fun h4 => br_of (fun h5 => ?_) (fun h5 => br_dec (fun h7 => ?_) (fun h7 => ?_))))
  · refine ⟨few rfl, new_i fun p1 G1 m1 s1 t1 => ⟨few rfl, new_i fun p2 G2 m2 s2 t2 => ⟨few rfl, new_i fun p3 G3 m3 s3 t3 => ⟨few rfl, new_i fun p4 G4 m4 s4 t4 => ?_⟩⟩⟩⟩
    have s14 := (s2.trans s3).trans s4
    have S4 := s1.trans s14
    have hj3 : j < 3 := by omega
    match j, hj3 with
    | 0, _ =>
      refine getL_i t4 (v := .ref p1) rfl (fin (.ref p1) _ G4 S4 (.lst (s14 _ _ t1)) (fun t zs e1 e2 => by cases e1; rw [s14 _ _ t1] at e2; cases e2) fun H' ys ps' s' pa' g' h1 _ => ?_)
      obtain ⟨r', _, h4⟩ := at_pair pa' h1 (s' _ _ (s14 _ _ t1))
      cases h4
    | 1, _ =>
      refine getL_i t4 (v := .ref p2) rfl (fin (.ref p2) _ G4 S4 (.tup ((s3.trans s4) _ _ t2)) (fun t zs e1 e2 z hz => ?_) fun H' ys ps' s' pa' g' h1 _ => ?_)
      · cases e1
        rw [(s3.trans s4) _ _ t2] at e2
        cases e2
        rw [List.mem_singleton.mp hz]
        exact .str l1
      · obtain ⟨r', _, h4⟩ := at_pair pa' h1 (s' _ _ ((s3.trans s4) _ _ t2))
        exact tup_one h4
    | 2, _ =>
      refine getL_i t4 (v := .ref p3) rfl (fin (.ref p3) _ G4 S4 (.tup (s4 _ _ t3)) (fun t zs e1 e2 z hz => ?_) fun H' ys ps' s' pa' g' h1 _ => ?_)
      · cases e1
        rw [s4 _ _ t3] at e2
        cases e2
        simp only [List.mem_cons, List.not_mem_nil, or_false] at hz
        rcases hz with rfl | rfl | rfl
        · exact .str l1
        · exact .str l2
        · exact .str l2
      · obtain ⟨r', _, h4⟩ := at_pair pa' h1 (s' _ _ (s4 _ _ t3))
        exact tup_three h4
  · refine ⟨few rfl, new_i fun t G1 m1 s1 t1 => pair _ _ _ t G1 s1 t1 (.str l1) (.str l1) fun ps' r' g' h1 e1 e2 _ => ?_⟩
    injection e1 with e1
    injection e2 with e2
    rcases g'.abv k r' h1 with e | m
    · rw [← e2] at e
      exact (nameB_at n1).2.2 e
    · rw [← e2, e1, List.map_take] at m
      exact nd_take g'.nms.2 (good_fst h1) m
  · refine ⟨⟨by decide, by decide⟩, lenL_i hn ?_⟩
    have lN : ((sts (namesOf ps)).length : Int) = ps.length := by rw [sts, List.length_map, ln]
    obtain ⟨m, hm, hml⟩ := mod_nat (c / 300) (n := ps.length - k) (by omega)
    have hm' : c / 300 % (((sts (namesOf ps)).length : Int) - (k : Int)) = m := by
      rw [lN, show ((ps.length : Int) - (k : Int)) = ((ps.length - k : Nat) : Int) by omega]
      exact hm
    have hkm : k + m < ps.length := by omega
    obtain ⟨rm, hrm⟩ : ∃ rm, ps[k + m]? = some rm := ⟨ps[k + m], by simp [hkm]⟩
    have nm := g.nms.1 _ (List.mem_of_getElem? (good_fst hrm))
    refine ⟨by rw [lN]; omega, getL_i hn (v := .str rm.1) ?_ ⟨few rfl, new_i fun t G1 m1 s1 t1 => pair _ _ _ t G1 s1 t1 (.str l1) (.str (by have := (nameB_at nm).2.1; omega)) fun ps' r' g' h1 e1 e2 he => ?_⟩⟩
    · rw [hm', show (k : Int) + (m : Int) = ((k + m : Nat) : Int) by omega]
      exact atS (names_of hrm)
    · injection e2 with e2
      rcases g'.abv k r' h1 with e | mm
      · rw [← e2] at e
        exact (nameB_at nm).2.2 e
      · rw [← e2] at mm
        obtain ⟨i, r0, hi, h0, e0⟩ := mem_take_fst mm
        obtain ⟨ri, hri⟩ : ∃ ri, ps[i]? = some ri := ⟨ps[i]'(by omega), by simp⟩
        have := he i (by omega) ri hri
        rw [h0] at this
        cases this
        exact twice g hri hrm (by omega) e0
  · refine ⟨few rfl, new_i fun p1 G1 m1 s1 t1 => ⟨few rfl, new_i fun p2 G2 m2 s2 t2 => .inl (new_i fun p3 G3 m3 s3 t3 => ⟨few rfl, new_i fun p4 G4 m4 s4 t4 => ⟨⟨by decide, by decide⟩, by decide, ?_⟩⟩)⟩⟩
    obtain ⟨i, hi, hil⟩ := mod_nat (c / 300) (n := 10) (by decide)
    have hi : c / 300 % 10 = (i : Int) := hi
    have s14 := (s2.trans s3).trans s4
    obtain ⟨x, hx, tx, ax⟩ := abs_at (s14 _ _ t1) ((s3.trans s4) _ _ t2) (s4 _ _ t3) hil
    rw [hi]
    refine getL_i t4 (v := x) (atI_nat hx) ⟨few rfl, new_i fun t G5 m5 s5 t5 => pair _ _ _ t G5 ((s1.trans s14).trans s5) t5 (.str l1) (tx.same s5) fun ps' r' g' h1 e1 e2 he => ?_⟩
    obtain ⟨na, nb⟩ := ax r'.2 e2
    rcases g'.abv k r' h1 with e | mm
    · exact na e
    · obtain ⟨i0, r0, hi0, h0, e0⟩ := mem_take_fst mm
      obtain ⟨ri, hri⟩ : ∃ ri, ps[i0]? = some ri := ⟨ps[i0]'(by omega), by simp⟩
      have := he i0 (by omega) ri hri
      rw [h0] at this
      cases this
      have hb := hB _ (List.mem_of_getElem? hri)
      rw [e0] at hb
      have hz := nb hb
      have hnn := g.nms.1 _ (List.mem_of_getElem? (good_fst hri))
      rw [e0, hz] at hnn
      exact absurd hnn (by decide +kernel)
  · refine ⟨⟨by decide, by decide⟩, slL_i hn (new_i fun p1 G1 m1 s1 t1 => slL_i (s1 _ _ hn) (new_i fun p2 G2 m2 s2 t2 => addL_i (s2 _ _ t1) t2 ?_ (new_i fun p3 G3 m3 s3 t3 => ⟨few rfl, new_i fun p4 G4 m4 s4 t4 => addL_i (s4 _ _ t3) t4 ?_ (new_i fun p5 G5 m5 s5 t5 => ?_)⟩)))⟩
    · have h1 := cutV_length (sts (namesOf ps)) none (some (k : Int))
      have h2 := cutV_length (sts (namesOf ps)) (some ((k : Int) + 1)) none
      have lz : (sts (namesOf ps)).length = ps.length := by rw [sts, List.length_map, ln]
      omega
    · have h1 := cutV_length (sts (namesOf ps)) none (some (k : Int))
      have h2 := cutV_length (sts (namesOf ps)) (some ((k : Int) + 1)) none
      have lz : (sts (namesOf ps)).length = ps.length := by rw [sts, List.length_map, ln]
      rw [List.length_append]
      show _ + _ + 1 ≤ _
      omega
    have e1 : ((k : Int) + 1) = ((k + 1 : Nat) : Int) := by omega
    have lz : (sts (namesOf ps)).length = ps.length := by rw [sts, List.length_map, ln]
    rw [cut_pre _ (by omega), e1, cut_suf _ (by omega)] at t5
    have e5 : (sts (namesOf ps)).take k ++ (sts (namesOf ps)).drop (k + 1) ++ [V.str "all"] = sts ((namesOf ps).take k ++ (namesOf ps).drop (k + 1) ++ [("all" : Str)]) := by simp [sts]
    rw [e5] at t5
    have S5 := (((s1.trans s2).trans s3).trans s4).trans s5
    have mem : ∀ z ∈ ((namesOf ps).take k ++ (namesOf ps).drop (k + 1) ++ [("all" : Str)]), z = "all" ∨ ∃ (i : Nat) (r0 : Str × Str), i ≠ k ∧ ps[i]? = some r0 ∧ r0.1 = z := fun z hz => by
      rcases List.mem_append.mp hz with hz | hz
      · rcases List.mem_append.mp hz with hz | hz
        · have hz : z ∈ (ps.take k).map (·.1) := by rw [List.map_take]; exact hz
          obtain ⟨i, r0, h1, h2, h3⟩ := mem_take_fst hz
          exact .inr ⟨i, r0, by omega, h2, h3⟩
        · obtain ⟨i, hi⟩ := List.mem_iff_getElem?.mp hz
          rw [List.getElem?_drop] at hi
          unfold namesOf at hi
          rw [List.getElem?_map] at hi
          cases e : ps[k + 1 + i]? with
          | none => rw [e] at hi; cases hi
          | some r0 => rw [e] at hi; cases hi; exact .inr ⟨k + 1 + i, r0, by omega, e, rfl⟩
      · exact .inl (List.mem_singleton.mp hz)
    refine ⟨_, p5, _, rfl, t5, by simp; omega, by simp; omega, fun z hz => ?_, fun x G6 s6 bx => ⟨few rfl, new_i fun t G7 m7 s7 t7 => pair _ _ _ t G7 ((S5.trans s6).trans s7) t7 (bx.1.same s7) (.str l2) fun ps' r' g' h1 e1 e2 he => ?_⟩⟩
    · rcases mem z hz with rfl | ⟨i, r0, _, h2, rfl⟩
      · decide
      · have := (nameB_at (g.nms.1 _ (List.mem_of_getElem? (good_fst h2)))).2.1
        omega
    · have hn' := g'.nms.1 _ (List.mem_of_getElem? (good_fst h1))
      rcases bx.2 r'.1 e1 with hb | hb
      · rw [hn'] at hb
        cases hb
      · rcases mem _ hb with hb | ⟨i, r0, hi, h2, h3⟩
        · exact (nameB_at hn').2.2 hb
        · exact twice g' (he i hi r0 h2) h1 hi h3
theorem r_bad_part {pl : Addr} {c : Int} {xs : List V} {ps : List (Str × Str)} {H : Hp} {D : Ends} (hl : H pl = some (.lst xs)) (pa : PairsAt H xs ps) (g : Good ps) (hB : ∀ r ∈ ps, Bz r.1)
    (q : ∀ p ys H', Same H H' → H' p = some (.lst ys) → Deep2 H' (.ref p) → (∀ ps', PairsAt H' ys ps' → Good ps' → False) → H p = none → D.rt (.ref p) H') : t_bad_part D [some (.ref pl), some (.int c), none, none, none, none, none, none] H := by
  have hs := sz
  have g1 := g.one
  have g2 := g.many
  refine comp_i (iterL_i hl (comp_l (fstOf H) hl (by rw [pa.1]; omega) ?_ ?_))
  · intro i z hz G k sm hk
    obtain ⟨r, t, hr, rfl, ht⟩ := pa.at hz
    rw [fst_at ht] at hk
    exact ⟨t, _, rfl, .inl (sm _ _ ht), rfl, _, _, rfl, _, _, rfl, rfl, br_t rfl hk⟩
  intro pn G1 n1 s1 t1
  rw [pa.fsts] at t1
  obtain ⟨k, hk, hkl⟩ := mod_nat (c / 11) (n := xs.length) (by rw [pa.1]; omega)
  refine ⟨⟨by decide, by decide⟩, lenL_i (s1 _ _ hl) ⟨by rw [pa.1]; omega, ?_⟩⟩
  rw [hk]
  obtain ⟨r, hr⟩ : ∃ r, ps[k]? = some r := ⟨ps[k]'(by rw [← pa.1]; exact hkl), by simp⟩
  obtain ⟨t, e1, e2⟩ := pa.2 k r hr
  refine getL_i (s1 _ _ hl) (atI_nat e1) ⟨t, _, rfl, .inl (s1 _ _ e2), rfl, _, _, rfl, _, _, rfl, rfl, ?_⟩
  exact r_tb_rest (s1 _ _ hl) (pa.same s1) g hB hr t1 fun p ys H' s' a b c f => q p ys H' (s1.trans s') a b c (free s1 f)
end
end R
end Tv

set_option Elab.async false
set_option linter.all false
set_option maxRecDepth 100000
set_option maxHeartbeats 4000000
namespace Tv
open PySem PySem.Spec PyProof.Rows L2
namespace R
section
variable {K : PySem.W.Frag} {cl NH VE NT NX NP : Addr}
theorem mulL_i {l : Addr} {xs : List V} {k : Int} {H : Hp} {Q : VK} (h : H l = some (.lst xs)) (hk : 0 ≤ k ∧ k < 1000) (hz : xs.length * k.toNat ≤ sizeLine) (q : newO H (.lst (List.replicate k.toNat xs).flatten) Q) : mulG (.ref l) (.int k) H Q := by
  unfold mulG
  simp only [h]
  exact ⟨⟨by omega, by omega, hz⟩, q⟩
theorem tCons_i {a : TE} {r : TA} {σ : St} {H : Hp} {Q : List V → Hp → Prop} (h : a σ H fun v H1 => r σ H1 fun vs H2 => Q (v :: vs) H2) : tCons a r σ H Q := h
theorem tC_i {x : V} {σ : St} {H : Hp} {Q : VK} (h : Q x H) : tC x σ H Q := h
/-- a comprehension over a range -/
theorem comp_rng {n : Nat} {tn : List Str} {fr : List (Str × Nat)} {g : TG} {tt : TT} {te : TE} {σ : St} {H : Hp} {Q : VK} (f : V → Option V) (hz : n < sizeLine)
    (turn : ∀ (i : Nat), i < n → ∀ (G : Hp) (k : Option V → Hp → Prop), Same H G → k (f (.int i)) G → g (.int i) (inn tn fr σ) G fun σ2 G2 => tt σ2 G2 fun b G3 => br b (te σ2 G3 fun y G4 => k (some y) G4) (k none G3))
    (fin : ∀ p G, H p = none → Same H G → G p = some (.lst (((List.range n).map fun i => V.int (i : Nat)).filterMap f)) → Q (.ref p) G) : compJ (Itr 0 n) tn fr g tt te σ H Q := by
  refine comp_of (xs := (List.range n).map fun i => V.int (i : Nat)) f (by simpa using hz) (fun G sm => ?_) (fun i x hx G k sm q => ?_) fin
  · rw [List.length_map, List.length_range]
    refine ⟨fun i hi => hi, Nat.le_refl _, ?_⟩
    rintro i x G' hi ⟨rfl, rfl⟩
    refine ⟨rfl, ?_⟩
    rw [List.getElem?_map, List.getElem?_range hi]
    simp
  · rw [List.getElem?_map] at hx
    cases e : (List.range n)[i]? with
    | none => rw [e] at hx; cases hx
    | some j =>
      rw [e] at hx
      cases hx
      obtain ⟨h1, h2⟩ := List.getElem?_eq_some_iff.mp e
      rw [List.getElem_range] at h2
      subst h2
      exact turn i (by simpa using h1) G k sm q
/-! what is no list of columns, and what is no list of parts -/
def BadC (H : Hp) (x : V) : Prop := Deep1 H x ∧ ∀ cs, ¬ ColsOK H x cs
def BadP (H : Hp) (x : V) : Prop := Deep2 H x ∧ ∀ ps, ¬ PartsOK H x ps
theorem badC_l {H : Hp} {p : Addr} {ys : List V} (h : H p = some (.lst ys)) (th : ∀ y ∈ ys, Thing H y) (no : ∀ cs : List Str, ys = sts cs → Nms cs → 1 ≤ cs.length → cs.length ≤ 8 → False) : BadC H (.ref p) := by
  refine ⟨⟨.lst h, fun p' xs e h2 y hy => ?_⟩, fun cs ⟨p', e, h2, nm, l1, l8⟩ => ?_⟩
  · cases e
    rw [h] at h2
    cases h2
    exact th y hy
  · cases e
    rw [h] at h2
    injection h2 with h2
    injection h2 with h2
    exact no cs h2 nm l1 l8
theorem badP_l {H : Hp} {p : Addr} {ys : List V} (h : H p = some (.lst ys)) (th : ∀ y ∈ ys, Thing H y ∧ ∀ t zs, y = .ref t → H t = some (.tup zs) → ∀ z ∈ zs, Thing H z) (no : ∀ ps, PairsAt H ys ps → Good ps → False) : BadP H (.ref p) := by
  refine ⟨⟨.lst h, fun p' xs e h2 y hy => ?_⟩, fun ps ⟨p', xs, e, h2, pa, g⟩ => ?_⟩
  · cases e
    rw [h] at h2
    cases h2
    exact th y hy
  · cases e
    rw [h] at h2
    cases h2
    exact no ps pa g
theorem badC_n {H : Hp} {x : V} (th : Thing H x) (no : ∀ p xs, x = .ref p → H p = some (.lst xs) → False) : BadC H x :=
  ⟨⟨th, fun p xs e h => (no p xs e h).elim⟩, fun cs ⟨p, e, h, _⟩ => no p _ e h⟩
theorem badP_n {H : Hp} {x : V} (th : Thing H x) (no : ∀ p xs, x = .ref p → H p = some (.lst xs) → False) : BadP H x :=
  ⟨⟨th, fun p xs e h => (no p xs e h).elim⟩, fun cs ⟨p, xs, e, h, _⟩ => no p xs e h⟩
theorem no_tup {H : Hp} {p : Addr} {ys : List V} (h : H p = some (.tup ys)) : ∀ p' xs, (V.ref p) = .ref p' → H p' = some (.lst xs) → False := fun p' xs e h2 => by
  cases e
  rw [h] at h2
  cases h2
theorem no_dK {H : Hp} {p : Addr} {ys : List (Key × V)} (h : H p = some (.dK ys)) : ∀ p' xs, (V.ref p) = .ref p' → H p' = some (.lst xs) → False := fun p' xs e h2 => by
  cases e
  rw [h] at h2
  cases h2
theorem thing_sts {H : Hp} {cs : List Str} (h : ∀ z ∈ cs, nameB z = true) : ∀ y ∈ sts cs, Thing H y := fun y hy => by
  obtain ⟨z, hz, rfl⟩ := List.mem_map.mp hy
  exact .str (by have := (nameB_at (h z hz)).2.1; omega)
/-! _law_bad_columns -/
def sp_bad_columns : Sp := fun vs H Q _ => ∃ (l : Addr) (c : Int) (cs : List Str), vs = [.ref l, .int c] ∧ H l = some (.lst (sts cs)) ∧ Nms cs ∧ 1 ≤ cs.length ∧ cs.length ≤ 8 ∧ ∀ x H', Same H H' → BadC H' x → Q x H'
def t_bad_columns : TS :=
  (tSeq (tAsg (tOp modG (tOp fdivG (gv 1) (tC (.int 13))) (tCB lenG (tCons (gv 0) tNil))) (gName 2))
  (tSeq (tAsg (tOp modG (gv 1) (tC (.int 5))) (gName 3))
  (tSeq (sIf (bT (tOp eqG (gv 3) (tC (.int 0))))
    (tRet (tOp getG (tLstG (tCons (tCB tupleG (tCons (gv 0) tNil)) (tCons (tC .non) (tCons (tC (.str "b")) (tCons (tDisp [((tC (.str "b")), (tC (.str "c")))]) (tCons (tC (.int 5)) (tCons (tLstG tNil) (tCons (tLstG (tCons (gv 0) tNil)) tNil)))))))) (tOp modG (tOp fdivG (gv 1) (tC (.int 70))) (tC (.int 7)))))
    tNext)
  (tSeq (sIf (bT (tOp eqG (gv 3) (tC (.int 1))))
    (tRet (tOp addG (gv 0) (tSl slG (tCompI (iRngG (tCons (tC (.int 8)) tNil)) ["_law_k"] [] (gName 0) tYes (tOp mulG (tC (.str "a")) (tOp addG (gv 0) (tC (.int 1))))) tNoPart (partG (tOp subG (tC (.int 9)) (tCB lenG (tCons (gv 0) tNil)))))))
    tNext)
  (tSeq (sIf (bT (tOp eqG (gv 3) (tC (.int 2))))
    (tRet (tOp addG (tOp addG (tSl slG (gv 0) tNoPart (partG (gv 2))) (tLstG (tCons (tOp getG (gv 0) (gv 2)) (tCons (tOp getG (gv 0) (gv 2)) tNil)))) (tSl slG (gv 0) (partG (tOp addG (gv 2) (tC (.int 1)))) tNoPart)))
    tNext)
  (tRet (tOp addG (tOp addG (tSl slG (gv 0) tNoPart (partG (gv 2))) (tOp mulG (tLstG (tCons (tCall sp_bad_name [] E0 (tCons (tOp fdivG (gv 1) (tC (.int 70))) (tCons (tOp addG (gv 0) (tLstG (tCons (tC (.str "all")) tNil))) tNil))) tNil)) (tOp addG (tC (.int 1)) (tOp fdivG (gv 3) (tC (.int 4)))))) (tSl slG (gv 0) (partG (gv 2)) tNoPart))))))))
def seven (a d e f : Addr) : List V := [.ref a, .non, .str "b", .ref d, .int 5, .ref e, .ref f]
theorem seven_at {P : V → Prop} {a d e f : Addr} (h0 : P (.ref a)) (h1 : P .non) (h2 : P (.str "b")) (h3 : P (.ref d)) (h4 : P (.int 5)) (h5 : P (.ref e)) (h6 : P (.ref f)) {i : Nat} (hi : i < 7) : ∃ x, (seven a d e f)[i]? = some x ∧ P x := by
  match i, hi with
  | 0, _ => exact ⟨_, rfl, h0⟩
  | 1, _ => exact ⟨_, rfl, h1⟩
  | 2, _ => exact ⟨_, rfl, h2⟩
  | 3, _ => exact ⟨_, rfl, h3⟩
  | 4, _ => exact ⟨_, rfl, h4⟩
  | 5, _ => exact ⟨_, rfl, h5⟩
  | 6, _ => exact ⟨_, rfl, h6⟩
theorem sts_eq : ∀ {xs ys : List Str}, sts xs = sts ys → xs = ys
  | [], [], _ => rfl
  | [], _ :: _, h => nomatch h
  | _ :: _, [], h => nomatch h
  | x :: xs, y :: ys, h => by
    rw [sts, sts, List.map_cons, List.map_cons] at h
    injection h with h1 h2
    injection h1 with h1
    rw [h1, sts_eq h2]
theorem mem_rep {n : Nat} {x y : V} (h : y ∈ (List.replicate n [x]).flatten) : y = x := by
  obtain ⟨l, h1, h2⟩ := List.mem_flatten.mp h
  rw [List.eq_of_mem_replicate h1] at h2
  exact List.mem_singleton.mp h2
theorem rep_mem {n : Nat} {x : V} (h : 0 < n) : x ∈ (List.replicate n [x]).flatten := List.mem_flatten.mpr ⟨[x], List.mem_replicate.mpr ⟨by omega, rfl⟩, List.mem_singleton.mpr rfl⟩
theorem r_bad_columns {l : Addr} {c : Int} {cs : List Str} {H : Hp} {D : Ends} (hl : H l = some (.lst (sts cs))) (nm : Nms cs) (l1 : 1 ≤ cs.length) (l8 : cs.length ≤ 8) (q : ∀ x H', Same H H' → BadC H' x → D.rt x H') : t_bad_columns D [some (.ref l), some (.int c), none, none] H := by
  have hs := sz
  have ln : (sts cs).length = cs.length := List.length_map ..
  obtain ⟨k, hk, hkl⟩ := mod_nat (c / 13) (n := (sts cs).length) (by omega)
  refine ⟨⟨by decide, by decide⟩, lenL_i hl ⟨by omega, ⟨by decide, ?_⟩⟩⟩
  rw [hk]
  obtain ⟨j, hj, hjl⟩ := mod_nat c (n := 5) (by decide)
  have hj : c % 5 = (j : Int) := hj
  rw [hj]
  obtain ⟨ck, hck⟩ : ∃ ck, cs[k]? = some ck := ⟨cs[k]'(by omega), by simp⟩
  have thc : ∀ G, ∀ y ∈ sts cs, Thing G y := fun G => thing_sts nm.1
  refine br_of (fun h0 => ?_) (fun h0 => br_of (fun h1 => ?_) (fun h1 => br_of (fun h2 => ?_) (fun h2 => ?_)))
  · refine tupleL_i hl (new_i fun p1 G1 n1 s1 t1 => ?_)
    refine tCons_i (tC_i (tCons_i (tC_i (tCons_i (disp_i (tk := tC (.str "b")) (tv := tC (.str "c")) (x := .str "b") (v := .str "c") (k := .inr "b") (fun G R h => h) (fun G R h => h) rfl fun p2 G2 n2 s2 t2 => ?_)))))
    refine ⟨few rfl, new_i fun p3 G3 n3 s3 t3 => ⟨few rfl, new_i fun p4 G4 n4 s4 t4 => ⟨few rfl, new_i fun p5 G5 n5 s5 t5 => ⟨⟨by decide, by decide⟩, by decide, ?_⟩⟩⟩⟩
    obtain ⟨i, hi, hil⟩ := mod_nat (c / 70) (n := 7) (by decide)
    have hi : c / 70 % 7 = (i : Int) := hi
    rw [hi]
    have u1 := (((s2.trans s3).trans s4).trans s5) _ _ t1
    have u2 := ((s3.trans s4).trans s5) _ _ t2
    have u3 := (s4.trans s5) _ _ t3
    have u4 := s5 _ _ t4
    have S := (((s1.trans s2).trans s3).trans s4).trans s5
    obtain ⟨x, hx, bx⟩ := seven_at (P := BadC G5) (a := p1) (d := p2) (e := p3) (f := p4) (badC_n (.tup u1) (no_tup u1)) (badC_n .non (fun _ _ e => nomatch e)) (badC_n (.str (by decide)) (fun _ _ e => nomatch e)) (badC_n (.dK u2) (no_dK u2)) (badC_n (.int _) (fun _ _ e => nomatch e))
      (badC_l u3 (fun y hy => by cases hy) fun cs' e _ h _ => by
        have := congrArg List.length e
        rw [sts, List.length_map] at this
        simp at this
        omega)
      (badC_l u4 (fun y hy => by rw [List.mem_singleton.mp hy]; exact .lst (S _ _ hl)) fun cs' e _ h _ => by
        cases cs' with
        | nil => cases e
        | cons a r =>
          rw [sts, List.map_cons] at e
          injection e with e _
          cases e) hil
    exact getL_i t5 (v := x) (atI_nat hx) (q x G5 S bx)
  · refine comp_i ⟨⟨by decide, by decide⟩, ?_⟩
    refine comp_rng (n := 8) (fun v => match v with | .int i => some (.str (repS "a" (i + 1).toNat)) | _ => none) (by omega) (fun i hi G k sm h => ?_) ?_
    · refine br_t rfl ⟨⟨by decide, by omega, by omega, ?_⟩, h⟩
      show (((i : Int) + 1).toNat) * 1 ≤ _
      omega
    intro p1 G1 n1 s1 t1
    have e8 : (((List.range 8).map fun i => V.int (i : Nat)).filterMap (fun v => match v with | .int i => some (V.str (repS "a" (i + 1).toNat)) | _ => none)) = (List.range 8).map fun i => V.str (repS "a" (i + 1)) := by decide +kernel
    rw [e8] at t1
    refine lenL_i (s1 _ _ hl) (slL_i t1 (new_i fun p2 G2 n2 s2 t2 => ?_))
    have e9 : (9 : Int) - ((sts cs).length : Int) = ((9 - cs.length : Nat) : Int) := by omega
    rw [e9, cut_pre _ (by simp; omega)] at t2
    have l2 : (((List.range 8).map fun i => V.str (repS "a" (i + 1))).take (9 - cs.length)).length = 9 - cs.length := by
      rw [List.length_take, List.length_map, List.length_range]
      omega
    refine addL_i ((s1.trans s2) _ _ hl) t2 (by omega) (new_i fun p3 G3 n3 s3 t3 => q _ G3 ((s1.trans s2).trans s3) (badC_l t3 (fun y hy => ?_) fun cs' e _ _ h => ?_))
    · rcases List.mem_append.mp hy with hy | hy
      · exact thc _ y hy
      · obtain ⟨i, hi, rfl⟩ := List.mem_map.mp (List.mem_of_mem_take hy)
        refine .str ?_
        have := List.mem_range.mp hi
        rw [show (repS "a" (i + 1)).length = (i + 1) * 1 from repS_length _ _]
        omega
    · have := congrArg List.length e
      rw [List.length_append, l2, sts, List.length_map, List.length_map] at this
      omega
  · refine slL_i hl (new_i fun p1 G1 n1 s1 t1 => getL_i (s1 _ _ hl) (atS hck) (getL_i (s1 _ _ hl) (atS hck) ⟨few rfl, new_i fun p2 G2 n2 s2 t2 => addL_i (s2 _ _ t1) t2 ?_ (new_i fun p3 G3 n3 s3 t3 => slL_i (((s1.trans s2).trans s3) _ _ hl) (new_i fun p4 G4 n4 s4 t4 => addL_i (s4 _ _ t3) t4 ?_ (new_i fun p5 G5 n5 s5 t5 => ?_)))⟩))
    · have h1 := cutV_length (sts cs) none (some (k : Int))
      show _ + 2 ≤ _
      omega
    · have h1 := cutV_length (sts cs) none (some (k : Int))
      have h2 := cutV_length (sts cs) (some ((k : Int) + 1)) none
      rw [List.length_append]
      show _ + 2 + _ ≤ _
      omega
    have e1 : ((k : Int) + 1) = ((k + 1 : Nat) : Int) := by omega
    rw [cut_pre _ (by omega), e1, cut_suf _ (by omega)] at t5
    refine q _ G5 ((((s1.trans s2).trans s3).trans s4).trans s5) (badC_l t5 (fun y hy => ?_) fun cs' e nm' _ _ => ?_)
    · rcases List.mem_append.mp hy with hy | hy
      · rcases List.mem_append.mp hy with hy | hy
        · exact thc _ y (List.mem_of_mem_take hy)
        · have : y = .str ck := by simpa using hy
          rw [this]
          exact thc _ _ (List.mem_map.mpr ⟨ck, List.mem_of_getElem? hck, rfl⟩)
      · exact thc _ y (List.mem_of_mem_drop hy)
    · have e2 : sts cs' = sts (cs.take k ++ [ck, ck] ++ cs.drop (k + 1)) := by
        rw [← e]
        simp [sts]
      have := nm'.2
      rw [sts_eq e2] at this
      simp [List.nodup_append] at this
  · refine slL_i hl (new_i fun p1 G1 n1 s1 t1 => ⟨⟨by decide, by decide⟩, few rfl, new_i fun p2 G2 n2 s2 t2 => addL_i ((s1.trans s2) _ _ hl) t2 ?_ (new_i fun p3 G3 n3 s3 t3 => ?_)⟩)
    · show _ + 1 ≤ _
      omega
    have S3 := (s1.trans s2).trans s3
    have e3 : sts cs ++ [V.str "all"] = sts (cs ++ [("all" : Str)]) := by simp [sts]
    rw [e3] at t3
    refine ⟨_, p3, _, rfl, t3, by simp, by simp; omega, fun z hz => ?_, fun x G4 s4 bx => ⟨few rfl, new_i fun p5 G5 n5 s5 t5 => ⟨⟨by decide, by decide⟩, ?_⟩⟩⟩
    · rcases List.mem_append.mp hz with hz | hz
      · have := (nameB_at (nm.1 _ hz)).2.1
        omega
      · rw [List.mem_singleton.mp hz]
        decide
    have jj : (1 + (j : Int) / 4) = ((1 + j / 4 : Nat) : Int) := by omega
    show mulG (.ref p5) (.int (1 + (j : Int) / 4)) G5 _
    rw [jj]
    refine mulL_i t5 (by omega) (by simp; omega) (new_i fun p6 G6 n6 s6 t6 => ?_)
    rw [Int.toNat_natCast] at t6
    have s16 := (((s2.trans s3).trans s4).trans s5).trans s6
    have S6 := s1.trans s16
    have h1' := cutV_length (sts cs) none (some (k : Int))
    have h2' := cutV_length (sts cs) (some (k : Int)) none
    have lr : ((List.replicate (1 + j / 4) [x]).flatten).length ≤ 2 := by simp; omega
    refine addL_i (s16 _ _ t1) t6 (by omega) (new_i fun p7 G7 n7 s7 t7 => slL_i ((S6.trans s7) _ _ hl) (new_i fun p8 G8 n8 s8 t8 => addL_i (s8 _ _ t7) t8 (by rw [List.length_append]; omega) (new_i fun p9 G9 n9 s9 t9 => ?_)))
    rw [cut_pre _ (by omega), cut_suf _ (by omega)] at t9
    have xm : x ∈ (List.replicate (1 + j / 4) [x]).flatten := rep_mem (by omega)
    have S9 := ((s7.trans s8).trans s9)
    refine q _ G9 (S6.trans S9) (badC_l t9 (fun y hy => ?_) fun cs' e nm' _ _ => ?_)
    · rcases List.mem_append.mp hy with hy | hy
      · rcases List.mem_append.mp hy with hy | hy
        · exact thc _ y (List.mem_of_mem_take hy)
        · rw [mem_rep hy]
          exact bx.1.same ((s5.trans s6).trans S9)
      · exact thc _ y (List.mem_of_mem_drop hy)
    · have xin : x ∈ sts cs' := by
        rw [← e]
        exact List.mem_append_left _ (List.mem_append_right _ xm)
      obtain ⟨z, hz, rfl⟩ := List.mem_map.mp xin
      rcases bx.2 z rfl with hb | hb
      · rw [nm'.1 z hz] at hb
        cases hb
      · rcases List.mem_append.mp hb with hb | hb
        · have e2 : sts cs' = sts (cs.take k ++ List.replicate (1 + j / 4) z ++ cs.drop k) := by
            rw [← e]
            simp [sts]
          have nd := nm'.2
          rw [sts_eq e2] at nd
          rw [← List.take_append_drop k cs] at hb
          have zr : z ∈ List.replicate (1 + j / 4) z := List.mem_replicate.mpr ⟨by omega, rfl⟩
          rw [List.nodup_append] at nd
          obtain ⟨nd1, _, nd3⟩ := nd
          rw [List.nodup_append] at nd1
          rcases List.mem_append.mp hb with hb | hb
          · exact nd1.2.2 _ hb _ zr rfl
          · exact nd3 _ (List.mem_append_right _ zr) _ hb rfl
        · rw [List.mem_singleton.mp hb] at hz
          exact absurd (nm'.1 _ hz) (by decide +kernel)
end
end R
end Tv

set_option Elab.async false
set_option linter.all false
set_option maxRecDepth 100000
set_option maxHeartbeats 4000000
namespace Tv
open PySem PySem.Spec PyProof.Rows L2
namespace R
section
variable {K : PySem.W.Frag} {cl NH VE NT NX NP : Addr}
/-! _law_bad_list -/
def sp_bad_list : Sp := fun vs H Q _ => ∃ (pl : Addr) (c : Int) (xs : List V) (ps : List (Str × Str)), vs = [.ref pl, .int c] ∧ H pl = some (.lst xs) ∧ PairsAt H xs ps ∧ Good ps ∧ ∀ x H', Same H H' → BadP H' x → (∀ p, x = .ref p → H p = none) → Q x H'
def t_bad_list : TS :=
  (tSeq (tAsg (tCompI (iRngG (tCons (tC (.int 25)) tNil)) ["_law_k"] [] (gName 0) tYes (tOp addG (tC (.str "a")) (tOp getG (tC (.str "bcdefghijklmnopqrstuvwxyz")) (gv 0)))) (gName 2))
  (tSeq (sIf (bT (tOp eqG (tOp modG (gv 1) (tC (.int 4))) (tC (.int 0))))
    (tRet (tOp addG (gv 0) (tCompI (iOf iterG (tSl slG (gv 2) tNoPart (partG (tOp subG (tC (.int 25)) (tCB lenG (tCons (gv 0) tNil)))))) ["_law_name"] [] (gName 0) tYes (tTupG (tCons (gv 0) (tCons (tC (.str "all")) tNil))))))
    tNext)
  (tRet (tOp getG (tLstG (tCons (tCB tupleG (tCons (gv 0) tNil)) (tCons (tC .non) (tCons (tC (.str "b")) (tCons (tDisp [((tC (.str "b")), (tC (.str "all")))]) (tCons (tC (.int 5)) (tCons (tLstG tNil) (tCons (tLstG (tCons (gv 0) tNil)) tNil)))))))) (tOp modG (tOp fdivG (gv 1) (tC (.int 4))) (tC (.int 7)))))))
def nm25 : List Str := (List.range 25).map fun i => ("a" : Str) ++ (⟨#[98 + i]⟩ : Str)
def nm25F : V → Option V
  | .int i => some (.str (("a" : Str) ++ (⟨#[98 + i.toNat]⟩ : Str)))
  | _ => none
theorem nm25_eq : ((List.range 25).map fun i => V.int (i : Nat)).filterMap nm25F = sts nm25 := by decide +kernel
theorem nm25_len : ∀ z ∈ nm25, z.length ≤ 1000 := by decide +kernel
theorem nm25_at : ∀ i : Fin 25, atI (("bcdefghijklmnopqrstuvwxyz" : Str).cps.toList) (i.1 : Int) = some (98 + i.1) := by decide +kernel
theorem pair_deep {H : Hp} {t : Addr} {a b : Str} (ht : H t = some (.tup [.str a, .str b])) (la : a.length ≤ 1000) (lb : b.length ≤ 1000) : Thing H (.ref t) ∧ ∀ t' zs, V.ref t = .ref t' → H t' = some (.tup zs) → ∀ z ∈ zs, Thing H z := by
  refine ⟨.tup ht, fun t' zs e1 e2 z hz => ?_⟩
  cases e1
  rw [ht] at e2
  cases e2
  simp only [List.mem_cons, List.not_mem_nil, or_false] at hz
  rcases hz with rfl | rfl
  · exact .str la
  · exact .str lb
theorem pairs_deep {H : Hp} {xs : List V} {ps : List (Str × Str)} (pa : PairsAt H xs ps) (g : Good ps) : ∀ y ∈ xs, Thing H y ∧ ∀ t zs, y = .ref t → H t = some (.tup zs) → ∀ z ∈ zs, Thing H z := fun y hy => by
  obtain ⟨i, hi⟩ := List.mem_iff_getElem?.mp hy
  obtain ⟨r, t, hr, rfl, ht⟩ := pa.at hi
  exact pair_deep ht (by have := (nameB_at (g.nms.1 _ (List.mem_of_getElem? (good_fst hr)))).2.1; omega) (by have := g.len2 hr; omega)
theorem r_bad_list {pl : Addr} {c : Int} {xs : List V} {ps : List (Str × Str)} {H : Hp} {D : Ends} (hl : H pl = some (.lst xs)) (pa : PairsAt H xs ps) (g : Good ps) (q : ∀ x H', Same H H' → BadP H' x → (∀ p, x = .ref p → H p = none) → D.rt x H') : t_bad_list D [some (.ref pl), some (.int c), none] H := by
  have hs := sz
  have g1 := g.one
  have g2 := g.many
  have lx := pa.1
  refine comp_i ⟨⟨by decide, by decide⟩, ?_⟩
  refine comp_rng (n := 25) nm25F (by omega) (fun i hi G k sm h => ?_) ?_
  · exact br_t rfl (getS_i (nm25_at ⟨i, hi⟩) (by rw [hs]; decide +kernel) ⟨by rw [hs]; show 1 + 1 ≤ 16777216; decide, h⟩)
  intro pn G1 n1 s1 t1
  rw [nm25_eq] at t1
  refine ⟨by decide, br_of (fun h0 => ?_) (fun h0 => ?_)⟩
  · refine comp_i (lenL_i (s1 _ _ hl) (slL_i t1 (new_i fun p2 G2 n2 s2 t2 => iterL_i t2 ?_)))
    have e9 : (25 : Int) - (xs.length : Int) = ((25 - xs.length : Nat) : Int) := by omega
    have ln : (sts nm25).length = 25 := by decide +kernel
    rw [e9, cut_pre _ (by omega)] at t2
    have S2 := s1.trans s2
    have em : (sts nm25).take (25 - xs.length) = sts (nm25.take (25 - xs.length)) := by simp [sts]
    rw [em] at t2
    refine comp_lt (tupF fun z => [z, "all"]) t2 (by simp [sts]; omega) ?_ ?_
    · intro i x hx G k B sm hk hb
      obtain ⟨z, hz, rfl⟩ := List.mem_map.mp (List.mem_of_getElem? hx)
      exact br_t rfl ⟨few rfl, new_i fun t G' n' s' t' => hk _ rfl t G' s' t'⟩
    intro p3 zs G3 n3 s3 t3 pz
    rw [fm_tup] at pz
    have lz : zs.length = 25 - xs.length := by
      rw [pz.1, List.length_map, List.length_take]
      show min _ (nm25.length) = _
      rw [show nm25.length = 25 by decide +kernel]
      omega
    refine addL_i ((S2.trans s3) _ _ hl) t3 (by omega) (new_i fun p4 G4 n4 s4 t4 => q _ G4 ((S2.trans s3).trans s4) (badP_l t4 (fun y hy => ?_) fun ps' pa' g' => ?_) fun p e => by cases e; exact free (S2.trans s3) n4)
    · rcases List.mem_append.mp hy with hy | hy
      · exact pairs_deep (pa.same ((S2.trans s3).trans s4)) g y hy
      · obtain ⟨i, hi⟩ := List.mem_iff_getElem?.mp hy
        obtain ⟨l, t, hl', rfl, ht⟩ := (pz.same s4).at hi
        obtain ⟨z, hz, rfl⟩ := List.mem_map.mp (List.mem_of_getElem? hl')
        exact pair_deep ht (nm25_len z (List.mem_of_mem_take hz)) (by decide)
    · have h1 := pa'.1
      have h2 := g'.many
      rw [List.length_append] at h1
      omega
  · have hl1 := s1 _ _ hl
    refine tupleL_i hl1 (new_i fun p1 G2 n2 s2 t2 => ?_)
    refine tCons_i (tC_i (tCons_i (tC_i (tCons_i (disp_i (tk := tC (.str "b")) (tv := tC (.str "all")) (x := .str "b") (v := .str "all") (k := .inr "b") (fun G R h => h) (fun G R h => h) rfl fun p2 G3 n3 s3 t3 => ?_)))))
    refine ⟨few rfl, new_i fun p3 G4 n4 s4 t4 => ⟨few rfl, new_i fun p4 G5 n5 s5 t5 => ⟨few rfl, new_i fun p5 G6 n6 s6 t6 => ⟨⟨by decide, by decide⟩, by decide, ?_⟩⟩⟩⟩
    obtain ⟨i, hi, hil⟩ := mod_nat (c / 4) (n := 7) (by decide)
    have hi : c / 4 % 7 = (i : Int) := hi
    rw [hi]
    have u1 := (((s3.trans s4).trans s5).trans s6) _ _ t2
    have u2 := ((s4.trans s5).trans s6) _ _ t3
    have u3 := (s5.trans s6) _ _ t4
    have u4 := s6 _ _ t5
    have S := ((((s1.trans s2).trans s3).trans s4).trans s5).trans s6
    obtain ⟨x, hx, bx⟩ := seven_at (P := fun v => BadP G6 v ∧ ∀ p, v = .ref p → H p = none) (a := p1) (d := p2) (e := p3) (f := p4) ⟨badP_n (.tup u1) (no_tup u1), fun p e => by cases e; exact free s1 n2⟩ ⟨badP_n .non (fun _ _ e => nomatch e), fun _ e => nomatch e⟩ ⟨badP_n (.str (by decide)) (fun _ _ e => nomatch e), fun _ e => nomatch e⟩ ⟨badP_n (.dK u2) (no_dK u2), fun p e => by cases e; exact free (s1.trans s2) n3⟩ ⟨badP_n (.int _) (fun _ _ e => nomatch e), fun _ e => nomatch e⟩
      ⟨badP_l u3 (fun y hy => by cases hy) fun ps' pa' g' => by
        have h1 := pa'.1
        have h2 := g'.one
        rw [List.length_nil] at h1
        omega, fun p e => by cases e; exact free ((s1.trans s2).trans s3) n4⟩
      ⟨badP_l u4 (fun y hy => by
        rw [List.mem_singleton.mp hy]
        refine ⟨.lst (S _ _ hl), fun t zs e1 e2 => ?_⟩
        cases e1
        rw [S _ _ hl] at e2
        cases e2) fun ps' pa' g' => by
        obtain ⟨r, t, hr, e, ht⟩ := pa'.at (i := 0) rfl
        cases e
        rw [S _ _ hl] at ht
        (cases ht), fun p e => by cases e; exact free (((s1.trans s2).trans s3).trans s4) n5⟩ hil
    exact getL_i t6 (v := x) (atI_nat hx) (q x G6 S bx.1 bx.2)
/-! what stays -/
theorem Thing.ex {H : Hp} {p : Addr} (h : Thing H (.ref p)) : ∃ o, H p = some o := by
  cases h with
  | lst e => exact ⟨_, e⟩
  | tup e => exact ⟨_, e⟩
  | dK e => exact ⟨_, e⟩
theorem back {H G : Hp} (s : Same H G) {p : Addr} (h : Thing H (.ref p)) {o : HO} (e : G p = some o) : H p = some o := by
  obtain ⟨u, hu⟩ := Thing.ex h
  rw [s _ _ hu] at e
  rw [hu, e]
theorem Deep2.same {H G : Hp} {x : V} (h : Deep2 H x) (s : Same H G) : Deep2 G x := by
  refine ⟨h.1.same s, fun p xs e hp y hy => ?_⟩
  subst e
  obtain ⟨h1, h2⟩ := h.2 p xs rfl (back s h.1 hp) y hy
  refine ⟨h1.same s, fun t zs e ht z hz => ?_⟩
  subst e
  exact (h2 t zs rfl (back s h1 ht) z hz).same s
theorem Deep1.same {H G : Hp} {x : V} (h : Deep1 H x) (s : Same H G) : Deep1 G x := by
  refine ⟨h.1.same s, fun p xs e hp y hy => ?_⟩
  subst e
  exact (h.2 p xs rfl (back s h.1 hp) y hy).same s
theorem partsOK_back {H G : Hp} {x : V} {ps : List (Str × Str)} (d : Deep2 H x) (s : Same H G) (h : PartsOK G x ps) : PartsOK H x ps := by
  obtain ⟨p, xs, rfl, hp, pa, g⟩ := h
  have hp' := back s d.1 hp
  refine ⟨p, xs, rfl, hp', ⟨pa.1, fun i r hr => ?_⟩, g⟩
  obtain ⟨t, e1, e2⟩ := pa.2 i r hr
  exact ⟨t, e1, back s (d.2 p xs rfl hp' _ (List.mem_of_getElem? e1)).1 e2⟩
theorem colsOK_back {H G : Hp} {x : V} {cs : List Str} (d : Deep1 H x) (s : Same H G) (h : ColsOK G x cs) : ColsOK H x cs := by
  obtain ⟨p, rfl, hp, r⟩ := h
  exact ⟨p, rfl, back s d.1 hp, r⟩
/-! a copy of a list, and of all else itself -/
def Cp (H : Hp) (x y : V) : Prop := (y = x ∧ ∀ p xs, x = .ref p → H p = some (.lst xs) → False) ∨ ∃ p p' xs, x = .ref p ∧ y = .ref p' ∧ p' ≠ p ∧ H p = some (.lst xs) ∧ H p' = some (.lst xs)
theorem Cp.same {H G : Hp} {x y : V} (h : Cp H x y) (t : Thing H x) (s : Same H G) : Cp G x y := by
  rcases h with ⟨e, h⟩ | ⟨p, p', xs, e1, e2, ne, h1, h2⟩
  · exact .inl ⟨e, fun p xs e2 h2 => by
      subst e2
      exact h p xs rfl (back s t h2)⟩
  · exact .inr ⟨p, p', xs, e1, e2, ne, s _ _ h1, s _ _ h2⟩
theorem Cp.deep2 {H : Hp} {x y : V} (h : Cp H x y) (d : Deep2 H x) : Deep2 H y := by
  rcases h with ⟨rfl, h⟩ | ⟨p, p', xs, rfl, rfl, ne, h1, h2⟩
  · exact d
  · refine ⟨.lst h2, fun p2 ys e h3 y hy => ?_⟩
    cases e
    rw [h2] at h3
    cases h3
    exact d.2 p xs rfl h1 y hy
theorem Cp.deep1 {H : Hp} {x y : V} (h : Cp H x y) (d : Deep1 H x) : Deep1 H y := by
  rcases h with ⟨rfl, h⟩ | ⟨p, p', xs, rfl, rfl, ne, h1, h2⟩
  · exact d
  · refine ⟨.lst h2, fun p2 ys e h3 y hy => ?_⟩
    cases e
    rw [h2] at h3
    cases h3
    exact d.2 p xs rfl h1 y hy
theorem Cp.parts {H : Hp} {x y : V} {ps : List (Str × Str)} (h : Cp H x y) (k : PartsOK H y ps) : PartsOK H x ps := by
  rcases h with ⟨rfl, h⟩ | ⟨p, p', xs, rfl, rfl, ne, h1, h2⟩
  · exact k
  · obtain ⟨q, ys, e, h3, r⟩ := k
    cases e
    rw [h2] at h3
    cases h3
    exact ⟨p, xs, rfl, h1, r⟩
theorem Cp.cols {H : Hp} {x y : V} {cs : List Str} (h : Cp H x y) (k : ColsOK H y cs) : ColsOK H x cs := by
  rcases h with ⟨rfl, h⟩ | ⟨p, p', xs, rfl, rfl, ne, h1, h2⟩
  · exact k
  · obtain ⟨q, e, h3, r⟩ := k
    cases e
    rw [h2] at h3
    injection h3 with h3
    injection h3 with h3
    exact ⟨p, rfl, by rw [h1, h3], r⟩
theorem eqT_thing {H : Hp} {x : V} (h : Thing H x) (n : Nat) : EqT H n x x := by
  cases h with
  | non => exact .data (d := .none) (e := .none) (by cases n <;> rfl) (by cases n <;> rfl) (by decide +kernel)
  | bl b => exact .data (d := .bool b) (e := .bool b) (by cases n <;> rfl) (by cases n <;> rfl) (by cases b <;> decide +kernel)
  | int i => exact .data (d := .int i) (e := .int i) (by cases n <;> rfl) (by cases n <;> rfl) (by rw [eqv_int]; exact beq_self_eq_true i)
  | @str z h => exact .data (d := .str z) (e := .str z) (by cases n <;> rfl) (by cases n <;> rfl) (by rw [eqv_str]; exact beq_self_eq_true z)
  | lst e => exact .same _ _
  | tup e => exact .same _ _
  | dK e => exact .same _ _
theorem Cp.eqT {H : Hp} {x y : V} (h : Cp H x y) (t : Thing H x) (th : ∀ p xs, x = .ref p → H p = some (.lst xs) → ∀ z ∈ xs, Thing H z) : EqT H 8 y x := by
  rcases h with ⟨rfl, h⟩ | ⟨p, p', xs, rfl, rfl, ne, h1, h2⟩
  · exact eqT_thing t 8
  · refine .lst ne h2 h1 rfl fun i u v hu hv => ?_
    rw [hu] at hv
    cases hv
    exact eqT_thing (th p xs rfl h1 u (List.mem_of_getElem? hu)) 7
end
end R
end Tv

set_option Elab.async false
set_option linter.all false
set_option maxRecDepth 100000
set_option maxHeartbeats 4000000
namespace Tv
open PySem PySem.Spec PyProof.Rows L2
namespace R
section
variable {K : PySem.W.Frag} {cl NH VE NT NX NP : Addr}
def kit3 (NH VE NT NX NP : Addr) : List (Addr × V × Bool) := [(NH, .ref VE, true), (NH, .ty "ValueError", true), (NH, .ref NT, false), (NH, .ref NX, false), (NH, .ref NP, false)]
/-! _law_refused -/
def sp_refused : Sp := fun vs H Q _ => ∃ x y : V, vs = [x, y] ∧ Deep2 H x ∧ Deep1 H y ∧ ((∀ ps, ¬ PartsOK H x ps) ∨ ∀ cs, ¬ ColsOK H y cs) ∧ ∀ H', Same H H' → Q (.bl true) H'
def tr_end : TS := (tRet (tAndG (tOp eqG (gv 2) (tLstG (tCons (tC (.bl true)) (tCons (tC (.bl true)) (tCons (tC (.bl false)) (tCons (tC (.bl false)) (tCons (tC (.bl false)) tNil))))))) (tOp eqG (gv 3) (tLstG (tCons (gv 0) (tCons (gv 1) tNil))))))
def tr_try (cl NH VE NT NX NP : Addr) : TS :=
  (tSeq (tTry (fun E => tMake cl (spE_init cl NH) [] E (tCons (tOp getG (gv 3) (tC (.int 0))) (tCons (tOp getG (gv 3) (tC (.int 1))) tNil))) [(NH, NH)] NH 4
    (tSeq (tAsg (tLstG (tCons (tCB (isiX (kit3 NH VE NT NX NP)) (tCons (gv 4) (tCons (tC (.ref VE)) tNil))) (tCons (tCB (isiX (kit3 NH VE NT NX NP)) (tCons (gv 4) (tCons (tC (.ty "ValueError")) tNil))) (tCons (tCB (isiX (kit3 NH VE NT NX NP)) (tCons (gv 4) (tCons (tC (.ref NT)) tNil))) tNil)))) (gName 2))
    (tAsg (tOp addG (gv 2) (tLstG (tCons (tCB (isiX (kit3 NH VE NT NX NP)) (tCons (gv 4) (tCons (tC (.ref NX)) tNil))) (tCons (tCB (isiX (kit3 NH VE NT NX NP)) (tCons (gv 4) (tCons (tC (.ref NP)) tNil))) tNil)))) (gName 2))))
  tr_end)
def t_refused (cl NH VE NT NX NP : Addr) : TS :=
  (tSeq (tAsg (tLstG tNil) (gName 2))
  (tSeq (tAsg (tLstG (tCons (gv 0) (tCons (gv 1) tNil))) (gName 3))
  (tSeq (sIf (ptG (tCB isiG (tCons (gv 0) (tCons (tC (.ty "list")) tNil))))
    (tAsg (tCB listG (tCons (gv 0) tNil)) (gSub (gv 3) (tC (.int 0)) setG))
    tNext)
  (tSeq (sIf (ptG (tCB isiG (tCons (gv 1) (tCons (tC (.ty "list")) tNil))))
    (tAsg (tCB listG (tCons (gv 1) tNil)) (gSub (gv 3) (tC (.int 1)) setG))
    tNext)
  (tr_try cl NH VE NT NX NP)))))
theorem kit_mem {NH VE NT NX NP : Addr} {i : Nat} {r : Addr × V × Bool} (h : (kit3 NH VE NT NX NP)[i]? = some r) : r ∈ kit3 NH VE NT NX NP := List.mem_of_getElem? h
theorem r_tr_try {x y x' y' : V} {k0 h0 : Addr} {H : Hp} {D : Ends} (hh : H h0 = some (.lst [x', y'])) (dx : Deep2 H x) (dy : Deep1 H y) (cx : Cp H x x') (cy : Cp H y y') (bad : (∀ ps, ¬ PartsOK H x ps) ∨ ∀ cs, ¬ ColsOK H y cs) (q : ∀ H', Same H H' → D.rt (.bl true) H') :
    tr_try cl NH VE NT NX NP D [some x, some y, some (.ref k0), some (.ref h0), none] H := by
  have hs := sz
  refine getL_i hh (v := x') rfl (getL_i hh (v := y') rfl ?_)
  intro o od no nod _
  have sm : Same H (upd (upd H od (.own o)) o (.ins cl od [])) := fun b u e => by rw [upd_ne (ne_of_none e no), upd_ne (ne_of_none e nod)]; exact e
  refine ⟨o, od, x', y', rfl, upd_same, Deep2.same (cx.deep2 dx) sm, Deep1.same (cy.deep1 dy) sm, fun ps cs pk ck => ?_, fun _ H' sx => ?_⟩
  · exfalso
    rcases bad with b | b
    · exact b ps (cx.parts (partsOK_back (cx.deep2 dx) sm pk))
    · exact b cs (cy.cols (colsOK_back (cy.deep1 dy) sm ck))
  have S1 : Same H H' := same_make no nod sx
  refine ⟨NH, rfl, List.mem_singleton.mpr rfl, fun a na => ?_⟩
  have S2 : Same H (upd H' a (.ext (TyAt a NH))) := S1.trans (same_upd na)
  generalize hG : upd H' a (.ext (TyAt a NH)) = G at S2 ⊢
  have ta : G a = some (.ext (TyAt a NH)) := by rw [← hG]; exact upd_same
  refine isiX_i ta (kit_mem (i := 0) rfl) (isiX_i ta (kit_mem (i := 1) rfl) (isiX_i ta (kit_mem (i := 2) rfl) ⟨few rfl, new_i fun p1 G1 n1 s1 t1 => ?_⟩))
  refine isiX_i (s1 _ _ ta) (kit_mem (i := 3) rfl) (isiX_i (s1 _ _ ta) (kit_mem (i := 4) rfl) ⟨few rfl, new_i fun p2 G2 n2 s2 t2 => addL_i (s2 _ _ t1) t2 (few rfl) (new_i fun p3 G3 n3 s3 t3 => ?_)⟩)
  refine ⟨few rfl, new_i fun p4 G4 n4 s4 t4 => ?_⟩
  have S4 := (((S2.trans s1).trans s2).trans s3).trans s4
  refine eq_i (d := .list [.bool true, .bool true, .bool false, .bool false, .bool false]) (e := .list [.bool true, .bool true, .bool false, .bool false, .bool false]) (rd_lst 7 (s4 _ _ t3) rfl) (rd_lst 7 t4 rfl) (br_t (by decide +kernel) ⟨few rfl, new_i fun p5 G5 n5 s5 t5 => ?_⟩)
  have S5 := S4.trans s5
  refine eqL_i (S5 _ _ hh) t5 rfl (fun i u v hu hv => ?_) (q G5 S5)
  match i, hu, hv with
  | 0, hu, hv =>
    cases hu
    cases hv
    exact (cx.same dx.1 S5).eqT (dx.1.same S5) fun p xs e h z hz => ((Deep2.same dx S5).2 p xs e h z hz).1
  | 1, hu, hv =>
    cases hu
    cases hv
    exact (cy.same dy.1 S5).eqT (dy.1.same S5) (Deep1.same dy S5).2
/-! a list that is written anew -/
theorem Thing.put {G : Hp} {pw : Addr} {a b : List V} {z : V} (hw : G pw = some (.lst a)) (h : Thing G z) : Thing (upd G pw (.lst b)) z := by
  have k : ∀ {p : Addr} {o : HO}, p ≠ pw → G p = some o → upd G pw (.lst b) p = some o := fun n e => by rw [upd_ne n]; exact e
  cases h with
  | non => exact .non
  | bl b => exact .bl b
  | int i => exact .int i
  | str h => exact .str h
  | @lst p xs e =>
    by_cases z : p = pw
    · subst z
      exact .lst upd_same
    · exact .lst (k z e)
  | @tup p xs e => exact .tup (k (fun z => by rw [z, hw] at e; cases e) e)
  | @dK p xs e => exact .dK (k (fun z => by rw [z, hw] at e; cases e) e)
theorem put_tup {G : Hp} {pw t : Addr} {b zs : List V} (h : upd G pw (.lst b) t = some (.tup zs)) : G t = some (.tup zs) := by
  by_cases z : t = pw
  · subst z
    rw [upd_same] at h
    cases h
  · rw [upd_ne z] at h
    exact h
theorem Deep2.put {G : Hp} {pw : Addr} {a b : List V} {x : V} (hw : G pw = some (.lst a)) (h : Deep2 G x) (ne : ∀ p, x = .ref p → p ≠ pw) : Deep2 (upd G pw (.lst b)) x := by
  refine ⟨Thing.put hw h.1, fun p xs e hp y hy => ?_⟩
  rw [upd_ne (ne p e)] at hp
  obtain ⟨h1, h2⟩ := h.2 p xs e hp y hy
  exact ⟨Thing.put hw h1, fun t zs e ht z hz => Thing.put hw (h2 t zs e (put_tup ht) z hz)⟩
theorem BadP.put {G : Hp} {pw : Addr} {b : List V} {x : V} (h : ∀ ps, ¬ PartsOK G x ps) (ne : ∀ p, x = .ref p → p ≠ pw) : ∀ ps, ¬ PartsOK (upd G pw (.lst b)) x ps := fun ps ⟨p, xs, e, hp, pa, g⟩ => by
  rw [upd_ne (ne p e)] at hp
  exact h ps ⟨p, xs, e, hp, ⟨pa.1, fun i r hr => by
    obtain ⟨t, e1, e2⟩ := pa.2 i r hr
    exact ⟨t, e1, put_tup e2⟩⟩, g⟩
theorem BadC.put {G : Hp} {pw : Addr} {a : List V} {x y : V} (hw : G pw = some (.lst a)) (hx : Thing G x) (h : BadC G y) : BadC (upd G pw (.lst [x, y])) y := by
  by_cases e : y = .ref pw
  · subst e
    refine badC_l upd_same (fun z hz => ?_) fun cs e _ _ _ => ?_
    · simp only [List.mem_cons, List.not_mem_nil, or_false] at hz
      rcases hz with rfl | rfl
      · exact Thing.put hw hx
      · exact .lst upd_same
    · have := congrArg (fun l => l[1]?) e
      simp [sts] at this
      cases e2 : cs[1]? with
      | none => rw [e2] at this; cases this
      | some z => rw [e2] at this; cases this
  · refine ⟨⟨Thing.put hw h.1.1, fun p xs e2 hp z hz => ?_⟩, fun cs ⟨p, e2, hp, r⟩ => ?_⟩
    · rw [upd_ne (fun k => e (by rw [e2, k]))] at hp
      exact Thing.put hw (h.1.2 p xs e2 hp z hz)
    · rw [upd_ne (fun k => e (by rw [e2, k]))] at hp
      exact h.2 cs ⟨p, e2, hp, r⟩
theorem kind_ls {H : Hp} {x : V} (t : Thing H x) : (∃ p xs, x = .ref p ∧ H p = some (.lst xs)) ∨ ((∃ S, kindV H x = some S ∧ isKind S "list" = false) ∧ ∀ p xs, x = .ref p → H p = some (.lst xs) → False) := by
  cases t with
  | lst e => exact .inl ⟨_, _, rfl, e⟩
  | non => exact .inr ⟨⟨_, rfl, by decide +kernel⟩, fun _ _ e => nomatch e⟩
  | bl b => exact .inr ⟨⟨_, rfl, by decide +kernel⟩, fun _ _ e => nomatch e⟩
  | int i => exact .inr ⟨⟨_, rfl, by decide +kernel⟩, fun _ _ e => nomatch e⟩
  | str h => exact .inr ⟨⟨_, rfl, by decide +kernel⟩, fun _ _ e => nomatch e⟩
  | tup e => exact .inr ⟨⟨_, kind_tup e, by decide +kernel⟩, no_tup e⟩
  | dK e => exact .inr ⟨⟨_, kind_dK e, by decide +kernel⟩, no_dK e⟩
theorem Cp.put {H : Hp} {x y : V} {h0 : Addr} {o : HO} (c : Cp H x y) (hx : ∀ p, x = .ref p → p ≠ h0) (hy : ∀ p, y = .ref p → p ≠ h0) : Cp (upd H h0 o) x y := by
  rcases c with ⟨e, h⟩ | ⟨a, a', ys, e1, e2, n, h1, h2⟩
  · refine .inl ⟨e, fun b zs e3 h3 => h b zs e3 ?_⟩
    rw [upd_ne (hx b e3)] at h3
    exact h3
  · exact .inr ⟨a, a', ys, e1, e2, n, by rw [upd_ne (hx a e1)]; exact h1, by rw [upd_ne (hy a' e2)]; exact h2⟩
theorem r_refused {x y : V} {H : Hp} {D : Ends} (dx : Deep2 H x) (dy : Deep1 H y) (bad : (∀ ps, ¬ PartsOK H x ps) ∨ ∀ cs, ¬ ColsOK H y cs) (q : ∀ H', Same H H' → D.rt (.bl true) H') :
    t_refused cl NH VE NT NX NP D [some x, some y, none, none, none] H := by
  have hs := sz
  refine ⟨few rfl, new_i fun k0 G1 n1 s1 t1 => ⟨few rfl, new_i fun h0 G2 n2 s2 t2 => ?_⟩⟩
  have S2 := s1.trans s2
  have nh : H h0 = none := by
    cases e : H h0 with
    | none => rfl
    | some o => rw [s1 _ _ e] at n2; cases n2
  have nhx : ∀ p, x = .ref p → p ≠ h0 := fun p e e2 => by
    subst e
    obtain ⟨o, ho⟩ := Thing.ex dx.1
    rw [e2, nh] at ho
    cases ho
  have fin : ∀ (x' y' : V) (G : Hp), Same H G → G h0 = some (.lst [x', y']) → Cp G x x' → Cp G y y' → tr_try cl NH VE NT NX NP D [some x, some y, some (.ref k0), some (.ref h0), none] G := fun x' y' G sm hh cx cy =>
    r_tr_try hh (Deep2.same dx sm) (Deep1.same dy sm) cx cy (bad.imp (fun b ps k => b ps (partsOK_back dx sm k)) fun b cs k => b cs (colsOK_back dy sm k)) fun H' s' => q H' (sm.trans s')
  have two : ∀ (x' : V) (G : Hp), Same H G → G h0 = some (.lst [x', y]) → Cp G x x' → (∀ p, x' = .ref p → p ≠ h0) → (tSeq (sIf (ptG (tCB isiG (tCons (gv 1) (tCons (tC (.ty "list")) tNil)))) (tAsg (tCB listG (tCons (gv 1) tNil)) (gSub (gv 3) (tC (.int 1)) setG)) tNext) (tr_try cl NH VE NT NX NP)) D [some x, some y, some (.ref k0), some (.ref h0), none] G := fun x' G sm hh cx nx' => by
    rcases kind_ls (dy.1.same sm) with ⟨p, xs, rfl, hp⟩ | ⟨⟨S, hk, hkl⟩, no⟩
    · refine isi_i (by decide +kernel) (kind_lst hp) (br_t (by decide +kernel) (listL_i hp (new_i fun p' G3 n3 s3 t3 => ?_)))
      refine setL_i (s3 _ _ hh) (j := 1) rfl ?_
      have np : h0 ≠ p' := fun e => by rw [← e, hh] at n3; cases n3
      have np2 : h0 ≠ p := fun e => by
        obtain ⟨o, ho⟩ := Thing.ex dy.1
        rw [e, ho] at nh
        cases nh
      have ne : ∀ b, b ≠ h0 → (upd G3 h0 (.lst ([x', V.ref p].set 1 (.ref p')))) b = G3 b := fun b h => upd_ne h
      refine fin x' (.ref p') _ ((sm.trans s3).put nh) upd_same ?_ ?_
      · exact (cx.same (dx.1.same sm) s3).put nhx nx'
      · refine .inr ⟨p, p', xs, rfl, rfl, ?_, ?_, ?_⟩
        · exact fun e => by rw [e, hp] at n3; cases n3
        · rw [ne _ np2.symm]; exact s3 _ _ hp
        · rw [ne _ np.symm]; exact t3
    · exact isi_i (by decide +kernel) hk (br_f hkl (fin x' y G sm hh cx (.inl ⟨rfl, no⟩)))
  rcases kind_ls (dx.1.same S2) with ⟨p, xs, rfl, hp⟩ | ⟨⟨S, hk, hkl⟩, no⟩
  · refine isi_i (by decide +kernel) (kind_lst hp) (br_t (by decide +kernel) (listL_i hp (new_i fun p' G3 n3 s3 t3 => ?_)))
    refine setL_i (s3 _ _ t2) (j := 0) rfl ?_
    have np : p' ≠ h0 := fun e => by rw [e, t2] at n3; cases n3
    refine two (.ref p') _ ((S2.trans s3).put nh) upd_same ?_ (fun b e => by cases e; exact np)
    refine .inr ⟨p, p', xs, rfl, rfl, ?_, ?_, ?_⟩
    · exact fun e => by rw [e, hp] at n3; cases n3
    · rw [upd_ne (nhx p rfl)]; exact s3 _ _ hp
    · rw [upd_ne np]; exact t3
  · exact isi_i (by decide +kernel) hk (br_f hkl (two x G2 S2 t2 (.inl ⟨rfl, no⟩) nhx))
end
end R
end Tv

set_option Elab.async false
set_option linter.all false
set_option maxRecDepth 100000
set_option maxHeartbeats 4000000
namespace Tv
open PySem PySem.Spec PyProof.Rows L2
namespace R
section
variable {K : PySem.W.Frag} {cl NH VE NT NX NP : Addr}
def tl_ref (E : XK) : TS := (sIf (tNot (ptG (tCall sp_refused [] E (tCons (tOp getG (gv 5) (tC (.int 0))) (tCons (tOp getG (gv 5) (tC (.int 1))) tNil)))))
      (tRet (tC (.bl false)))
      tNext)
def tl_two (E : XK) : TS := (tSeq (sIf (bT (tOp gtG (gv 6) (tC (.int 10))))
      (tAsg (tCall sp_bad_columns [] E (tCons (gv 2) (tCons (tOp fdivG (gv 4) (tC (.int 16))) tNil))) (gSub (gv 5) (tC (.int 1)) setG))
      tNext)
    (tl_ref E))
def tl_body (E : XK) : TS :=
    (tSeq (sIf (tOrB (bT (tOp ltG (gv 6) (tC (.int 9)))) (bT (tOp eqG (gv 6) (tC (.int 15)))))
      (tAsg (tCall sp_bad_part [] E (tCons (gv 1) (tCons (tOp fdivG (gv 4) (tC (.int 16))) tNil))) (gSub (gv 5) (tC (.int 0)) setG))
      (sIf (bT (tOp ltG (gv 6) (tC (.int 11))))
        (tAsg (tCall sp_bad_list [] E (tCons (gv 1) (tCons (tOp fdivG (gv 4) (tC (.int 16))) tNil))) (gSub (gv 5) (tC (.int 0)) setG))
        tNext))
    (tl_two E))
def tl_end (cl NH : Addr) (E : XK) : TS := (tRet (tOp eqG (tMethG cl "rows" (sp_rows cl) E (tMake cl (spE_init cl NH) [] E (tCons (gv 1) (tCons (gv 2) tNil))) tNil) (tMethG cl "rows" (sp_rows cl) E (tMake cl (spE_init cl NH) [] E (tCons (tCB listG (tCons (gv 1) tNil)) (tCons (tCB listG (tCons (gv 2) tNil)) tNil))) tNil)))
def t3_law (K : PySem.W.Frag) (cl NH : Addr) (E : XK) : TS :=
  (tSeq (tAsg (tCall (sp_law_partsB K) [] E (tCons (gv 0) tNil)) (gName 1))
  (tSeq (tAsg (tCall (sp_law_columns K) [] E (tCons (gv 0) tNil)) (gName 2))
  (tSeq (sIf (bT (tOp neG (tMethG cl "columns" (sp_columns cl) E (tMake cl (spE_init cl NH) [] E (tCons (gv 1) (tCons (gv 2) tNil))) tNil) (gv 2)))
    (tRet (tC (.bl false)))
    tNext)
  (tSeq (sFor (iOf iterG (tOp addG (tLstG (tCons (tCall (sp_law_cell_at K) [] E (tCons (gv 0) (tCons (tC (.int 1)) tNil))) tNil)) (tSl (rSlS K) (gv 0) (partG (tC (.int 2))) (partG (tC (.int 61)))))) (gName 3)
    (tSeq (tAsg (tOp modG (tOp mulG (tOp addG (tOp modG (gv 3) (tOp powG (tC (.int 10)) (tC (.int 30)))) (tC (.int 5))) (tC (.int 48271))) (tC (.int 2147483647))) (gName 4))
    (tSeq (tAsg (tLstG (tCons (gv 1) (tCons (gv 2) tNil))) (gName 5))
    (tSeq (tAsg (tOp modG (gv 4) (tC (.int 16))) (gName 6))
    (tl_body E)))))
  (tl_end cl NH E)))))
/-- a maker's promise -/
theorem make_E {p c : V} {ps : List (Str × Str)} {cs : List Str} {x dx : Addr} {H : Hp} {Q : VK} {E : XK} (pk : PartsOK H p ps) (ck : ColsOK H c cs) (nx : H x = none) (ndx : H dx = none)
    (q : ∀ G, Same H G → HouseAt cl G x ps cs → Q .non G) : spE_init cl NH [.ref x, p, c] (upd (upd H dx (.own x)) x (.ins cl dx [])) Q E := by
  have sm : Same H (upd (upd H dx (.own x)) x (.ins cl dx [])) := fun b u e => by rw [upd_ne (ne_of_none e nx), upd_ne (ne_of_none e ndx)]; exact e
  obtain ⟨a, xs, rfl, h1, h2, g⟩ := pk
  obtain ⟨b, rfl, h3, h4, h5, h6⟩ := ck
  have pk' : PartsOK (upd (upd H dx (.own x)) x (.ins cl dx [])) (.ref a) ps := ⟨a, xs, rfl, sm _ _ h1, h2.same sm, g⟩
  have ck' : ColsOK (upd (upd H dx (.own x)) x (.ins cl dx [])) (.ref b) cs := ⟨b, rfl, sm _ _ h3, h4, h5, h6⟩
  refine ⟨x, dx, .ref a, .ref b, rfl, upd_same, ⟨.lst (sm _ _ h1), fun p' ys e h y hy => ?_⟩, ⟨.lst (sm _ _ h3), fun p' ys e h y hy => ?_⟩, fun ps' cs' pk2 ck2 H' sx hf => ?_, fun bad => ?_⟩
  · cases e
    rw [sm _ _ h1] at h
    cases h
    exact pairs_deep (h2.same sm) g y hy
  · cases e
    rw [sm _ _ h3] at h
    cases h
    exact thing_sts h4.1 y hy
  · have e1 : ps' = ps := by
      obtain ⟨a', ys, e, k1, k2, _⟩ := pk2
      cases e
      rw [sm _ _ h1] at k1
      cases k1
      exact k2.uniq (h2.same sm)
    have e2 : cs' = cs := by
      obtain ⟨a', e, k1, _⟩ := ck2
      cases e
      rw [sm _ _ h3] at k1
      injection k1 with k1
      injection k1 with k1
      exact (sts_eq k1).symm
    subst e1
    subst e2
    exact q H' (same_make nx ndx sx) (hf H' fun _ _ _ e => e)
  · rcases bad with b | b
    · exact (b _ pk').elim
    · exact (b _ ck').elim
theorem deep_pl {H : Hp} {pl : Addr} {xs : List V} {ps : List (Str × Str)} (h1 : H pl = some (.lst xs)) (h2 : PairsAt H xs ps) (g : Good ps) : Deep2 H (.ref pl) := ⟨.lst h1, fun p' ys e h y hy => by
  cases e
  rw [h1] at h
  cases h
  exact pairs_deep h2 g y hy⟩
theorem deep_pc {H : Hp} {pc : Addr} {cs : List Str} (h1 : H pc = some (.lst (sts cs))) (nm : Nms cs) : Deep1 H (.ref pc) := ⟨.lst h1, fun p' ys e h y hy => by
  cases e
  rw [h1] at h
  cases h
  exact thing_sts nm.1 y hy⟩
theorem r_tl_ref {x y : V} {s0 s1 s2 s3 s4 s6 : Option V} {pw : Addr} {H : Hp} {D : Ends} {E : XK} (hw : H pw = some (.lst [x, y])) (dx : Deep2 H x) (dy : Deep1 H y) (bad : (∀ ps, ¬ PartsOK H x ps) ∨ ∀ cs, ¬ ColsOK H y cs) (q : ∀ H', Same H H' → D.nx [s0, s1, s2, s3, s4, some (.ref pw), s6] H') :
    tl_ref E D [s0, s1, s2, s3, s4, some (.ref pw), s6] H := by
  exact getL_i hw (v := x) rfl (getL_i hw (v := y) rfl ⟨x, y, rfl, dx, dy, bad, fun H' s' => br_f rfl (q H' s')⟩)
theorem r_tl_two {x : V} {s0 s1 s3 : Option V} {pc pw : Addr} {cs : List Str} {n : Int} {j : Nat} {B H : Hp} {D : Ends} {E : XK} (sB : Same B H) (nw : B pw = none) (hw : H pw = some (.lst [x, .ref pc])) (hc : B pc = some (.lst (sts cs))) (nm : Nms cs) (l1 : 1 ≤ cs.length) (l8 : cs.length ≤ 8) (dx : Deep2 H x) (ne : ∀ p, x = .ref p → p ≠ pw) (bx : j ≤ 10 → ∀ ps, ¬ PartsOK H x ps)
    (q : ∀ H', Same B H' → D.nx [s0, s1, some (.ref pc), s3, some (.int n), some (.ref pw), some (.int (j : Int))] H') :
    tl_two E D [s0, s1, some (.ref pc), s3, some (.int n), some (.ref pw), some (.int (j : Int))] H := by
  refine br_dec (fun h => ?_) (fun h => ?_)
  · refine ⟨⟨by decide, by decide⟩, pc, _, cs, rfl, sB _ _ hc, nm, l1, l8, fun y G1 s1 by_ => ?_⟩
    refine setL_i (s1 _ _ hw) (j := 1) rfl ?_
    have bc := BadC.put (s1 _ _ hw) (dx.1.same s1) by_
    exact r_tl_ref upd_same (Deep2.put (s1 _ _ hw) (Deep2.same dx s1) ne) bc.1 (.inr bc.2) fun H' s' => q H' (((sB.trans s1).put nw).trans s')
  · exact r_tl_ref hw dx (deep_pc (sB _ _ hc) nm) (.inl (bx (by omega))) fun H' s' => q H' (sB.trans s')
theorem r_tl_body {s0 s3 : Option V} {pl pc pw : Addr} {xs : List V} {ps : List (Str × Str)} {cs : List Str} {n : Int} {j : Nat} {B H : Hp} {D : Ends} {E : XK} (sB : Same B H) (nw : B pw = none) (hw : H pw = some (.lst [.ref pl, .ref pc])) (hl : B pl = some (.lst xs)) (pa : PairsAt B xs ps) (g : Good ps) (hB : ∀ r ∈ ps, Bz r.1) (hc : B pc = some (.lst (sts cs))) (nm : Nms cs) (l1 : 1 ≤ cs.length) (l8 : cs.length ≤ 8) (hj : j < 16)
    (q : ∀ H', Same B H' → D.nx [s0, some (.ref pl), some (.ref pc), s3, some (.int n), some (.ref pw), some (.int (j : Int))] H') :
    tl_body E D [s0, some (.ref pl), some (.ref pc), s3, some (.int n), some (.ref pw), some (.int (j : Int))] H := by
  have npl : pl ≠ pw := fun e => by rw [← e, hl] at nw; cases nw
  have set0 : ∀ (x : V) (G : Hp), Same H G → Deep2 G x → (∀ ps, ¬ PartsOK G x ps) → (∀ p, x = .ref p → H p = none) → setG (.ref pw) (.int 0) x G fun G2 => tl_two E D [s0, some (.ref pl), some (.ref pc), s3, some (.int n), some (.ref pw), some (.int (j : Int))] G2 := fun x G sm dx bx fx => by
    have ne : ∀ p, x = .ref p → p ≠ pw := fun p e e2 => by
      have := fx p e
      rw [e2, hw] at this
      cases this
    exact setL_i (sm _ _ hw) (j := 0) rfl (r_tl_two ((sB.trans sm).put nw) nw upd_same hc nm l1 l8 (Deep2.put (sm _ _ hw) dx ne) ne (fun _ => BadP.put bx ne) q)
  have part : tCall sp_bad_part [] E (tCons (gv 1) (tCons (tOp fdivG (gv 4) (tC (.int 16))) tNil)) [s0, some (.ref pl), some (.ref pc), s3, some (.int n), some (.ref pw), some (.int (j : Int))] H fun x G => setG (.ref pw) (.int 0) x G fun G2 => tl_two E D [s0, some (.ref pl), some (.ref pc), s3, some (.int n), some (.ref pw), some (.int (j : Int))] G2 := by
    refine ⟨⟨by decide, by decide⟩, pl, _, xs, ps, rfl, sB _ _ hl, pa.same sB, g, hB, fun p ys H' s' h1 h2 h3 f => set0 _ _ s' h2 (fun ps' ⟨p', ys', e, k1, k2, k3⟩ => ?_) fun p' e => by cases e; exact f⟩
    cases e
    rw [h1] at k1
    cases k1
    exact h3 ps' k2 k3
  refine br_dec (fun h9 => br_t rfl part) (fun h9 => br_of (fun h15 => part) (fun h15 => br_dec (fun h11 => ?_) (fun h11 => ?_)))
  · exact ⟨⟨by decide, by decide⟩, pl, _, xs, ps, rfl, sB _ _ hl, pa.same sB, g, fun x H' s' h2 f => set0 x H' s' h2.1 h2.2 f⟩
  · exact r_tl_two sB nw hw hc nm l1 l8 (deep_pl (sB _ _ hl) (pa.same sB) g) (fun p e => by cases e; exact npl) (fun h => by omega) q
theorem houseM {H : Hp} {x : Addr} {ps : List (Str × Str)} {cs : List Str} {m : Str} {R : Prop} (h : HouseAt cl H x ps cs) (hm : ∀ a c b, (fsH a c b).lookup m = none) (q : R) : methK cl m (.ref x) H R := by
  obtain ⟨_, _, _, _, dx, a, c, b, bs, e1, _⟩ := h
  exact meth_i e1 (hm a c b) q
theorem r_tl_end {pl pc : Addr} {s0 s3 s4 s5 s6 : Option V} {xs : List V} {ps : List (Str × Str)} {cs : List Str} {H : Hp} {D : Ends} {E : XK} (hl : H pl = some (.lst xs)) (pa : PairsAt H xs ps) (g : Good ps) (hc : H pc = some (.lst (sts cs))) (nm : Nms cs) (l1 : 1 ≤ cs.length) (l8 : cs.length ≤ 8) (q : ∀ H', D.rt (.bl true) H') :
    tl_end cl NH E D [s0, some (.ref pl), some (.ref pc), s3, s4, s5, s6] H := by
  intro x dx nx ndx _
  refine make_E ⟨pl, xs, rfl, hl, pa, g⟩ ⟨pc, rfl, hc, nm, l1, l8⟩ nx ndx fun G1 s1 h1 => ⟨rfl, houseM h1 (fun _ _ _ => rfl) ⟨x, ps, cs, rfl, h1, fun p1 G2 s2 n2 t2 => ?_⟩⟩
  have S2 := s1.trans s2
  refine listL_i (S2 _ _ hl) (new_i fun q1 G3 n3 s3 t3 => listL_i (s3 _ _ (S2 _ _ hc)) (new_i fun q2 G4 n4 s4 t4 => ?_))
  intro y dy ny ndy _
  refine make_E ⟨q1, xs, rfl, s4 _ _ t3, pa.same ((S2.trans s3).trans s4), g⟩ ⟨q2, rfl, t4, nm, l1, l8⟩ ny ndy fun G5 s5 h5 => ⟨rfl, houseM h5 (fun _ _ _ => rfl) ⟨y, ps, cs, rfl, h5, fun p2 G6 s6 n6 t6 => ?_⟩⟩
  refine eqS_i ((((s3.trans s4).trans s5).trans s6) _ _ t2) t6 ?_
  rw [show decide (rowsOf ps = rowsOf ps) = true from decide_eq_true rfl]
  exact q _
theorem cut_mapE {α β : Type} (f : α → V) (xs : List α) (lo hi : Option Int) : ∃ ys : List α, cutV (xs.map f) lo hi = ys.map f ∧ ys.length ≤ xs.length := by
  refine ⟨((xs.drop (HT.sIx xs.length 0 lo)).take (HT.sIx xs.length xs.length hi - HT.sIx xs.length 0 lo)), ?_, ?_⟩
  · unfold cutV
    rw [List.length_map, List.map_take, List.map_drop]
  · rw [List.length_take, List.length_drop]
    omega
theorem r3_law {a : Addr} {ns : List Int} {H : Hp} {D : Ends} {E : XK} (hS : SqL K H a (ns.map V.int)) (hlen : ns.length ≤ 63) (q : ∀ H', D.rt (.bl true) H') : t3_law K cl NH E D [some (.ref a), none, none, none, none, none, none] H := by
  have hs := sz
  refine ⟨a, ns, rfl, hS, fun pl xs ps G1 s1 n1 t1 pa g hB => ?_⟩
  refine ⟨a, ns, rfl, s1.seq hS, fun pc cs G2 s2 n2 t2 c1 c8 nm => ?_⟩
  have g2 := g.many
  intro x dx nx ndx _
  have hl2 := s2 _ _ t1
  have pa2 := pa.same s2
  refine make_E ⟨pl, xs, rfl, hl2, pa2, g⟩ ⟨pc, rfl, t2, nm, c1, c8⟩ nx ndx fun G3 s3 h3 => ⟨rfl, houseM h3 (fun _ _ _ => rfl) ⟨x, ps, cs, rfl, h3, fun p4 G4 s4 n4 t4 => ?_⟩⟩
  refine eqS_i t4 ((s3.trans s4) _ _ t2) (br_f (by rw [show decide (cs = cs) = true from decide_eq_true rfl]; rfl) ?_)
  have S4 := ((s1.trans s2).trans s3).trans s4
  have s24 := s3.trans s4
  refine sFor_i ⟨a, ns, 1, rfl, S4.seq hS, by decide, ?_⟩
  refine ⟨few rfl, new_i fun p5 G5 n5 s5 t5 => ?_⟩
  refine ⟨a, _, rfl, s5.seq (S4.seq hS), new_i fun p6 G6 n6 s6 t6 => ?_⟩
  obtain ⟨ys, e, hy⟩   := cut_mapE (β := Int) V.int ns (some 2) (some 61)
  rw [e] at t6
  refine addL_i (s6 _ _ t5) t6 (by simp; omega) (new_i fun p7 G7 n7 s7 t7 => ?_)
  have s47 := (s5.trans s6).trans s7
  have hl7 := (s24.trans s47) _ _ hl2
  have hc7 := (s24.trans s47) _ _ t2
  have pa7 := pa2.same (s24.trans s47)
  refine iterL_i t7 (loop_lst (fun i σ G => ∃ v3 v4 v5 v6, σ = [some (.ref a), some (.ref pl), some (.ref pc), v3, v4, v5, v6] ∧ Same G7 G) ⟨_, _, _, _, rfl, Same.refl _⟩ (fun i σ G _ ⟨_, _, _, _, e, s⟩ => s _ _ t7) ?_ ?_)
  · rintro i z σ G hz ⟨v3, v4, v5, v6, rfl, sG⟩
    obtain ⟨n, rfl⟩ : ∃ n, z = .int n := by
      have := List.mem_of_getElem? hz
      rcases List.mem_append.mp this with h | h
      · exact ⟨_, by simpa using h⟩
      · obtain ⟨n, _, e⟩ := List.mem_map.mp h
        exact ⟨n, e.symm⟩
    have hl := sG _ _ hl7
    have hc := sG _ _ hc7
    have pa' := pa7.same sG
    refine ⟨⟨by decide, by decide, by decide⟩, by decide, mul_small (by decide) (by decide), by decide, few rfl, new_i fun pw G8 n8 s8 t8 => ⟨by decide, ?_⟩⟩
    obtain ⟨j, hj, hjl⟩ := mod_nat ((n % 10 ^ Int.toNat 30 + 5) * 48271 % 2147483647) (n := 16) (by decide)
    have hj : (n % 10 ^ Int.toNat 30 + 5) * 48271 % 2147483647 % 16 = (j : Int) := hj
    rw [hj]
    exact r_tl_body s8 n8 t8 hl pa' g hB hc nm c1 c8 hjl fun H' s' => ⟨_, _, _, _, rfl, sG.trans s'⟩
  · rintro σ G ⟨v3, v4, v5, v6, rfl, sG⟩
    exact r_tl_end (sG _ _ hl7) (pa7.same sG) g (sG _ _ hc7) nm c1 c8 q
end
end R
end Tv

set_option Elab.async false
set_option linter.all false
set_option maxRecDepth 100000
set_option maxHeartbeats 4000000
namespace P03
open PySem PySem.Spec PyProof.Rows L2 Tv
def top (i : Nat) : Stmt := PySem.Challenge.pw_tallyveil_k03_no_house.main.body.getD i (.Pass ⟨0, 0, 0, 0⟩)
abbrev s_name : Stmt := top 9
theorem sc_name : FnScope ["thing"] ["thing"] (defScope s_name) := ⟨rfl, rfl, rfl, by decide +kernel, rfl, by decide +kernel, by decide +kernel⟩
abbrev s_plain : Stmt := top 15
theorem sc_plain : FnScope ["text"] ["text"] (defScope s_plain) := ⟨rfl, rfl, rfl, by decide +kernel, rfl, by decide +kernel, by decide +kernel⟩
abbrev s_cname : Stmt := top 13
theorem sc_cname : FnScope ["thing", "ahead", "name"] ["thing", "ahead"] (defScope s_cname) := ⟨rfl, rfl, rfl, by decide +kernel, rfl, by decide +kernel, by decide +kernel⟩
abbrev s_cabove : Stmt := top 14
theorem sc_cabove : FnScope ["thing", "ahead", "above"] ["thing", "ahead"] (defScope s_cabove) := ⟨rfl, rfl, rfl, by decide +kernel, rfl, by decide +kernel, by decide +kernel⟩
abbrev s_ccols : Stmt := top 12
theorem sc_ccols : FnScope ["columns", "names", "column"] ["columns"] (defScope s_ccols) := ⟨rfl, rfl, rfl, by decide +kernel, rfl, by decide +kernel, by decide +kernel⟩
abbrev s_cparts : Stmt := top 11
theorem sc_cparts : FnScope ["parts", "above_of", "part", "name", "above"] ["parts"] (defScope s_cparts) := ⟨rfl, rfl, rfl, by decide +kernel, rfl, by decide +kernel, by decide +kernel⟩
abbrev s_turned : Stmt := top 16
theorem sc_turned : FnScope ["above_of", "beneath_of", "part", "above"] ["above_of"] (defScope s_turned) := ⟨rfl, rfl, rfl, by decide +kernel, rfl, by decide +kernel, by decide +kernel⟩
abbrev s_init : Stmt := inClass (top 10) 0
theorem sc_init : FnScope ["self", "parts", "columns"] ["self", "parts", "columns"] (defScope s_init) := ⟨rfl, rfl, rfl, by decide +kernel, rfl, by decide +kernel, by decide +kernel⟩
abbrev s_mrows : Stmt := inClass (top 10) 2
theorem sc_mrows : FnScope ["self"] ["self"] (defScope s_mrows) := ⟨rfl, rfl, rfl, by decide +kernel, rfl, by decide +kernel, by decide +kernel⟩
abbrev s_mcols : Stmt := inClass (top 10) 3
theorem sc_mcols : FnScope ["self"] ["self"] (defScope s_mcols) := ⟨rfl, rfl, rfl, by decide +kernel, rfl, by decide +kernel, by decide +kernel⟩
abbrev s_cell : Stmt := top 18
theorem sc_cell : FnScope ["_law_script", "_law_k"] ["_law_script", "_law_k"] (defScope s_cell) := ⟨rfl, rfl, rfl, by decide +kernel, rfl, by decide +kernel, by decide +kernel⟩
abbrev s_lnames : Stmt := top 19
theorem sc_lnames : FnScope ["_law_cell", "_law_many", "_law_size", "_law_at", "_law_beside", "_law_short", "_law_names_here", "_law_k", "_law_name", "_law_j", "_law_number"] ["_law_cell", "_law_many"] (defScope s_lnames) := ⟨rfl, rfl, rfl, by decide +kernel, rfl, by decide +kernel, by decide +kernel⟩
abbrev s_lparts : Stmt := top 20
theorem sc_lparts : FnScope ["_law_script", "_law_many", "_law_names_here", "_law_parts_here", "_law_k", "_law_draw", "_law_above"] ["_law_script"] (defScope s_lparts) := ⟨rfl, rfl, rfl, by decide +kernel, rfl, by decide +kernel, by decide +kernel⟩
abbrev s_lcols : Stmt := top 21
theorem sc_lcols : FnScope ["_law_script"] ["_law_script"] (defScope s_lcols) := ⟨rfl, rfl, rfl, by decide +kernel, rfl, by decide +kernel, by decide +kernel⟩
abbrev s_bname : Stmt := top 22
theorem sc_bname : FnScope ["_law_cell", "_law_names_here", "_law_some"] ["_law_cell", "_law_names_here"] (defScope s_bname) := ⟨rfl, rfl, rfl, by decide +kernel, rfl, by decide +kernel, by decide +kernel⟩
abbrev s_bpart : Stmt := top 23
theorem sc_bpart : FnScope ["_law_parts_here", "_law_cell", "_law_names_here", "_law_at", "_law_name", "_law_above", "_law_way", "_law_wrong"] ["_law_parts_here", "_law_cell"] (defScope s_bpart) := ⟨rfl, rfl, rfl, by decide +kernel, rfl, by decide +kernel, by decide +kernel⟩
abbrev s_bcols : Stmt := top 24
theorem sc_bcols : FnScope ["_law_columns_here", "_law_cell", "_law_at", "_law_way"] ["_law_columns_here", "_law_cell"] (defScope s_bcols) := ⟨rfl, rfl, rfl, by decide +kernel, rfl, by decide +kernel, by decide +kernel⟩
abbrev s_blist : Stmt := top 25
theorem sc_blist : FnScope ["_law_parts_here", "_law_cell", "_law_names_here"] ["_law_parts_here", "_law_cell"] (defScope s_blist) := ⟨rfl, rfl, rfl, by decide +kernel, rfl, by decide +kernel, by decide +kernel⟩
abbrev s_refused : Stmt := top 26
theorem sc_refused : FnScope ["_law_parts_here", "_law_columns_here", "_law_kinds", "_law_handed", "e"] ["_law_parts_here", "_law_columns_here"] (defScope s_refused) := ⟨rfl, rfl, rfl, by decide +kernel, rfl, by decide +kernel, by decide +kernel⟩
abbrev s_law : Stmt := top 27
theorem sc_law : FnScope ["_law_script", "_law_parts_here", "_law_columns_here", "_law_cell", "_law_number", "_law_wrong", "_law_way"] ["_law_script"] (defScope s_law) := ⟨rfl, rfl, rfl, by decide +kernel, rfl, by decide +kernel, by decide +kernel⟩
structure Txt (K : PySem.W.Frag) (mg : Str → Option Value) (C NH VE NT NX NP : Addr) : Prop where
  cl : Cls K C
  mC : mg "House" = some (.ref C)
  f_above_of : NoAttr K C "above_of"
  f_column_names : NoAttr K C "column_names"
  f_beneath_of : NoAttr K C "beneath_of"
  n_isinstance : mg "isinstance" = none
  n_str : mg "str" = none
  n_list : mg "list" = none
  n_tuple : mg "tuple" = none
  n_len : mg "len" = none
  n_all : mg "all" = none
  n_range : mg "range" = none
  n_max : mg "max" = none
  n_ValueError : mg "ValueError" = none
  g_ALL : ∃ t, mg "ALL" = some (.str "all" t)
  mNH : mg "NoHouse" = some (.ref NH)
  mVE : mg "VeilError" = some (.ref VE)
  mNT : mg "NoTable" = some (.ref NT)
  mNX : mg "NoText" = some (.ref NX)
  mNP : mg "NoPlace" = some (.ref NP)
  ec : ExcC K NH
  qVE : PySem.W.kitOne K (.ref NH) (.ref VE) = some true
  qV : PySem.W.kitOne K (.ref NH) (.type "ValueError") = some true
  qNT : PySem.W.kitOne K (.ref NH) (.ref NT) = some false
  qNX : PySem.W.kitOne K (.ref NH) (.ref NX) = some false
  qNP : PySem.W.kitOne K (.ref NH) (.ref NP) = some false
  hit : PySem.W.exmOne K (.ref NH) (.ref NH) = some true
def tabsE (C NH VE NT NX NP : Addr) (fns : List (Str × Sp)) (mks mts : List (Str × Addr × Sp)) : Tabs := { fns := fns, mks := mks, mts := mts, fld := [("above_of", C), ("column_names", C), ("beneath_of", C)], glo := [("ALL", .str "all"), ("NoHouse", .ref NH), ("VeilError", .ref VE), ("NoTable", .ref NT), ("NoText", .ref NX), ("NoPlace", .ref NP)], nog := ["isinstance", "str", "list", "tuple", "len", "all", "range", "max", "ValueError"], scr := ["_law_script"], exs := [("NoHouse", NH)], kit := R.kit3 NH VE NT NX NP, hit := [(NH, NH)], top := true }
def tabs (C : Addr) (fns : List (Str × Sp)) (mks mts : List (Str × Addr × Sp)) : Tabs := { fns := fns, mks := mks, mts := mts, fld := [("above_of", C), ("column_names", C), ("beneath_of", C)], glo := [("ALL", .str "all")], nog := ["isinstance", "str", "list", "tuple", "len", "all", "range", "max", "ValueError"], scr := ["_law_script"] }
section
variable {P : Program} {w : World} {K : PySem.W.Frag} {mg : Str → Option Value} {base : Heap} {C NH VE NT NX NP : Addr}
theorem lib {k : Nat} {fns : List (Str × Sp)} {mks mts : List (Str × Addr × Sp)} (T : Txt K mg C NH VE NT NX NP) (h : Ents (FnE P w K mg base CX0 k) fns) (hm : Ents (MkE P w K mg base CX0 k) mks) (ht : Ents (fun m p => p.1 = C ∧ MtE P w K mg base CX0 k m p) mts) : Lib P w K mg base CX0 k (tabs C fns mks mts) := by
  refine lib_cls T.cl h hm ht (.cons ⟨rfl, T.f_above_of⟩ (.cons ⟨rfl, T.f_column_names⟩ (.cons ⟨rfl, T.f_beneath_of⟩ (.nil)))) (fun x v e => ?_) (fun x hx => ?_)
  · have : Ents (fun x v => ∃ u, mg x = some u ∧ RelV v u) [("ALL", V.str "all")] := .cons (by obtain ⟨t, h⟩ := T.g_ALL; exact ⟨_, h, _, rfl⟩) (.nil)
    exact this.get x v e
  · simp only [tabs, List.mem_cons, List.not_mem_nil, or_false] at hx
    rcases hx with rfl | rfl | rfl | rfl | rfl | rfl | rfl | rfl | rfl
    · exact T.n_isinstance
    · exact T.n_str
    · exact T.n_list
    · exact T.n_tuple
    · exact T.n_len
    · exact T.n_all
    · exact T.n_range
    · exact T.n_max
    · exact T.n_ValueError
theorem libE {k : Nat} {fns : List (Str × Sp)} {mks mts : List (Str × Addr × Sp)} (T : Txt K mg C NH VE NT NX NP) (h : Ents (FnE P w K mg base (CXE P w) k) fns) (hm : Ents (MkE P w K mg base (CXE P w) k) mks) (ht : Ents (fun m p => p.1 = C ∧ MtE P w K mg base (CXE P w) k m p) mts) : Lib P w K mg base (CXE P w) k (tabsE C NH VE NT NX NP fns mks mts) := by
  refine lib_cls T.cl h hm ht (.cons ⟨rfl, T.f_above_of⟩ (.cons ⟨rfl, T.f_column_names⟩ (.cons ⟨rfl, T.f_beneath_of⟩ (.nil)))) (fun x v e => ?_) (fun x hx => ?_) (he := fun x cl e => ?_) (hk := fun p hp => ?_) (hh := fun p hp => ?_)
  · have : Ents (fun x v => ∃ u, mg x = some u ∧ RelV v u) [("ALL", V.str "all"), ("NoHouse", V.ref NH), ("VeilError", V.ref VE), ("NoTable", V.ref NT), ("NoText", V.ref NX), ("NoPlace", V.ref NP)] := .cons (by obtain ⟨t, h⟩ := T.g_ALL; exact ⟨_, h, _, rfl⟩) (.cons ⟨_, T.mNH, rfl⟩ (.cons ⟨_, T.mVE, rfl⟩ (.cons ⟨_, T.mNT, rfl⟩ (.cons ⟨_, T.mNX, rfl⟩ (.cons ⟨_, T.mNP, rfl⟩ (.nil))))))
    exact this.get x v e
  · simp only [tabsE, List.mem_cons, List.not_mem_nil, or_false] at hx
    rcases hx with rfl | rfl | rfl | rfl | rfl | rfl | rfl | rfl | rfl
    · exact T.n_isinstance
    · exact T.n_str
    · exact T.n_list
    · exact T.n_tuple
    · exact T.n_len
    · exact T.n_all
    · exact T.n_range
    · exact T.n_max
    · exact T.n_ValueError
  · have : Ents (fun x cl => mg x = some (.ref cl) ∧ ExcC K cl) [("NoHouse", NH)] := .cons ⟨T.mNH, T.ec⟩ .nil
    exact this.get x cl e
  · simp only [tabsE, R.kit3, List.mem_cons, List.not_mem_nil, or_false] at hp
    rcases hp with rfl | rfl | rfl | rfl | rfl
    · exact ⟨T.ec, fun u r => by cases r; exact T.qVE⟩
    · exact ⟨T.ec, fun u r => by cases r; exact T.qV⟩
    · exact ⟨T.ec, fun u r => by cases r; exact T.qNT⟩
    · exact ⟨T.ec, fun u r => by cases r; exact T.qNX⟩
    · exact ⟨T.ec, fun u r => by cases r; exact T.qNP⟩
  · rw [show p = (NH, NH) from List.mem_singleton.mp hp]
    exact T.hit
theorem FnE.lift {k : Nat} {x : Str} {sp : Sp} (h : FnE P w K mg base CX0 k x sp) : FnE P w K mg base (CXE P w) k x sp := by
  obtain ⟨f, fd, ps, F, r⟩ := h
  exact ⟨f, fd, ps, Tv.FnOk.lift F, r⟩
theorem MtE.lift {k : Nat} {x : Str} {p : Addr × Sp} (h : MtE P w K mg base CX0 k x p) : MtE P w K mg base (CXE P w) k x p := by
  obtain ⟨f, fd, ps, M, F, r⟩ := h
  exact ⟨f, fd, ps, M, Tv.FnOk.lift F, r⟩
theorem w_name : wSs (wp 40) (cfg (tabs C [] [] []) K ["thing"] (defScope s_name).names E0) (defBody s_name) = t_is_name := by kernel_rfl
theorem ok_name {f : Addr} {fd : FuncData} (A : DefAt K mg "is_name" s_name ["thing"] f fd) (T : Txt K mg C NH VE NT NX NP) : FnE P w K mg base CX0 2 "is_name" (sp_is_name) :=
  A.ok (k := 0) 40 sc_name (lib T (.nil) (.nil) (.nil)) (fun vs H Q E h => by obtain ⟨x, S, rfl, _⟩ := h; rfl) w_name (fun vs H Q E h => by obtain ⟨x, S, rfl, hk, hz, q⟩ := h; exact r_is_name hk hz q)
theorem w_plain : wSs (wp 40) (cfg (tabs C [] [] []) K ["text"] (defScope s_plain).names E0) (defBody s_plain) = t_plain_text := by kernel_rfl
theorem ok_plain {f : Addr} {fd : FuncData} (A : DefAt K mg "plain_text" s_plain ["text"] f fd) (T : Txt K mg C NH VE NT NX NP) : FnE P w K mg base CX0 2 "plain_text" (sp_plain_text) :=
  A.ok (k := 0) 40 sc_plain (lib T (.nil) (.nil) (.nil)) (fun vs H Q E h => by obtain ⟨z, rfl, _⟩ := h; rfl) w_plain (fun vs H Q E h => by obtain ⟨z, rfl, hz, q⟩ := h; exact r_plain_text hz q)
theorem w_cname : ∀ E, wSs (wp 40) (cfg (tabsE C NH VE NT NX NP [("is_name", sp_is_name), ("plain_text", sp_plain_text)] [] []) K ["thing", "ahead", "name"] (defScope s_cname).names E) (defBody s_cname) = (tE_checked_name NH) E := fun E => by kernel_rfl
theorem ok_cname {f : Addr} {fd : FuncData} (A : DefAt K mg "checked_name" s_cname ["thing", "ahead"] f fd) (T : Txt K mg C NH VE NT NX NP) (hname : FnE P w K mg base CX0 2 "is_name" (sp_is_name)) (hplain : FnE P w K mg base CX0 2 "plain_text" (sp_plain_text)) : FnE P w K mg base (CXE P w) 4 "checked_name" (spE_checked_name NH) :=
  A.okE (k := 2) 40 sc_cname (libE T (.cons ((FnE.lift hname).mono (by decide)) (.cons ((FnE.lift hplain).mono (by decide)) (.nil))) (.nil) (.nil)) (fun vs H Q E h => by obtain ⟨z, l, ys, rfl, _⟩ := h; rfl) w_cname (fun vs H Q E h => by obtain ⟨z, l, ys, rfl, hl, ht, q, qe⟩ := h; exact rE_checked_name hl ht q qe)
theorem w_cabove : ∀ E, wSs (wp 40) (cfg (tabsE C NH VE NT NX NP [("plain_text", sp_plain_text)] [] []) K ["thing", "ahead", "above"] (defScope s_cabove).names E) (defBody s_cabove) = (tE_checked_above NH) E := fun E => by kernel_rfl
theorem ok_cabove {f : Addr} {fd : FuncData} (A : DefAt K mg "checked_above" s_cabove ["thing", "ahead"] f fd) (T : Txt K mg C NH VE NT NX NP) (hplain : FnE P w K mg base CX0 2 "plain_text" (sp_plain_text)) : FnE P w K mg base (CXE P w) 4 "checked_above" (spE_checked_above NH) :=
  A.okE (k := 2) 40 sc_cabove (libE T (.cons ((FnE.lift hplain).mono (by decide)) (.nil)) (.nil) (.nil)) (fun vs H Q E h => by obtain ⟨z, l, ys, rfl, _⟩ := h; rfl) w_cabove (fun vs H Q E h => by obtain ⟨z, l, ys, rfl, hl, ht, q, qe⟩ := h; exact rE_checked_above hl ht q qe)
theorem w_ccols : ∀ E, wSs (wp 40) (cfg (tabsE C NH VE NT NX NP [("checked_name", spE_checked_name NH)] [] []) K ["columns", "names", "column"] (defScope s_ccols).names E) (defBody s_ccols) = (tE_checked_columns NH) E := fun E => by kernel_rfl
theorem ok_ccols {f : Addr} {fd : FuncData} (A : DefAt K mg "checked_columns" s_ccols ["columns"] f fd) (T : Txt K mg C NH VE NT NX NP) (hcname : FnE P w K mg base (CXE P w) 4 "checked_name" (spE_checked_name NH)) : FnE P w K mg base (CXE P w) 6 "checked_columns" (spE_checked_columns NH) :=
  A.okE (k := 4) 40 sc_ccols (libE T (.cons (hcname.mono (by decide)) (.nil)) (.nil) (.nil)) (fun vs H Q E h => by obtain ⟨x, rfl, _⟩ := h; rfl) w_ccols (fun vs H Q E h => by obtain ⟨x, rfl, ht, q, qe⟩ := h; exact rE_checked_columns ht q qe)
theorem w_cparts : ∀ E, wSs (wp 40) (cfg (tabsE C NH VE NT NX NP [("checked_name", spE_checked_name NH), ("checked_above", spE_checked_above NH)] [] []) K ["parts", "above_of", "part", "name", "above"] (defScope s_cparts).names E) (defBody s_cparts) = (tE_checked_parts NH) E := fun E => by kernel_rfl
theorem ok_cparts {f : Addr} {fd : FuncData} (A : DefAt K mg "checked_parts" s_cparts ["parts"] f fd) (T : Txt K mg C NH VE NT NX NP) (hcname : FnE P w K mg base (CXE P w) 4 "checked_name" (spE_checked_name NH)) (hcabove : FnE P w K mg base (CXE P w) 4 "checked_above" (spE_checked_above NH)) : FnE P w K mg base (CXE P w) 6 "checked_parts" (spE_checked_parts NH) :=
  A.okE (k := 4) 40 sc_cparts (libE T (.cons (hcname.mono (by decide)) (.cons (hcabove.mono (by decide)) (.nil))) (.nil) (.nil)) (fun vs H Q E h => by obtain ⟨x, rfl, _⟩ := h; rfl) w_cparts (fun vs H Q E h => by obtain ⟨x, rfl, ht, q, qe⟩ := h; exact rE_checked_parts ht q qe)
theorem w_turned : wSs (wp 40) (cfg (tabs C [] [] []) K ["above_of", "beneath_of", "part", "above"] (defScope s_turned).names E0) (defBody s_turned) = t_turned_about := by kernel_rfl
theorem ok_turned {f : Addr} {fd : FuncData} (A : DefAt K mg "turned_about" s_turned ["above_of"] f fd) (T : Txt K mg C NH VE NT NX NP) : FnE P w K mg base CX0 2 "turned_about" (sp_turned_about) :=
  A.ok (k := 0) 40 sc_turned (lib T (.nil) (.nil) (.nil)) (fun vs H Q E h => by obtain ⟨a, ps, rfl, _⟩ := h; rfl) w_turned (fun vs H Q E h => by obtain ⟨a, ps, rfl, ha, g, q⟩ := h; exact r_turned_about ha g q)
theorem w_init : ∀ E, wSs (wp 40) (cfg (tabsE C NH VE NT NX NP [("checked_parts", spE_checked_parts NH), ("checked_columns", spE_checked_columns NH), ("turned_about", sp_turned_about)] [] []) K ["self", "parts", "columns"] (defScope s_init).names E) (defBody s_init) = (tE_init C NH) E := fun E => by kernel_rfl
theorem ok_init {f : Addr} {fd : FuncData} (M : Mk K C f) (F : Fun K "__init__" "House.__init__" s_init f fd) (b : Binds K fd ["self", "parts", "columns"] []) (T : Txt K mg C NH VE NT NX NP) (hcparts : FnE P w K mg base (CXE P w) 6 "checked_parts" (spE_checked_parts NH)) (hccols : FnE P w K mg base (CXE P w) 6 "checked_columns" (spE_checked_columns NH)) (hturned : FnE P w K mg base CX0 2 "turned_about" (sp_turned_about)) : MkE P w K mg base (CXE P w) 8 "House" (C, spE_init C NH) :=
  MkE.mkE (k := 6) M T.mC F b 40 sc_init (libE T (.cons (hcparts.mono (by decide)) (.cons (hccols.mono (by decide)) (.cons ((FnE.lift hturned).mono (by decide)) (.nil)))) (.nil) (.nil)) (fun vs H Q E h => by obtain ⟨x, dx, p, c, rfl, _⟩ := h; rfl) w_init (fun vs H Q E h => by obtain ⟨x, dx, p, c, rfl, hx, tp, tc, q, qe⟩ := h; exact rE_init hx tp tc q qe)
theorem w_mrows : wSs (wp 40) (cfg (tabs C [] [] []) K ["self"] (defScope s_mrows).names E0) (defBody s_mrows) = t_House_rows C := by kernel_rfl
theorem ok_mrows {f : Addr} {fd : FuncData} (M : Meth K C "rows" f) (F : Fun K "rows" "House.rows" s_mrows f fd) (b : Binds K fd ["self"] []) (T : Txt K mg C NH VE NT NX NP) : MtE P w K mg base CX0 2 "rows" (C, sp_rows C) :=
  MtE.mk (k := 0) M F b 40 sc_mrows (lib T (.nil) (.nil) (.nil)) (fun vs H Q E h => by obtain ⟨x, ps, cs, rfl, _⟩ := h; rfl) w_mrows (fun vs H Q E h => by obtain ⟨x, ps, cs, rfl, hh, q⟩ := h; exact r_House_rows hh q)
theorem w_mcols : wSs (wp 40) (cfg (tabs C [] [] []) K ["self"] (defScope s_mcols).names E0) (defBody s_mcols) = t_House_columns C := by kernel_rfl
theorem ok_mcols {f : Addr} {fd : FuncData} (M : Meth K C "columns" f) (F : Fun K "columns" "House.columns" s_mcols f fd) (b : Binds K fd ["self"] []) (T : Txt K mg C NH VE NT NX NP) : MtE P w K mg base CX0 2 "columns" (C, sp_columns C) :=
  MtE.mk (k := 0) M F b 40 sc_mcols (lib T (.nil) (.nil) (.nil)) (fun vs H Q E h => by obtain ⟨x, ps, cs, rfl, _⟩ := h; rfl) w_mcols (fun vs H Q E h => by obtain ⟨x, ps, cs, rfl, hh, q⟩ := h; exact r_House_columns hh q)
theorem w_cell : wSs (wp 40) (cfg (tabs C [] [] []) K ["_law_script", "_law_k"] (defScope s_cell).names E0) (defBody s_cell) = t_law_cell_at K := by kernel_rfl
theorem ok_cell {f : Addr} {fd : FuncData} (A : DefAt K mg "_law_cell_at" s_cell ["_law_script", "_law_k"] f fd) (T : Txt K mg C NH VE NT NX NP) : FnE P w K mg base CX0 2 "_law_cell_at" (sp_law_cell_at K) :=
  A.ok (k := 0) 40 sc_cell (lib T (.nil) (.nil) (.nil)) (fun vs H Q E h => by obtain ⟨a, ns, k, rfl, _⟩ := h; rfl) w_cell (fun vs H Q E h => by obtain ⟨a, ns, k, rfl, hS, hk, q⟩ := h; exact r_law_cell_at hS hk q)
theorem w_lnames : wSs (wp 40) (cfg (tabs C [] [] []) K ["_law_cell", "_law_many", "_law_size", "_law_at", "_law_beside", "_law_short", "_law_names_here", "_law_k", "_law_name", "_law_j", "_law_number"] (defScope s_lnames).names E0) (defBody s_lnames) = t_law_names := by kernel_rfl
theorem ok_lnames {f : Addr} {fd : FuncData} (A : DefAt K mg "_law_names" s_lnames ["_law_cell", "_law_many"] f fd) (T : Txt K mg C NH VE NT NX NP) : FnE P w K mg base CX0 2 "_law_names" (sp_law_namesB) :=
  A.ok (k := 0) 40 sc_lnames (lib T (.nil) (.nil) (.nil)) (fun vs H Q E h => by obtain ⟨c, m, rfl, _⟩ := h; rfl) w_lnames (fun vs H Q E h => by obtain ⟨c, m, rfl, h0, h24, q⟩ := h; exact r_law_namesB h0 h24 q)
theorem w_lparts : wSs (wp 40) (cfg (tabs C [("_law_cell_at", sp_law_cell_at K), ("_law_names", sp_law_namesB)] [] []) K ["_law_script", "_law_many", "_law_names_here", "_law_parts_here", "_law_k", "_law_draw", "_law_above"] (defScope s_lparts).names E0) (defBody s_lparts) = t_law_partsB K := by kernel_rfl
theorem ok_lparts {f : Addr} {fd : FuncData} (A : DefAt K mg "_law_parts" s_lparts ["_law_script"] f fd) (T : Txt K mg C NH VE NT NX NP) (hcell : FnE P w K mg base CX0 2 "_law_cell_at" (sp_law_cell_at K)) (hlnames : FnE P w K mg base CX0 2 "_law_names" (sp_law_namesB)) : FnE P w K mg base CX0 4 "_law_parts" (sp_law_partsB K) :=
  A.ok (k := 2) 40 sc_lparts (lib T (.cons (hcell.mono (by decide)) (.cons (hlnames.mono (by decide)) (.nil))) (.nil) (.nil)) (fun vs H Q E h => by obtain ⟨a, ns, rfl, _⟩ := h; rfl) w_lparts (fun vs H Q E h => by obtain ⟨a, ns, rfl, hS, q⟩ := h; exact r_law_partsB hS q)
theorem w_lcols : wSs (wp 40) (cfg (tabs C [("_law_cell_at", sp_law_cell_at K), ("_law_names", sp_law_namesB)] [] []) K ["_law_script"] (defScope s_lcols).names E0) (defBody s_lcols) = t_law_columnsB K := by kernel_rfl
theorem ok_lcols {f : Addr} {fd : FuncData} (A : DefAt K mg "_law_columns" s_lcols ["_law_script"] f fd) (T : Txt K mg C NH VE NT NX NP) (hcell : FnE P w K mg base CX0 2 "_law_cell_at" (sp_law_cell_at K)) (hlnames : FnE P w K mg base CX0 2 "_law_names" (sp_law_namesB)) : FnE P w K mg base CX0 4 "_law_columns" (sp_law_columns K) :=
  A.ok (k := 2) 40 sc_lcols (lib T (.cons (hcell.mono (by decide)) (.cons (hlnames.mono (by decide)) (.nil))) (.nil) (.nil)) (fun vs H Q E h => by obtain ⟨a, ns, rfl, _⟩ := h; rfl) w_lcols (fun vs H Q E h => by obtain ⟨a, ns, rfl, hS, q⟩ := h; exact r_law_columnsB hS q)
theorem w_bname : wSs (wp 40) (cfg (tabs C [] [] []) K ["_law_cell", "_law_names_here", "_law_some"] (defScope s_bname).names E0) (defBody s_bname) = R.t_bad_name := by kernel_rfl
theorem ok_bname {f : Addr} {fd : FuncData} (A : DefAt K mg "_law_bad_name" s_bname ["_law_cell", "_law_names_here"] f fd) (T : Txt K mg C NH VE NT NX NP) : FnE P w K mg base CX0 2 "_law_bad_name" (R.sp_bad_name) :=
  A.ok (k := 0) 40 sc_bname (lib T (.nil) (.nil) (.nil)) (fun vs H Q E h => by obtain ⟨c, l, zs, rfl, _⟩ := h; rfl) w_bname (fun vs H Q E h => by obtain ⟨c, l, zs, rfl, hl, h1, hz, hw, q⟩ := h; exact R.r_bad_name hl h1 hz hw q)
theorem w_bpart : wSs (wp 40) (cfg (tabs C [("_law_bad_name", R.sp_bad_name)] [] []) K ["_law_parts_here", "_law_cell", "_law_names_here", "_law_at", "_law_name", "_law_above", "_law_way", "_law_wrong"] (defScope s_bpart).names E0) (defBody s_bpart) = R.t_bad_part := by kernel_rfl
theorem ok_bpart {f : Addr} {fd : FuncData} (A : DefAt K mg "_law_bad_part" s_bpart ["_law_parts_here", "_law_cell"] f fd) (T : Txt K mg C NH VE NT NX NP) (hbname : FnE P w K mg base CX0 2 "_law_bad_name" (R.sp_bad_name)) : FnE P w K mg base CX0 4 "_law_bad_part" (R.sp_bad_part) :=
  A.ok (k := 2) 40 sc_bpart (lib T (.cons (hbname.mono (by decide)) (.nil)) (.nil) (.nil)) (fun vs H Q E h => by obtain ⟨pl, c, xs, ps, rfl, _⟩ := h; rfl) w_bpart (fun vs H Q E h => by obtain ⟨pl, c, xs, ps, rfl, hl, pa, g, hB, q⟩ := h; exact R.r_bad_part hl pa g hB q)
theorem w_bcols : wSs (wp 40) (cfg (tabs C [("_law_bad_name", R.sp_bad_name)] [] []) K ["_law_columns_here", "_law_cell", "_law_at", "_law_way"] (defScope s_bcols).names E0) (defBody s_bcols) = R.t_bad_columns := by kernel_rfl
theorem ok_bcols {f : Addr} {fd : FuncData} (A : DefAt K mg "_law_bad_columns" s_bcols ["_law_columns_here", "_law_cell"] f fd) (T : Txt K mg C NH VE NT NX NP) (hbname : FnE P w K mg base CX0 2 "_law_bad_name" (R.sp_bad_name)) : FnE P w K mg base CX0 4 "_law_bad_columns" (R.sp_bad_columns) :=
  A.ok (k := 2) 40 sc_bcols (lib T (.cons (hbname.mono (by decide)) (.nil)) (.nil) (.nil)) (fun vs H Q E h => by obtain ⟨l, c, cs, rfl, _⟩ := h; rfl) w_bcols (fun vs H Q E h => by obtain ⟨l, c, cs, rfl, hl, nm, l1, l8, q⟩ := h; exact R.r_bad_columns hl nm l1 l8 q)
theorem w_blist : wSs (wp 40) (cfg (tabs C [] [] []) K ["_law_parts_here", "_law_cell", "_law_names_here"] (defScope s_blist).names E0) (defBody s_blist) = R.t_bad_list := by kernel_rfl
theorem ok_blist {f : Addr} {fd : FuncData} (A : DefAt K mg "_law_bad_list" s_blist ["_law_parts_here", "_law_cell"] f fd) (T : Txt K mg C NH VE NT NX NP) : FnE P w K mg base CX0 2 "_law_bad_list" (R.sp_bad_list) :=
  A.ok (k := 0) 40 sc_blist (lib T (.nil) (.nil) (.nil)) (fun vs H Q E h => by obtain ⟨pl, c, xs, ps, rfl, _⟩ := h; rfl) w_blist (fun vs H Q E h => by obtain ⟨pl, c, xs, ps, rfl, hl, pa, g, q⟩ := h; exact R.r_bad_list hl pa g q)
theorem w_refused : ∀ E, wSs (wp 40) (cfg (tabsE C NH VE NT NX NP [] [("House", C, spE_init C NH)] []) K ["_law_parts_here", "_law_columns_here", "_law_kinds", "_law_handed", "e"] (defScope s_refused).names E) (defBody s_refused) = (fun _ => R.t_refused C NH VE NT NX NP) E := fun E => by kernel_rfl
theorem ok_refused {f : Addr} {fd : FuncData} (A : DefAt K mg "_law_refused" s_refused ["_law_parts_here", "_law_columns_here"] f fd) (T : Txt K mg C NH VE NT NX NP) (hinit : MkE P w K mg base (CXE P w) 8 "House" (C, spE_init C NH)) : FnE P w K mg base (CXE P w) 10 "_law_refused" (R.sp_refused) :=
  A.okE (k := 8) 40 sc_refused (libE T (.nil) (.cons (hinit.mono (by decide)) (.nil)) (.nil)) (fun vs H Q E h => by obtain ⟨x, y, rfl, _⟩ := h; rfl) w_refused (fun vs H Q E h => by obtain ⟨x, y, rfl, dx, dy, bad, q⟩ := h; exact R.r_refused dx dy bad q)
theorem w_law : ∀ E, wSs (wp 40) (cfg (tabsE C NH VE NT NX NP [("_law_parts", sp_law_partsB K), ("_law_columns", sp_law_columns K), ("_law_cell_at", sp_law_cell_at K), ("_law_bad_part", R.sp_bad_part), ("_law_bad_list", R.sp_bad_list), ("_law_bad_columns", R.sp_bad_columns), ("_law_refused", R.sp_refused)] [("House", C, spE_init C NH)] [("columns", C, sp_columns C), ("rows", C, sp_rows C)]) K ["_law_script", "_law_parts_here", "_law_columns_here", "_law_cell", "_law_number", "_law_wrong", "_law_way"] (defScope s_law).names E) (defBody s_law) = (R.t3_law K C NH) E := fun E => by kernel_rfl
theorem ok_law {f : Addr} {fd : FuncData} (F : Fun K "law" "law" s_law f fd) (T : Txt K mg C NH VE NT NX NP) (hlparts : FnE P w K mg base CX0 4 "_law_parts" (sp_law_partsB K)) (hlcols : FnE P w K mg base CX0 4 "_law_columns" (sp_law_columns K)) (hcell : FnE P w K mg base CX0 2 "_law_cell_at" (sp_law_cell_at K)) (hbpart : FnE P w K mg base CX0 4 "_law_bad_part" (R.sp_bad_part)) (hblist : FnE P w K mg base CX0 2 "_law_bad_list" (R.sp_bad_list)) (hbcols : FnE P w K mg base CX0 4 "_law_bad_columns" (R.sp_bad_columns)) (hrefused : FnE P w K mg base (CXE P w) 10 "_law_refused" (R.sp_refused)) (hinit : MkE P w K mg base (CXE P w) 8 "House" (C, spE_init C NH)) (hmcols : MtE P w K mg base CX0 2 "columns" (C, sp_columns C)) (hmrows : MtE P w K mg base CX0 2 "rows" (C, sp_rows C)) : FnOk P w K mg base (CXE P w) 12 f fd ["_law_script"] (spLaw K) :=
  fn_wpE (k := 10) 40 F sc_law (libE T (.cons ((FnE.lift hlparts).mono (by decide)) (.cons ((FnE.lift hlcols).mono (by decide)) (.cons ((FnE.lift hcell).mono (by decide)) (.cons ((FnE.lift hbpart).mono (by decide)) (.cons ((FnE.lift hblist).mono (by decide)) (.cons ((FnE.lift hbcols).mono (by decide)) (.cons (hrefused.mono (by decide)) (.nil)))))))) (.cons (hinit.mono (by decide)) (.nil)) (.cons (⟨rfl, (MtE.lift hmcols).mono (by decide)⟩) (.cons (⟨rfl, (MtE.lift hmrows).mono (by decide)⟩) (.nil)))) (fun vs H Q E h => by obtain ⟨a, ns, rfl, _⟩ := h; rfl) w_law (fun vs H Q E h => by obtain ⟨a, ns, rfl, hS, hl, q⟩ := h; exact R.r3_law hS hl q)
end
theorem all_mk {l : PySem.W.OpenLaw} {w : World} {K : PySem.W.Frag} {h : Heap} {mg : Str → Option Value} {fa C NH VE NT NX NP : Addr} (X : K.In h) (G : h.Ns mainGlobals mg) (hfa : mg "law" = some (.ref fa))
    {fname : Addr} {ocname : Value} {odname anname : Option Addr} {slname : Array (Option Value)} {kVname dcname pmname cdname ctname : Value}
    {fplain : Addr} {ocplain : Value} {odplain anplain : Option Addr} {slplain : Array (Option Value)} {kVplain dcplain pmplain cdplain ctplain : Value}
    {fcname : Addr} {occname : Value} {odcname ancname : Option Addr} {slcname : Array (Option Value)} {kVcname dccname pmcname cdcname ctcname : Value}
    {fcabove : Addr} {occabove : Value} {odcabove ancabove : Option Addr} {slcabove : Array (Option Value)} {kVcabove dccabove pmcabove cdcabove ctcabove : Value}
    {fccols : Addr} {occcols : Value} {odccols anccols : Option Addr} {slccols : Array (Option Value)} {kVccols dcccols pmccols cdccols ctccols : Value}
    {fcparts : Addr} {occparts : Value} {odcparts ancparts : Option Addr} {slcparts : Array (Option Value)} {kVcparts dccparts pmcparts cdcparts ctcparts : Value}
    {fturned : Addr} {octurned : Value} {odturned anturned : Option Addr} {slturned : Array (Option Value)} {kVturned dcturned pmturned cdturned ctturned : Value}
    {finit : Addr} {ocinit : Value} {odinit aninit : Option Addr} {slinit : Array (Option Value)} {kVinit dcinit pminit cdinit ctinit : Value}
    {fmrows : Addr} {ocmrows : Value} {odmrows anmrows : Option Addr} {slmrows : Array (Option Value)} {kVmrows dcmrows pmmrows cdmrows ctmrows : Value}
    {fmcols : Addr} {ocmcols : Value} {odmcols anmcols : Option Addr} {slmcols : Array (Option Value)} {kVmcols dcmcols pmmcols cdmcols ctmcols : Value}
    {fcell : Addr} {occell : Value} {odcell ancell : Option Addr} {slcell : Array (Option Value)} {kVcell dccell pmcell cdcell ctcell : Value}
    {flnames : Addr} {oclnames : Value} {odlnames anlnames : Option Addr} {sllnames : Array (Option Value)} {kVlnames dclnames pmlnames cdlnames ctlnames : Value}
    {flparts : Addr} {oclparts : Value} {odlparts anlparts : Option Addr} {sllparts : Array (Option Value)} {kVlparts dclparts pmlparts cdlparts ctlparts : Value}
    {flcols : Addr} {oclcols : Value} {odlcols anlcols : Option Addr} {sllcols : Array (Option Value)} {kVlcols dclcols pmlcols cdlcols ctlcols : Value}
    {fbname : Addr} {ocbname : Value} {odbname anbname : Option Addr} {slbname : Array (Option Value)} {kVbname dcbname pmbname cdbname ctbname : Value}
    {fbpart : Addr} {ocbpart : Value} {odbpart anbpart : Option Addr} {slbpart : Array (Option Value)} {kVbpart dcbpart pmbpart cdbpart ctbpart : Value}
    {fbcols : Addr} {ocbcols : Value} {odbcols anbcols : Option Addr} {slbcols : Array (Option Value)} {kVbcols dcbcols pmbcols cdbcols ctbcols : Value}
    {fblist : Addr} {ocblist : Value} {odblist anblist : Option Addr} {slblist : Array (Option Value)} {kVblist dcblist pmblist cdblist ctblist : Value}
    {frefused : Addr} {ocrefused : Value} {odrefused anrefused : Option Addr} {slrefused : Array (Option Value)} {kVrefused dcrefused pmrefused cdrefused ctrefused : Value}
    {flaw : Addr} {oclaw : Value} {odlaw anlaw : Option Addr} {sllaw : Array (Option Value)} {kVlaw dclaw pmlaw cdlaw ctlaw : Value}
    (aC : PySem.W.nsIn K mainGlobals "House" = some (some (.ref C)))
    (aname : PySem.W.nsIn K mainGlobals "is_name" = some (some (.ref fname))) (lname : K.lookup fname = some ⟨ocname, odname, .func (PySem.W.fnOf "is_name" "is_name" (defArgs s_name) (defBody s_name) (defScope s_name) .none kVname dcname pmname anname cdname ctname), slname⟩) (cname : PySem.W.codeIn K cdname "is_name" = true) (kname : PySem.W.keepIn K (.ref fname) = true)
    (aplain : PySem.W.nsIn K mainGlobals "plain_text" = some (some (.ref fplain))) (lplain : K.lookup fplain = some ⟨ocplain, odplain, .func (PySem.W.fnOf "plain_text" "plain_text" (defArgs s_plain) (defBody s_plain) (defScope s_plain) .none kVplain dcplain pmplain anplain cdplain ctplain), slplain⟩) (cplain : PySem.W.codeIn K cdplain "plain_text" = true) (kplain : PySem.W.keepIn K (.ref fplain) = true)
    (acname : PySem.W.nsIn K mainGlobals "checked_name" = some (some (.ref fcname))) (lcname : K.lookup fcname = some ⟨occname, odcname, .func (PySem.W.fnOf "checked_name" "checked_name" (defArgs s_cname) (defBody s_cname) (defScope s_cname) .none kVcname dccname pmcname ancname cdcname ctcname), slcname⟩) (ccname : PySem.W.codeIn K cdcname "checked_name" = true) (kcname : PySem.W.keepIn K (.ref fcname) = true)
    (acabove : PySem.W.nsIn K mainGlobals "checked_above" = some (some (.ref fcabove))) (lcabove : K.lookup fcabove = some ⟨occabove, odcabove, .func (PySem.W.fnOf "checked_above" "checked_above" (defArgs s_cabove) (defBody s_cabove) (defScope s_cabove) .none kVcabove dccabove pmcabove ancabove cdcabove ctcabove), slcabove⟩) (ccabove : PySem.W.codeIn K cdcabove "checked_above" = true) (kcabove : PySem.W.keepIn K (.ref fcabove) = true)
    (accols : PySem.W.nsIn K mainGlobals "checked_columns" = some (some (.ref fccols))) (lccols : K.lookup fccols = some ⟨occcols, odccols, .func (PySem.W.fnOf "checked_columns" "checked_columns" (defArgs s_ccols) (defBody s_ccols) (defScope s_ccols) .none kVccols dcccols pmccols anccols cdccols ctccols), slccols⟩) (cccols : PySem.W.codeIn K cdccols "checked_columns" = true) (kccols : PySem.W.keepIn K (.ref fccols) = true)
    (acparts : PySem.W.nsIn K mainGlobals "checked_parts" = some (some (.ref fcparts))) (lcparts : K.lookup fcparts = some ⟨occparts, odcparts, .func (PySem.W.fnOf "checked_parts" "checked_parts" (defArgs s_cparts) (defBody s_cparts) (defScope s_cparts) .none kVcparts dccparts pmcparts ancparts cdcparts ctcparts), slcparts⟩) (ccparts : PySem.W.codeIn K cdcparts "checked_parts" = true) (kcparts : PySem.W.keepIn K (.ref fcparts) = true)
    (aturned : PySem.W.nsIn K mainGlobals "turned_about" = some (some (.ref fturned))) (lturned : K.lookup fturned = some ⟨octurned, odturned, .func (PySem.W.fnOf "turned_about" "turned_about" (defArgs s_turned) (defBody s_turned) (defScope s_turned) .none kVturned dcturned pmturned anturned cdturned ctturned), slturned⟩) (cturned : PySem.W.codeIn K cdturned "turned_about" = true) (kturned : PySem.W.keepIn K (.ref fturned) = true)
    (ainit : PySem.W.findIn K (.ref C) "__init__" = some (some (.ref finit))) (iinit : PySem.W.isFn K (.ref finit) = true) (linit : K.lookup finit = some ⟨ocinit, odinit, .func (PySem.W.fnOf "__init__" "House.__init__" (defArgs s_init) (defBody s_init) (defScope s_init) .none kVinit dcinit pminit aninit cdinit ctinit), slinit⟩) (cinit : PySem.W.codeIn K cdinit "House.__init__" = true) (kinit : PySem.W.keepIn K (.ref finit) = true)
    (amrows : PySem.W.findIn K (.ref C) "rows" = some (some (.ref fmrows))) (imrows : PySem.W.isFn K (.ref fmrows) = true) (lmrows : K.lookup fmrows = some ⟨ocmrows, odmrows, .func (PySem.W.fnOf "rows" "House.rows" (defArgs s_mrows) (defBody s_mrows) (defScope s_mrows) .none kVmrows dcmrows pmmrows anmrows cdmrows ctmrows), slmrows⟩) (cmrows : PySem.W.codeIn K cdmrows "House.rows" = true) (kmrows : PySem.W.keepIn K (.ref fmrows) = true)
    (amcols : PySem.W.findIn K (.ref C) "columns" = some (some (.ref fmcols))) (imcols : PySem.W.isFn K (.ref fmcols) = true) (lmcols : K.lookup fmcols = some ⟨ocmcols, odmcols, .func (PySem.W.fnOf "columns" "House.columns" (defArgs s_mcols) (defBody s_mcols) (defScope s_mcols) .none kVmcols dcmcols pmmcols anmcols cdmcols ctmcols), slmcols⟩) (cmcols : PySem.W.codeIn K cdmcols "House.columns" = true) (kmcols : PySem.W.keepIn K (.ref fmcols) = true)
    (acell : PySem.W.nsIn K mainGlobals "_law_cell_at" = some (some (.ref fcell))) (lcell : K.lookup fcell = some ⟨occell, odcell, .func (PySem.W.fnOf "_law_cell_at" "_law_cell_at" (defArgs s_cell) (defBody s_cell) (defScope s_cell) .none kVcell dccell pmcell ancell cdcell ctcell), slcell⟩) (ccell : PySem.W.codeIn K cdcell "_law_cell_at" = true) (kcell : PySem.W.keepIn K (.ref fcell) = true)
    (alnames : PySem.W.nsIn K mainGlobals "_law_names" = some (some (.ref flnames))) (llnames : K.lookup flnames = some ⟨oclnames, odlnames, .func (PySem.W.fnOf "_law_names" "_law_names" (defArgs s_lnames) (defBody s_lnames) (defScope s_lnames) .none kVlnames dclnames pmlnames anlnames cdlnames ctlnames), sllnames⟩) (clnames : PySem.W.codeIn K cdlnames "_law_names" = true) (klnames : PySem.W.keepIn K (.ref flnames) = true)
    (alparts : PySem.W.nsIn K mainGlobals "_law_parts" = some (some (.ref flparts))) (llparts : K.lookup flparts = some ⟨oclparts, odlparts, .func (PySem.W.fnOf "_law_parts" "_law_parts" (defArgs s_lparts) (defBody s_lparts) (defScope s_lparts) .none kVlparts dclparts pmlparts anlparts cdlparts ctlparts), sllparts⟩) (clparts : PySem.W.codeIn K cdlparts "_law_parts" = true) (klparts : PySem.W.keepIn K (.ref flparts) = true)
    (alcols : PySem.W.nsIn K mainGlobals "_law_columns" = some (some (.ref flcols))) (llcols : K.lookup flcols = some ⟨oclcols, odlcols, .func (PySem.W.fnOf "_law_columns" "_law_columns" (defArgs s_lcols) (defBody s_lcols) (defScope s_lcols) .none kVlcols dclcols pmlcols anlcols cdlcols ctlcols), sllcols⟩) (clcols : PySem.W.codeIn K cdlcols "_law_columns" = true) (klcols : PySem.W.keepIn K (.ref flcols) = true)
    (abname : PySem.W.nsIn K mainGlobals "_law_bad_name" = some (some (.ref fbname))) (lbname : K.lookup fbname = some ⟨ocbname, odbname, .func (PySem.W.fnOf "_law_bad_name" "_law_bad_name" (defArgs s_bname) (defBody s_bname) (defScope s_bname) .none kVbname dcbname pmbname anbname cdbname ctbname), slbname⟩) (cbname : PySem.W.codeIn K cdbname "_law_bad_name" = true) (kbname : PySem.W.keepIn K (.ref fbname) = true)
    (abpart : PySem.W.nsIn K mainGlobals "_law_bad_part" = some (some (.ref fbpart))) (lbpart : K.lookup fbpart = some ⟨ocbpart, odbpart, .func (PySem.W.fnOf "_law_bad_part" "_law_bad_part" (defArgs s_bpart) (defBody s_bpart) (defScope s_bpart) .none kVbpart dcbpart pmbpart anbpart cdbpart ctbpart), slbpart⟩) (cbpart : PySem.W.codeIn K cdbpart "_law_bad_part" = true) (kbpart : PySem.W.keepIn K (.ref fbpart) = true)
    (abcols : PySem.W.nsIn K mainGlobals "_law_bad_columns" = some (some (.ref fbcols))) (lbcols : K.lookup fbcols = some ⟨ocbcols, odbcols, .func (PySem.W.fnOf "_law_bad_columns" "_law_bad_columns" (defArgs s_bcols) (defBody s_bcols) (defScope s_bcols) .none kVbcols dcbcols pmbcols anbcols cdbcols ctbcols), slbcols⟩) (cbcols : PySem.W.codeIn K cdbcols "_law_bad_columns" = true) (kbcols : PySem.W.keepIn K (.ref fbcols) = true)
    (ablist : PySem.W.nsIn K mainGlobals "_law_bad_list" = some (some (.ref fblist))) (lblist : K.lookup fblist = some ⟨ocblist, odblist, .func (PySem.W.fnOf "_law_bad_list" "_law_bad_list" (defArgs s_blist) (defBody s_blist) (defScope s_blist) .none kVblist dcblist pmblist anblist cdblist ctblist), slblist⟩) (cblist : PySem.W.codeIn K cdblist "_law_bad_list" = true) (kblist : PySem.W.keepIn K (.ref fblist) = true)
    (arefused : PySem.W.nsIn K mainGlobals "_law_refused" = some (some (.ref frefused))) (lrefused : K.lookup frefused = some ⟨ocrefused, odrefused, .func (PySem.W.fnOf "_law_refused" "_law_refused" (defArgs s_refused) (defBody s_refused) (defScope s_refused) .none kVrefused dcrefused pmrefused anrefused cdrefused ctrefused), slrefused⟩) (crefused : PySem.W.codeIn K cdrefused "_law_refused" = true) (krefused : PySem.W.keepIn K (.ref frefused) = true)
    (alaw : PySem.W.nsIn K mainGlobals "law" = some (some (.ref flaw))) (llaw : K.lookup flaw = some ⟨oclaw, odlaw, .func (PySem.W.fnOf "law" "law" (defArgs s_law) (defBody s_law) (defScope s_law) .none kVlaw dclaw pmlaw anlaw cdlaw ctlaw), sllaw⟩) (claw : PySem.W.codeIn K cdlaw "law" = true) (klaw : PySem.W.keepIn K (.ref flaw) = true)
    (pg : PySem.W.plainGet K C Str.empty = true) (hd : PySem.W.hasDictIn K C = true) (po : PySem.W.plainOver K C = true) (sa : PySem.W.findIn K (.ref C) "__setattr__" = some (some (.builtin "object.__setattr__"))) (mk : PySem.W.makesIn K C = true) (kc : PySem.W.keepIn K (.ref C) = true)
    (f_above_of : PySem.W.findIn K (.ref C) "above_of" = some none)
    (f_column_names : PySem.W.findIn K (.ref C) "column_names" = some none)
    (f_beneath_of : PySem.W.findIn K (.ref C) "beneath_of" = some none)
    (z_isinstance : PySem.W.nsIn K mainGlobals "isinstance" = some none)
    (z_str : PySem.W.nsIn K mainGlobals "str" = some none)
    (z_list : PySem.W.nsIn K mainGlobals "list" = some none)
    (z_tuple : PySem.W.nsIn K mainGlobals "tuple" = some none)
    (z_len : PySem.W.nsIn K mainGlobals "len" = some none)
    (z_all : PySem.W.nsIn K mainGlobals "all" = some none)
    (z_range : PySem.W.nsIn K mainGlobals "range" = some none)
    (z_max : PySem.W.nsIn K mainGlobals "max" = some none)
    (z_ValueError : PySem.W.nsIn K mainGlobals "ValueError" = some none)
    {t_ALL : Tok} (g_ALL : PySem.W.nsIn K mainGlobals "ALL" = some (some (.str "all" t_ALL)))
    (aNH : PySem.W.nsIn K mainGlobals "NoHouse" = some (some (.ref NH)))
    (aVE : PySem.W.nsIn K mainGlobals "VeilError" = some (some (.ref VE)))
    (aNT : PySem.W.nsIn K mainGlobals "NoTable" = some (some (.ref NT)))
    (aNX : PySem.W.nsIn K mainGlobals "NoText" = some (some (.ref NX)))
    (aNP : PySem.W.nsIn K mainGlobals "NoPlace" = some (some (.ref NP)))
    (x0 : PySem.W.findIn K (.ref NH) "__getattribute__" = some (some (.builtin "BaseException.__getattribute__")))
    (x1 : PySem.W.findIn K (.ref NH) "__getattr__" = some none)
    (x2 : PySem.W.mroIn K NH (.type "BaseException") = some true)
    (x3 : PySem.W.mroIn K NH (.type "object") = some true)
    (x4 : PySem.W.findIn K (.ref NH) "__class__" = some (some (.builtin "object.__class__")))
    (x5 : PySem.W.specialIn K (.builtin "object.__class__") "__get__" = some (some (.builtin "getset_descriptor.__get__")))
    (x6 : PySem.W.takesIn K (.builtin "object.__class__") = some true)
    {cdX : ClassData} (x7 : PySem.W.clsIn K NH = some cdX)
    (x8 : PySem.W.excIn K NH mroV "ValueError.__new__" = true)
    (qVE : PySem.W.kitOne K (.ref NH) (.ref VE) = some true)
    (qV : PySem.W.kitOne K (.ref NH) (.type "ValueError") = some true)
    (qNT : PySem.W.kitOne K (.ref NH) (.ref NT) = some false)
    (qNX : PySem.W.kitOne K (.ref NH) (.ref NX) = some false)
    (qNP : PySem.W.kitOne K (.ref NH) (.ref NP) = some false)
    (hit : PySem.W.exmOne K (.ref NH) (.ref NH) = some true)
    : ∃ fd : FuncData, (∀ (s : Shared) (v : Value), BindsTo s fd ⟨[v], []⟩ [("_law_script", v)]) ∧ ∀ base : Heap, K.In base → base.Ns mainGlobals mg → FnOk l.prog w K mg base (CXE l.prog w) 12 fa fd ["_law_script"] (spLaw K) := by
  have e := hfa.symm.trans (PySem.W.mg_of X G alaw)
  cases e
  have T : Txt K mg C NH VE NT NX NP := ⟨⟨pg, hd, po, sa⟩, PySem.W.mg_of X G aC, f_above_of, f_column_names, f_beneath_of, PySem.W.mg_none_of X G z_isinstance, PySem.W.mg_none_of X G z_str, PySem.W.mg_none_of X G z_list, PySem.W.mg_none_of X G z_tuple, PySem.W.mg_none_of X G z_len, PySem.W.mg_none_of X G z_all, PySem.W.mg_none_of X G z_range, PySem.W.mg_none_of X G z_max, PySem.W.mg_none_of X G z_ValueError, ⟨_, PySem.W.mg_of X G g_ALL⟩, PySem.W.mg_of X G aNH, PySem.W.mg_of X G aVE, PySem.W.mg_of X G aNT, PySem.W.mg_of X G aNX, PySem.W.mg_of X G aNP, ⟨x0, x1, x2, x3, x4, x5, x6, by rw [x7]; rfl, x8⟩, qVE, qV, qNT, qNX, qNP, hit⟩
  obtain ⟨fdname, Aname⟩ := defAt (ps := ["thing"]) X G aname lname cname kname fun _ _ _ _ _ _ us hl => match us, hl with | [_], _ => rfl
  obtain ⟨fdplain, Aplain⟩ := defAt (ps := ["text"]) X G aplain lplain cplain kplain fun _ _ _ _ _ _ us hl => match us, hl with | [_], _ => rfl
  obtain ⟨fdcname, Acname⟩ := defAt (ps := ["thing", "ahead"]) X G acname lcname ccname kcname fun _ _ _ _ _ _ us hl => match us, hl with | [_, _], _ => rfl
  obtain ⟨fdcabove, Acabove⟩ := defAt (ps := ["thing", "ahead"]) X G acabove lcabove ccabove kcabove fun _ _ _ _ _ _ us hl => match us, hl with | [_, _], _ => rfl
  obtain ⟨fdccols, Accols⟩ := defAt (ps := ["columns"]) X G accols lccols cccols kccols fun _ _ _ _ _ _ us hl => match us, hl with | [_], _ => rfl
  obtain ⟨fdcparts, Acparts⟩ := defAt (ps := ["parts"]) X G acparts lcparts ccparts kcparts fun _ _ _ _ _ _ us hl => match us, hl with | [_], _ => rfl
  obtain ⟨fdturned, Aturned⟩ := defAt (ps := ["above_of"]) X G aturned lturned cturned kturned fun _ _ _ _ _ _ us hl => match us, hl with | [_], _ => rfl
  have Finit := fun_mk (st := s_init) linit cinit kinit
  have binit := Finit.binds (ps := ["self", "parts", "columns"]) fun _ _ _ _ _ _ us hl => match us, hl with | [_, _, _], _ => rfl
  have Fmrows := fun_mk (st := s_mrows) lmrows cmrows kmrows
  have bmrows := Fmrows.binds (ps := ["self"]) fun _ _ _ _ _ _ us hl => match us, hl with | [_], _ => rfl
  have Fmcols := fun_mk (st := s_mcols) lmcols cmcols kmcols
  have bmcols := Fmcols.binds (ps := ["self"]) fun _ _ _ _ _ _ us hl => match us, hl with | [_], _ => rfl
  obtain ⟨fdcell, Acell⟩ := defAt (ps := ["_law_script", "_law_k"]) X G acell lcell ccell kcell fun _ _ _ _ _ _ us hl => match us, hl with | [_, _], _ => rfl
  obtain ⟨fdlnames, Alnames⟩ := defAt (ps := ["_law_cell", "_law_many"]) X G alnames llnames clnames klnames fun _ _ _ _ _ _ us hl => match us, hl with | [_, _], _ => rfl
  obtain ⟨fdlparts, Alparts⟩ := defAt (ps := ["_law_script"]) X G alparts llparts clparts klparts fun _ _ _ _ _ _ us hl => match us, hl with | [_], _ => rfl
  obtain ⟨fdlcols, Alcols⟩ := defAt (ps := ["_law_script"]) X G alcols llcols clcols klcols fun _ _ _ _ _ _ us hl => match us, hl with | [_], _ => rfl
  obtain ⟨fdbname, Abname⟩ := defAt (ps := ["_law_cell", "_law_names_here"]) X G abname lbname cbname kbname fun _ _ _ _ _ _ us hl => match us, hl with | [_, _], _ => rfl
  obtain ⟨fdbpart, Abpart⟩ := defAt (ps := ["_law_parts_here", "_law_cell"]) X G abpart lbpart cbpart kbpart fun _ _ _ _ _ _ us hl => match us, hl with | [_, _], _ => rfl
  obtain ⟨fdbcols, Abcols⟩ := defAt (ps := ["_law_columns_here", "_law_cell"]) X G abcols lbcols cbcols kbcols fun _ _ _ _ _ _ us hl => match us, hl with | [_, _], _ => rfl
  obtain ⟨fdblist, Ablist⟩ := defAt (ps := ["_law_parts_here", "_law_cell"]) X G ablist lblist cblist kblist fun _ _ _ _ _ _ us hl => match us, hl with | [_, _], _ => rfl
  obtain ⟨fdrefused, Arefused⟩ := defAt (ps := ["_law_parts_here", "_law_columns_here"]) X G arefused lrefused crefused krefused fun _ _ _ _ _ _ us hl => match us, hl with | [_, _], _ => rfl
  have F0 := fun_mk (st := s_law) llaw claw klaw
  refine ⟨PySem.W.fnOf "law" "law" (defArgs s_law) (defBody s_law) (defScope s_law) .none kVlaw dclaw pmlaw anlaw cdlaw ctlaw, fun s v => .of_eq rfl, fun base _ _ => ?_⟩
  have hname := ok_name (P := l.prog) (w := w) (base := base) Aname T
  have hplain := ok_plain (P := l.prog) (w := w) (base := base) Aplain T
  have hcname := ok_cname (P := l.prog) (w := w) (base := base) Acname T hname hplain
  have hcabove := ok_cabove (P := l.prog) (w := w) (base := base) Acabove T hplain
  have hccols := ok_ccols (P := l.prog) (w := w) (base := base) Accols T hcname
  have hcparts := ok_cparts (P := l.prog) (w := w) (base := base) Acparts T hcname hcabove
  have hturned := ok_turned (P := l.prog) (w := w) (base := base) Aturned T
  have hinit := ok_init (P := l.prog) (w := w) (base := base) ⟨mk, ainit, iinit, kc⟩ Finit binit T hcparts hccols hturned
  have hmrows := ok_mrows (P := l.prog) (w := w) (base := base) ⟨amrows, imrows, kmrows⟩ Fmrows bmrows T
  have hmcols := ok_mcols (P := l.prog) (w := w) (base := base) ⟨amcols, imcols, kmcols⟩ Fmcols bmcols T
  have hcell := ok_cell (P := l.prog) (w := w) (base := base) Acell T
  have hlnames := ok_lnames (P := l.prog) (w := w) (base := base) Alnames T
  have hlparts := ok_lparts (P := l.prog) (w := w) (base := base) Alparts T hcell hlnames
  have hlcols := ok_lcols (P := l.prog) (w := w) (base := base) Alcols T hcell hlnames
  have hbname := ok_bname (P := l.prog) (w := w) (base := base) Abname T
  have hbpart := ok_bpart (P := l.prog) (w := w) (base := base) Abpart T hbname
  have hbcols := ok_bcols (P := l.prog) (w := w) (base := base) Abcols T hbname
  have hblist := ok_blist (P := l.prog) (w := w) (base := base) Ablist T
  have hrefused := ok_refused (P := l.prog) (w := w) (base := base) Arefused T hinit
  exact ok_law F0 T hlparts hlcols hcell hbpart hblist hbcols hrefused hinit hmcols hmrows
theorem walk {l : PySem.W.OpenLaw} {q : Program} {loose : List Str} {XP : (Str → Option Value) → Heap → Prop} {YP : World → Heap → Prop} {d : DefRec} {K : Params → PySem.W.Frag} (hn : l.most = some 63) (hdf : d.params.defaults = [])
    (hY : ∀ (w : World) (h : Heap), YP w h → (K w.params).In h)
    (F : ∀ (w : World) (mg : Str → Option Value) (fa : Addr) (h : Heap), (K w.params).In h → h.Ns mainGlobals mg → mg d.name = some (.ref fa) →
      ∃ fd : FuncData, (∀ (s : Shared) (u : Value), BindsTo s fd ⟨[u], []⟩ [("_law_script", u)]) ∧ ∀ base : Heap, (K w.params).In base → base.Ns mainGlobals mg → FnOk l.prog w (K w.params) mg base (CXE l.prog w) 12 fa fd ["_law_script"] (spLaw (K w.params))) :
    PySem.W.WalkO q loose XP YP l.row.toRowW d [] (fun f vs => PySem.call f vs) :=
  L2.walk_of (n := 63) (k := 12) (x := "_law_script") (CX := fun w => CXE l.prog w) (sp := fun w => spLaw (K w.params)) hn (by decide) hdf ⟨rfl, by decide, by decide⟩ hY F (fun _ _ a ns hl _ hS => ⟨a, ns, rfl, hS, hl, fun _ => rfl⟩) fun _ _ _ _ _ ⟨_, _, _, _, _, _, _, _, _, h⟩ => h
end P03
open PySem PySem.W PyProof.Rows
set_option maxRecDepth 100000 in
set_option maxHeartbeats 0 in
theorem PySem.Challenge.cw_tallyveil_k03_no_house_holds : PySem.Challenge.rw_tallyveil_k03_no_house.Holds := by
  w_on; o_law; k_head; (case hw => w_witness2)
  k_fill
  refine P03.walk (l := PySem.Challenge.rw_tallyveil_k03_no_house) rfl rfl (fun w h Y => PySem.W.kIn_of Y) ?F
  case F =>
    intro w mg fa h KX G hmg
    refine' P03.all_mk KX G hmg ?aC ?aname ?lname ?cname ?kname ?aplain ?lplain ?cplain ?kplain ?acname ?lcname ?ccname ?kcname ?acabove ?lcabove ?ccabove ?kcabove ?accols ?lccols ?cccols ?kccols ?acparts ?lcparts ?ccparts ?kcparts ?aturned ?lturned ?cturned ?kturned ?ainit ?iinit ?linit ?cinit ?kinit ?amrows ?imrows ?lmrows ?cmrows ?kmrows ?amcols ?imcols ?lmcols ?cmcols ?kmcols ?acell ?lcell ?ccell ?kcell ?alnames ?llnames ?clnames ?klnames ?alparts ?llparts ?clparts ?klparts ?alcols ?llcols ?clcols ?klcols ?abname ?lbname ?cbname ?kbname ?abpart ?lbpart ?cbpart ?kbpart ?abcols ?lbcols ?cbcols ?kbcols ?ablist ?lblist ?cblist ?kblist ?arefused ?lrefused ?crefused ?krefused ?alaw ?llaw ?claw ?klaw ?pg ?hd ?po ?sa ?mk ?kc ?f_above_of ?f_column_names ?f_beneath_of ?z_isinstance ?z_str ?z_list ?z_tuple ?z_len ?z_all ?z_range ?z_max ?z_ValueError ?g_ALL ?aNH ?aVE ?aNT ?aNX ?aNP ?x0 ?x1 ?x2 ?x3 ?x4 ?x5 ?x6 ?x7 ?x8 ?qVE ?qV ?qNT ?qNX ?qNP ?hit
    (case aC => k_is); (case aname => k_is); (case lname => k_is); (case cname => k_is); (case kname => k_is); (case aplain => k_is)
    (case lplain => k_is); (case cplain => k_is); (case kplain => k_is); (case acname => k_is); (case lcname => k_is); (case ccname => k_is)
    (case kcname => k_is); (case acabove => k_is); (case lcabove => k_is); (case ccabove => k_is); (case kcabove => k_is); (case accols => k_is)
    (case lccols => k_is); (case cccols => k_is); (case kccols => k_is); (case acparts => k_is); (case lcparts => k_is); (case ccparts => k_is)
    (case kcparts => k_is); (case aturned => k_is); (case lturned => k_is); (case cturned => k_is); (case kturned => k_is); (case ainit => k_is)
    (case iinit => k_is); (case linit => k_is); (case cinit => k_is); (case kinit => k_is); (case amrows => k_is); (case imrows => k_is)
    (case lmrows => k_is); (case cmrows => k_is); (case kmrows => k_is); (case amcols => k_is); (case imcols => k_is); (case lmcols => k_is)
    (case cmcols => k_is); (case kmcols => k_is); (case acell => k_is); (case lcell => k_is); (case ccell => k_is); (case kcell => k_is)
    (case alnames => k_is); (case llnames => k_is); (case clnames => k_is); (case klnames => k_is); (case alparts => k_is); (case llparts => k_is)
    (case clparts => k_is); (case klparts => k_is); (case alcols => k_is); (case llcols => k_is); (case clcols => k_is); (case klcols => k_is)
    (case abname => k_is); (case lbname => k_is); (case cbname => k_is); (case kbname => k_is); (case abpart => k_is); (case lbpart => k_is)
    (case cbpart => k_is); (case kbpart => k_is); (case abcols => k_is); (case lbcols => k_is); (case cbcols => k_is); (case kbcols => k_is)
    (case ablist => k_is); (case lblist => k_is); (case cblist => k_is); (case kblist => k_is); (case arefused => k_is); (case lrefused => k_is)
    (case crefused => k_is); (case krefused => k_is); (case alaw => k_is); (case llaw => k_is); (case claw => k_is); (case klaw => k_is)
    (case pg => k_is); (case hd => k_is); (case po => k_is); (case sa => k_is); (case mk => k_is); (case kc => k_is)
    (case f_above_of => k_is); (case f_column_names => k_is); (case f_beneath_of => k_is); (case z_isinstance => k_is); (case z_str => k_is); (case z_list => k_is)
    (case z_tuple => k_is); (case z_len => k_is); (case z_all => k_is); (case z_range => k_is); (case z_max => k_is); (case z_ValueError => k_is)
    (case g_ALL => k_is); (case aNH => k_is); (case aVE => k_is); (case aNT => k_is); (case aNX => k_is); (case aNP => k_is)
    (case x0 => k_is); (case x1 => k_is); (case x2 => k_is); (case x3 => k_is); (case x4 => k_is); (case x5 => k_is)
    (case x6 => k_is); (case x7 => k_is); (case x8 => k_exc); (case qVE => kit_is); (case qV => kit_is); (case qNT => kit_is)
    (case qNX => kit_is); (case qNP => kit_is); (case hit => kts_exm)
#print axioms PySem.Challenge.cw_tallyveil_k03_no_house_holds
