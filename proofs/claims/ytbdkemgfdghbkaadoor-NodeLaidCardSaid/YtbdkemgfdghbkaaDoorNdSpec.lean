/-
  node: plain trees, and what is told of them. No program.
-/
import Derived.WalkKit
namespace Go.Proofs.YtbdkemgfdghbkaaDoor.nd
set_option linter.unusedVariables false

/-- Nodes, one beside the other. -/
inductive Fo where
  | nil
  | cons (k : Int) (t : ByteArray) (kids rest : Fo)
/-- A node. -/
structure Nd where
  k : Int
  t : ByteArray
  kids : Fo

namespace Fo
def len : Fo → Nat
  | nil => 0
  | cons _ _ _ r => r.len + 1
def get? : Fo → Nat → Option Nd
  | nil, _ => none
  | cons k t kids _, 0 => some ⟨k, t, kids⟩
  | cons _ _ _ r, i + 1 => r.get? i
def toL : Fo → List Nd
  | nil => []
  | cons k t kids r => ⟨k, t, kids⟩ :: r.toL
def ofL : List Nd → Fo
  | [] => nil
  | x :: r => cons x.k x.t x.kids (ofL r)
def app : Fo → Fo → Fo
  | nil, g => g
  | cons k t kids r, g => cons k t kids (r.app g)
def set : Fo → Nat → Nd → Fo
  | nil, _, _ => nil
  | cons _ _ _ r, 0, x => cons x.k x.t x.kids r
  | cons k t kids r, i + 1, x => cons k t kids (r.set i x)
def drop : Fo → Nat → Fo
  | f, 0 => f
  | nil, _ + 1 => nil
  | cons _ _ _ r, i + 1 => r.drop i
def take : Fo → Nat → Fo
  | _, 0 => nil
  | nil, _ + 1 => nil
  | cons k t kids r, i + 1 => cons k t kids (r.take i)
/-- Of each node. -/
def All (p : Nd → Prop) : Fo → Prop
  | nil => True
  | cons k t kids r => p ⟨k, t, kids⟩ ∧ r.All p

theorem All.get {p : Nd → Prop} : ∀ {f : Fo} {i : Nat} {x : Nd}, f.All p → f.get? i = some x → p x
  | nil, _, _, _, h => by cases h
  | cons _ _ _ _, 0, _, ha, h => by cases h; exact ha.1
  | cons _ _ _ r, i + 1, _, ha, h => All.get (f := r) ha.2 h
theorem All.mono {p q : Nd → Prop} (h : ∀ x, p x → q x) : ∀ {f : Fo}, f.All p → f.All q
  | nil, _ => trivial
  | cons _ _ _ _, ha => ⟨h _ ha.1, All.mono h ha.2⟩
theorem All.of {p : Nd → Prop} (h : ∀ x, p x) : ∀ f : Fo, f.All p
  | nil => trivial
  | cons _ _ _ r => ⟨h _, All.of h r⟩
theorem get_lt : ∀ {f : Fo} {i : Nat} {x : Nd}, f.get? i = some x → i < f.len
  | nil, _, _, h => by cases h
  | cons _ _ _ _, 0, _, _ => by simp [len]
  | cons _ _ _ r, i + 1, _, h => by have := get_lt (f := r) h; simp [len]; omega
theorem get_of_lt : ∀ {f : Fo} {i : Nat}, i < f.len → ∃ x, f.get? i = some x
  | nil, _, h => by simp [len] at h
  | cons _ _ _ _, 0, _ => ⟨_, rfl⟩
  | cons _ _ _ r, i + 1, h => get_of_lt (f := r) (by simp [len] at h; omega)
theorem get_none : ∀ {f : Fo} {i : Nat}, f.len ≤ i → f.get? i = none
  | nil, _, _ => rfl
  | cons _ _ _ _, 0, h => by simp [len] at h
  | cons _ _ _ r, i + 1, h => get_none (f := r) (by simp [len] at h; omega)
theorem toL_len : ∀ f : Fo, f.toL.length = f.len
  | nil => rfl
  | cons _ _ _ r => by simp [toL, len, toL_len r]
theorem toL_get : ∀ (f : Fo) (i : Nat), f.toL[i]? = f.get? i
  | nil, _ => by simp [toL, get?]
  | cons _ _ _ _, 0 => by simp [toL, get?]
  | cons _ _ _ r, i + 1 => by simp [toL, get?, toL_get r i]
theorem ofL_toL : ∀ f : Fo, ofL f.toL = f
  | nil => rfl
  | cons _ _ _ r => by simp [toL, ofL, ofL_toL r]
theorem toL_ofL : ∀ l : List Nd, (ofL l).toL = l
  | [] => rfl
  | _ :: r => by simp [toL, ofL, toL_ofL r]
theorem ofL_len (l : List Nd) : (ofL l).len = l.length := by rw [← toL_len, toL_ofL]
theorem ofL_get (l : List Nd) (i : Nat) : (ofL l).get? i = l[i]? := by rw [← toL_get, toL_ofL]
theorem ofL_append (a b : List Nd) : ofL (a ++ b) = (ofL a).app (ofL b) := by
  induction a with
  | nil => rfl
  | cons x r ih => simp [ofL, app, ih]
theorem app_nil : ∀ f : Fo, f.app nil = f
  | nil => rfl
  | cons _ _ _ r => by simp [app, app_nil r]
theorem app_assoc : ∀ f g h : Fo, (f.app g).app h = f.app (g.app h)
  | nil, _, _ => rfl
  | cons _ _ _ r, g, h => by simp [app, app_assoc r g h]
theorem app_len : ∀ f g : Fo, (f.app g).len = f.len + g.len
  | nil, _ => by simp [app, len]
  | cons _ _ _ r, g => by simp [app, len, app_len r g]; omega
theorem len_zero {f : Fo} (h : f.len = 0) : f = nil := by
  cases f with
  | nil => rfl
  | cons _ _ _ _ => simp [len] at h
theorem drop_get : ∀ {f : Fo} {i : Nat} {x : Nd}, f.get? i = some x → f.drop i = cons x.k x.t x.kids (f.drop (i + 1))
  | nil, _, _, h => by cases h
  | cons _ _ _ _, 0, _, h => by cases h; simp [drop]
  | cons _ _ _ r, i + 1, _, h => by simpa [drop] using drop_get (f := r) h
theorem drop_all : ∀ {f : Fo} {i : Nat}, f.len ≤ i → f.drop i = nil
  | nil, 0, _ => rfl
  | nil, _ + 1, _ => rfl
  | cons _ _ _ _, 0, h => by simp [len] at h
  | cons _ _ _ r, i + 1, h => by simpa [drop] using drop_all (f := r) (by simp [len] at h; omega)
theorem take_snoc : ∀ {f : Fo} {i : Nat} {x : Nd}, f.get? i = some x → f.take (i + 1) = (f.take i).app (cons x.k x.t x.kids nil)
  | nil, _, _, h => by cases h
  | cons _ _ _ _, 0, _, h => by cases h; simp [take, app]
  | cons _ _ _ r, i + 1, _, h => by simpa [take, app] using take_snoc (f := r) h
theorem take_all : ∀ {f : Fo} {i : Nat}, f.len ≤ i → f.take i = f
  | nil, 0, _ => rfl
  | nil, _ + 1, _ => rfl
  | cons _ _ _ _, 0, h => by simp [len] at h
  | cons _ _ _ r, i + 1, h => by simpa [take] using take_all (f := r) (by simp [len] at h; omega)
theorem take_len : ∀ {f : Fo} {i : Nat}, i ≤ f.len → (f.take i).len = i
  | _, 0, _ => by simp [take, len]
  | nil, _ + 1, h => by simp [len] at h
  | cons _ _ _ r, i + 1, h => by simp [take, len, take_len (f := r) (by simp [len] at h; omega)]
theorem set_len : ∀ (f : Fo) (i : Nat) (x : Nd), (f.set i x).len = f.len
  | nil, _, _ => rfl
  | cons _ _ _ _, 0, _ => rfl
  | cons _ _ _ r, i + 1, x => by simp [set, len, set_len r i x]
theorem set_get : ∀ {f : Fo} {i j : Nat} {x : Nd}, i < f.len → (f.set i x).get? j = if j = i then some x else f.get? j
  | nil, _, _, _, h => by simp [len] at h
  | cons _ _ _ _, 0, 0, _, _ => by simp [set, get?]
  | cons _ _ _ _, 0, _ + 1, _, _ => by simp [set, get?]
  | cons _ _ _ _, _ + 1, 0, _, _ => by simp [set, get?]
  | cons _ _ _ r, i + 1, j + 1, x, h => by simpa [set, get?] using set_get (f := r) (i := i) (j := j) (x := x) (by simp [len] at h; omega)
theorem ext : ∀ {f g : Fo}, f.len = g.len → (∀ i, i < f.len → f.get? i = g.get? i) → f = g
  | nil, nil, _, _ => rfl
  | nil, cons _ _ _ _, h, _ => by simp [len] at h
  | cons _ _ _ _, nil, h, _ => by simp [len] at h
  | cons k t kids r, cons k' t' kids' r', h, hg => by
    have h0 := hg 0 (by simp [len])
    simp only [get?, Option.some.injEq, Nd.mk.injEq] at h0
    obtain ⟨rfl, rfl, rfl⟩ := h0
    rw [ext (f := r) (g := r') (by simpa [len] using h) (fun i hi => by simpa [get?] using hg (i + 1) (by simp [len]; omega))]
end Fo

namespace Nd
/-- By the kids' own. -/
theorem induct {p : Nd → Prop} (h : ∀ x : Nd, x.kids.All p → p x) : ∀ x : Nd, p x := by
  have key : ∀ f : Fo, f.All p := by
    intro f
    induction f with
    | nil => trivial
    | cons k t kids r ih1 ih2 => exact ⟨h ⟨k, t, kids⟩ ih1, ih2⟩
  intro x
  exact h x (key x.kids)
end Nd

/-! ### What is told of them -/

/-- The same? -/
def Fo.same : Fo → Fo → Bool
  | .nil, .nil => true
  | .cons k t kids r, .cons k' t' kids' r' => k == k' && (t.toList == t'.toList) && kids.same kids' && r.same r'
  | _, _ => false
def Nd.same (x y : Nd) : Bool := x.k == y.k && (x.t.toList == y.t.toList) && x.kids.same y.kids
theorem bytes_inj {s t : ByteArray} (h : s.toList = t.toList) : s = t := by
  rw [ByteArray.toList_eq, ByteArray.toList_eq] at h
  exact ByteArray.ext (Array.ext' h)
theorem Fo.same_iff : ∀ {f g : Fo}, f.same g = true ↔ f = g
  | .nil, .nil => by simp [Fo.same]
  | .nil, .cons _ _ _ _ => by simp [Fo.same]
  | .cons _ _ _ _, .nil => by simp [Fo.same]
  | .cons k t kids r, .cons k' t' kids' r' => by
    simp only [Fo.same, Bool.and_eq_true, beq_iff_eq, Fo.same_iff (f := kids), Fo.same_iff (f := r), Fo.cons.injEq]
    exact ⟨fun ⟨⟨⟨h1, h2⟩, h3⟩, h4⟩ => ⟨h1, bytes_inj h2, h3, h4⟩, fun ⟨h1, h2, h3, h4⟩ => ⟨⟨⟨h1, by rw [h2]⟩, h3⟩, h4⟩⟩
theorem Nd.same_iff {x y : Nd} : x.same y = true ↔ x = y := by
  obtain ⟨k, t, f⟩ := x
  obtain ⟨k', t', f'⟩ := y
  simp only [Nd.same, Bool.and_eq_true, beq_iff_eq, Fo.same_iff, Nd.mk.injEq]
  exact ⟨fun ⟨⟨h1, h2⟩, h3⟩ => ⟨h1, bytes_inj h2, h3⟩, fun ⟨h1, h2, h3⟩ => ⟨⟨h1, by rw [h2]⟩, h3⟩⟩
theorem Nd.same_self (x : Nd) : x.same x = true := Nd.same_iff.2 rfl

/-- How many. -/
def Fo.count : Fo → Nat
  | .nil => 0
  | .cons _ _ kids r => 1 + kids.count + r.count
def Nd.count (x : Nd) : Nat := 1 + x.kids.count
/-- One in the other. -/
def Fo.deep : Fo → Nat
  | .nil => 0
  | .cons _ _ kids r => max (1 + kids.deep) r.deep
def Nd.deep (x : Nd) : Nat := 1 + x.kids.deep
theorem Fo.deep_le : ∀ f : Fo, f.deep ≤ f.count
  | .nil => Nat.le_refl _
  | .cons _ _ kids r => by
    have := Fo.deep_le kids
    have := Fo.deep_le r
    simp only [Fo.deep, Fo.count]; omega
/-- How much there is. -/
def Fo.weight : Fo → Nat
  | .nil => 0
  | .cons _ t kids r => 1 + t.size + kids.weight + r.weight
def Nd.weight (x : Nd) : Nat := 1 + x.t.size + x.kids.weight
theorem Fo.count_le : ∀ f : Fo, f.count ≤ f.weight
  | .nil => Nat.le_refl _
  | .cons _ _ kids r => by
    have := Fo.count_le kids
    have := Fo.count_le r
    simp only [Fo.count, Fo.weight]; omega
/-- What is left of so much. -/
def Fo.left : Fo → Int → Int
  | .nil, m => m
  | .cons _ t kids r, m => if m < 0 then m else r.left (kids.left (m - (1 + t.size)))
def Nd.left (x : Nd) (m : Int) : Int := x.kids.left (m - (1 + x.t.size))
theorem Fo.left_neg : ∀ (f : Fo) {m : Int}, m < 0 → f.left m = m
  | .nil, _, _ => rfl
  | .cons _ _ _ _, _, h => by simp [Fo.left, h]
theorem Fo.left_ok : ∀ (f : Fo) (m : Int), (f.weight : Int) ≤ m → f.left m = m - f.weight
  | .nil, m, h => by simp [Fo.left, Fo.weight]
  | .cons _ t kids r, m, h => by
    simp only [Fo.weight] at h
    rw [Fo.left, if_neg (by omega), Fo.left_ok kids _ (by omega), Fo.left_ok r _ (by omega)]
    simp only [Fo.weight]; omega
theorem Fo.left_short : ∀ (f : Fo) (m : Int), m < (f.weight : Int) → f.left m < 0
  | .nil, m, h => by simp [Fo.left, Fo.weight] at *; omega
  | .cons _ t kids r, m, h => by
    simp only [Fo.weight] at h
    rw [Fo.left]
    split
    · assumption
    · by_cases hk : (kids.weight : Int) ≤ m - (1 + t.size)
      · rw [Fo.left_ok kids _ hk]
        exact Fo.left_short r _ (by omega)
      · have := Fo.left_short kids _ (Int.not_le.1 hk)
        rw [Fo.left_neg r this]; exact this
theorem Nd.left_of {x : Nd} {m : Int} (h : 0 ≤ x.left m) : x.left m = m - x.weight := by
  unfold Nd.left at h ⊢
  by_cases hk : (x.kids.weight : Int) ≤ m - (1 + x.t.size)
  · rw [Fo.left_ok _ _ hk]; simp only [Nd.weight]; omega
  · have := Fo.left_short x.kids _ (Int.not_le.1 hk)
    omega

/-- All paths. -/
def Fo.paths : Nat → Fo → List (List Nat)
  | _, .nil => []
  | i, .cons _ _ kids r => ([] :: Fo.paths 0 kids).map (i :: ·) ++ Fo.paths (i + 1) r
def Nd.paths (x : Nd) : List (List Nat) := [] :: Fo.paths 0 x.kids
theorem Fo.paths_len : ∀ (i : Nat) (f : Fo), (Fo.paths i f).length = f.count
  | _, .nil => rfl
  | i, .cons _ _ kids r => by simp [Fo.paths, Fo.count, Fo.paths_len 0 kids, Fo.paths_len (i + 1) r]; omega
theorem Nd.paths_len (x : Nd) : x.paths.length = x.count := by simp [Nd.paths, Nd.count, Fo.paths_len]; omega

/-- What lies at a path. -/
def Nd.at : Nd → List Int → Option Nd
  | x, [] => some x
  | x, i :: p => if i < 0 then none else match x.kids.get? i.toNat with
    | none => none
    | some y => y.at p
/-- With another one there. -/
def Nd.put : Nd → List Int → Nd → Option Nd
  | _, [], y => some y
  | x, i :: p, y => if i < 0 then none else match x.kids.get? i.toNat with
    | none => none
    | some z => (z.put p y).map fun u => { x with kids := x.kids.set i.toNat u }

/-! ### Taken piece by piece -/

theorem Fo.count_app : ∀ f g : Fo, (f.app g).count = f.count + g.count
  | .nil, _ => by simp [Fo.app, Fo.count]
  | .cons _ _ _ r, g => by simp only [Fo.app, Fo.count, Fo.count_app r g]; omega
theorem Fo.deep_app : ∀ f g : Fo, (f.app g).deep = max f.deep g.deep
  | .nil, _ => by simp [Fo.app, Fo.deep]
  | .cons _ _ _ r, g => by simp only [Fo.app, Fo.deep, Fo.deep_app r g]; omega
theorem Fo.weight_app : ∀ f g : Fo, (f.app g).weight = f.weight + g.weight
  | .nil, _ => by simp [Fo.app, Fo.weight]
  | .cons _ _ _ r, g => by simp only [Fo.app, Fo.weight, Fo.weight_app r g]; omega
theorem Fo.left_app : ∀ (f g : Fo) (m : Int), (f.app g).left m = if f.left m < 0 then f.left m else g.left (f.left m)
  | .nil, g, m => by
    simp only [Fo.app, Fo.left]
    by_cases h : m < 0
    · simp [h, Fo.left_neg g h]
    · simp [h]
  | .cons _ t kids r, g, m => by
    simp only [Fo.app, Fo.left]
    by_cases h : m < 0
    · simp [h]
    · simp only [if_neg h]; exact Fo.left_app r g _
theorem Fo.count_snoc {f : Fo} {i : Nat} {x : Nd} (h : f.get? i = some x) : (f.take (i + 1)).count = (f.take i).count + x.count := by
  rw [Fo.take_snoc h, Fo.count_app]; simp [Fo.count, Nd.count]
theorem Fo.deep_snoc {f : Fo} {i : Nat} {x : Nd} (h : f.get? i = some x) : (f.take (i + 1)).deep = max (f.take i).deep x.deep := by
  rw [Fo.take_snoc h, Fo.deep_app]; simp [Fo.deep, Nd.deep]
theorem Fo.left_snoc {f : Fo} {i : Nat} {x : Nd} (h : f.get? i = some x) {m : Int} (h0 : 0 ≤ (f.take i).left m) : (f.take (i + 1)).left m = x.left ((f.take i).left m) := by
  rw [Fo.take_snoc h, Fo.left_app, if_neg (by omega)]; simp [Fo.left, Nd.left]; omega
theorem Fo.take_drop : ∀ (f : Fo) (i : Nat), (f.take i).app (f.drop i) = f
  | _, 0 => by simp [Fo.take, Fo.app, Fo.drop]
  | .nil, _ + 1 => rfl
  | .cons k t kids r, i + 1 => by simp [Fo.take, Fo.app, Fo.drop, Fo.take_drop r i]
theorem Fo.left_stop {f : Fo} {i : Nat} {m : Int} (h : (f.take i).left m < 0) : f.left m = (f.take i).left m := by
  have e := Fo.left_app (f.take i) (f.drop i) m
  rw [Fo.take_drop, if_pos h] at e
  exact e
theorem Fo.weight_get {f : Fo} {i : Nat} {x : Nd} (h : f.get? i = some x) : (f.take i).weight + x.weight ≤ f.weight := by
  have e := Fo.weight_app (f.take i) (f.drop i)
  rw [Fo.take_drop, Fo.drop_get h] at e
  simp only [Fo.weight] at e
  simp only [Nd.weight]; omega
theorem Fo.count_get {f : Fo} {i : Nat} {x : Nd} (h : f.get? i = some x) : (f.take i).count + x.count ≤ f.count := by
  have e := Fo.count_app (f.take i) (f.drop i)
  rw [Fo.take_drop, Fo.drop_get h] at e
  simp only [Fo.count] at e
  simp only [Nd.count]; omega
theorem Fo.take_weight (f : Fo) (i : Nat) : (f.take i).weight ≤ f.weight := by
  have e := Fo.weight_app (f.take i) (f.drop i)
  rw [Fo.take_drop] at e; omega
theorem Fo.len_le : ∀ f : Fo, f.len ≤ f.count
  | .nil => Nat.le_refl _
  | .cons _ _ kids r => by
    have := Fo.len_le r
    simp only [Fo.len, Fo.count]; omega
theorem Nd.count_le (x : Nd) : x.count ≤ x.weight := by
  have := Fo.count_le x.kids
  simp only [Nd.count, Nd.weight]; omega
theorem Nd.deep_le (x : Nd) : x.deep ≤ x.count := by
  have := Fo.deep_le x.kids
  simp only [Nd.deep, Nd.count]; omega

/-- No text is longer than B. -/
def Fo.Tx (B : Nat) : Fo → Prop
  | .nil => True
  | .cons _ t kids r => t.size ≤ B ∧ kids.Tx B ∧ r.Tx B
def Nd.Tx (B : Nat) (x : Nd) : Prop := x.t.size ≤ B ∧ x.kids.Tx B
theorem Fo.Tx.get {B : Nat} : ∀ {f : Fo} {i : Nat} {x : Nd}, f.Tx B → f.get? i = some x → x.Tx B
  | .nil, _, _, _, h => by cases h
  | .cons _ _ _ _, 0, _, ha, h => by cases h; exact ⟨ha.1, ha.2.1⟩
  | .cons _ _ _ r, i + 1, _, ha, h => Fo.Tx.get (f := r) ha.2.2 h
theorem Fo.Tx.take {B : Nat} : ∀ {f : Fo} (i : Nat), f.Tx B → (f.take i).Tx B
  | f, 0, _ => by cases f <;> exact trivial
  | .nil, _ + 1, _ => trivial
  | .cons _ _ _ r, i + 1, h => ⟨h.1, h.2.1, Fo.Tx.take (f := r) i h.2.2⟩
theorem Fo.left_le : ∀ (f : Fo) (m : Int), f.left m ≤ m
  | .nil, _ => Int.le_refl _
  | .cons _ t kids r, m => by
    rw [Fo.left]
    split
    · exact Int.le_refl _
    · have := Fo.left_le kids (m - (1 + t.size))
      have := Fo.left_le r (kids.left (m - (1 + t.size)))
      omega
theorem Fo.left_ge {B : Nat} : ∀ {f : Fo} (m : Int), f.Tx B → -(1 + (B : Int)) ≤ m → -(1 + (B : Int)) ≤ f.left m
  | .nil, _, _, h => h
  | .cons _ t kids r, m, ht, h => by
    rw [Fo.left]
    split
    · exact h
    · have h1 := ht.1
      exact Fo.left_ge _ ht.2.2 (Fo.left_ge _ ht.2.1 (by omega))
theorem Nd.left_le (x : Nd) (m : Int) : x.left m ≤ m := by
  have := Fo.left_le x.kids (m - (1 + x.t.size))
  unfold Nd.left; omega
theorem Nd.left_ge {B : Nat} {x : Nd} {m : Int} (h : x.Tx B) (hm : 0 ≤ m) : -(1 + (B : Int)) ≤ x.left m := by
  have h1 := h.1
  exact Fo.left_ge _ h.2 (by omega)
theorem Fo.Tx.of_weight {B : Nat} : ∀ {f : Fo}, f.weight ≤ B → f.Tx B
  | .nil, _ => trivial
  | .cons _ t kids r, h => by
    simp only [Fo.weight] at h
    exact ⟨by omega, Fo.Tx.of_weight (by omega), Fo.Tx.of_weight (by omega)⟩
theorem Nd.Tx.of_weight {B : Nat} {x : Nd} (h : x.weight ≤ B) : x.Tx B := by
  simp only [Nd.weight] at h
  exact ⟨by omega, Fo.Tx.of_weight (by omega)⟩
end Go.Proofs.YtbdkemgfdghbkaaDoor.nd
