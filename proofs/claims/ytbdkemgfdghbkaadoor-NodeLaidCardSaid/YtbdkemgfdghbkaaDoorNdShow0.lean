/-
  node: how a tree is shown, node by node. No program.
-/
import Derived.Test.YtbdkemgfdghbkaaDoorNdIter
import Derived.Lib.ItoaLen
import Derived.Lib.QuoteLoop
namespace Go.Proofs.YtbdkemgfdghbkaaDoor.nd
open Go.RowKit sx ed
set_option linter.unusedVariables false

def quoteB (T : Lib.PrintTabs) (t : ByteArray) : ByteArray := strOfNums (Lib.quoteZ T t)
def headL (T : Lib.PrintTabs) (k : Int) (t : ByteArray) : List UInt8 := 40 :: (Lib.itoa k ++ 32 :: (quoteB T t).data.toList)
def itoaB (k : Int) : ByteArray := ⟨(Lib.itoa k).toArray⟩
def headB (T : Lib.PrintTabs) (k : Int) (t : ByteArray) : ByteArray := ⟨#[40]⟩ ++ itoaB k ++ ⟨#[32]⟩ ++ quoteB T t
theorem headB_list (T : Lib.PrintTabs) (k : Int) (t : ByteArray) : (headB T k t).data.toList = headL T k t := by
  simp [headB, headL, itoaB, ByteArray.data_append]
def Fo.show (T : Lib.PrintTabs) : Fo → List UInt8
  | .nil => []
  | .cons k t kids r => headL T k t ++ (kids.show T ++ 41 :: r.show T)
def Nd.show (T : Lib.PrintTabs) (x : Nd) : List UInt8 := headL T x.k x.t ++ (x.kids.show T ++ [41])

theorem Fo.show_app (T : Lib.PrintTabs) : ∀ f g : Fo, (f.app g).show T = f.show T ++ g.show T
  | .nil, _ => rfl
  | .cons k t kids r, g => by simp [Fo.app, Fo.show, Fo.show_app T r g]
theorem Fo.show_snoc (T : Lib.PrintTabs) {f : Fo} {i : Nat} {x : Nd} (h : f.get? i = some x) : (f.take (i + 1)).show T = (f.take i).show T ++ x.show T := by
  rw [Fo.take_snoc h, Fo.show_app]
  simp [Fo.show, Nd.show]

/-- Kinds that an int holds. -/
def Fo.Kd : Fo → Prop
  | .nil => True
  | .cons k _ kids r => (-9223372036854775808 ≤ k ∧ k ≤ 9223372036854775807) ∧ kids.Kd ∧ r.Kd
def Nd.Kd (x : Nd) : Prop := (-9223372036854775808 ≤ x.k ∧ x.k ≤ 9223372036854775807) ∧ x.kids.Kd
theorem Fo.Kd.get : ∀ {f : Fo} {i : Nat} {x : Nd}, f.Kd → f.get? i = some x → x.Kd
  | .nil, _, _, _, h => by cases h
  | .cons _ _ _ _, 0, _, ha, h => by cases h; exact ⟨ha.1, ha.2.1⟩
  | .cons _ _ _ r, i + 1, _, ha, h => Fo.Kd.get (f := r) ha.2.2 h

theorem headL_len (T : Lib.PrintTabs) (k : Int) (t : ByteArray) (h : -9223372036854775808 ≤ k ∧ k ≤ 9223372036854775807) : (headL T k t).length ≤ 25 + 10 * t.size := by
  have h1 := Lib.itoa_length_le k h.1 h.2
  have h2 := Lib.quoteZ_length_le T t
  have h3 : (quoteB T t).data.toList.length = (Lib.quoteZ T t).length := by simp [quoteB, strOfNums]
  simp only [headL, List.length_cons, List.length_append, h3]
  omega
theorem Fo.show_len (T : Lib.PrintTabs) : ∀ f : Fo, f.Kd → (f.show T).length ≤ 30 * f.weight
  | .nil, _ => by simp [Fo.show]
  | .cons k t kids r, h => by
    have h1 := headL_len T k t h.1
    have h2 := Fo.show_len T kids h.2.1
    have h3 := Fo.show_len T r h.2.2
    simp only [Fo.show, List.length_append, List.length_cons, Fo.weight]
    omega
theorem Nd.show_len (T : Lib.PrintTabs) (x : Nd) (h : x.Kd) : (x.show T).length ≤ 30 * x.weight := by
  have h1 := headL_len T x.k x.t h.1
  have h2 := Fo.show_len T x.kids h.2
  simp only [Nd.show, List.length_append, List.length_cons, List.length_nil, Nd.weight]
  omega

/-! ### Node by node -/

abbrev cl (n : Nat) : List UInt8 := List.replicate n 41
def clB (n : Nat) : ByteArray := ⟨(cl n).toArray⟩
theorem clB_size (n : Nat) : (clB n).size = n := by simp [clB, ByteArray.size]
theorem clB_list (n : Nat) : (clB n).data.toList = cl n := by simp [clB]
theorem itoaB_size (k : Int) (h : -9223372036854775808 ≤ k ∧ k ≤ 9223372036854775807) : (itoaB k).size ≤ 21 := by
  have := Lib.itoa_length_le k h.1 h.2
  exact this
theorem quoteB_size (T : Lib.PrintTabs) (t : ByteArray) : (quoteB T t).size ≤ 10 * t.size + 2 := by
  have := Lib.quoteZ_length_le T t
  unfold quoteB
  rw [strOfNums_size]; exact this
def stp (T : Lib.PrintTabs) (a : List UInt8 × Nat) (y : Told) : List UInt8 × Nat := (a.1 ++ (cl (a.2 - y.1.length) ++ headL T y.2.k y.2.t), y.1.length + 1)
def runs (T : Lib.PrintTabs) (ys : List Told) (a : List UInt8 × Nat) : List UInt8 × Nat := ys.foldl (stp T) a
theorem runs_append (T : Lib.PrintTabs) (a b : List Told) (c : List UInt8 × Nat) : runs T (a ++ b) c = runs T b (runs T a c) := List.foldl_append ..
theorem runs_len (T : Lib.PrintTabs) : ∀ (ys : List Told) (a : List UInt8 × Nat), a.1.length ≤ (runs T ys a).1.length
  | [], _ => Nat.le_refl _
  | y :: r, a => by
    have := runs_len T r (stp T a y)
    simp only [runs, List.foldl_cons] at this ⊢
    simp only [stp, List.length_append] at this
    exact Nat.le_trans (by omega) this
/-- No node stands deeper than what is open. -/
def Fine : Nat → List Told → Prop
  | _, [] => True
  | o, y :: r => y.1.length ≤ o ∧ Fine (y.1.length + 1) r
theorem Fine.of_append {T : Lib.PrintTabs} : ∀ {xs ys : List Told} {a : List UInt8 × Nat}, Fine a.2 xs → Fine (runs T xs a).2 ys → Fine a.2 (xs ++ ys)
  | [], _, _, _, h => h
  | x :: r, ys, a, h, k => ⟨h.1, Fine.of_append (T := T) (xs := r) (ys := ys) (a := stp T a x) h.2 k⟩
theorem Fine.at {T : Lib.PrintTabs} : ∀ {xs ys : List Told} {y : Told} {a : List UInt8 × Nat}, Fine a.2 (xs ++ y :: ys) → y.1.length ≤ (runs T xs a).2
  | [], _, _, _, h => h.1
  | x :: r, ys, y, a, h => Fine.at (T := T) (xs := r) (a := stp T a x) h.2
theorem cl_split {a b c : Nat} (h1 : c ≤ b) (h2 : b ≤ a) : cl (a - c) = cl (a - b) ++ cl (b - c) := by
  rw [cl, cl, cl, List.replicate_append_replicate]
  congr 1
  omega
theorem Fo.runs_walk (T : Lib.PrintTabs) : ∀ (p : List Nat) (f : Fo) (i : Nat) (a : List UInt8 × Nat), p.length + 1 ≤ a.2 →
    p.length + 1 ≤ (runs T (f.walk p i) a).2 ∧ (runs T (f.walk p i) a).1 ++ cl ((runs T (f.walk p i) a).2 - (p.length + 1)) = a.1 ++ (cl (a.2 - (p.length + 1)) ++ f.show T) ∧ Fine a.2 (f.walk p i)
  | _, .nil, _, a, h => by simp [Fo.walk, runs, Fo.show, Fine, h]
  | p, .cons k t kids r, i, a, h => by
    obtain ⟨k1, k2, k3⟩ := Fo.runs_walk T (p ++ [i]) kids 0 (stp T a (p ++ [i], ⟨k, t, kids⟩)) (by simp [stp])
    simp only [List.length_append, List.length_cons, List.length_nil, Nat.zero_add] at k1 k2
    obtain ⟨A, hA⟩ : ∃ A, runs T (kids.walk (p ++ [i]) 0) (stp T a (p ++ [i], ⟨k, t, kids⟩)) = A := ⟨_, rfl⟩
    rw [hA] at k1 k2
    obtain ⟨r1, r2, r3⟩ := Fo.runs_walk T p r (i + 1) A (by omega)
    have hw : (Fo.cons k t kids r).walk p i = (p ++ [i], ⟨k, t, kids⟩) :: (kids.walk (p ++ [i]) 0 ++ r.walk p (i + 1)) := by simp [Fo.walk]
    have hr : runs T ((Fo.cons k t kids r).walk p i) a = runs T (r.walk p (i + 1)) A := by
      rw [hw, ← hA]
      simp only [runs, List.foldl_cons, List.foldl_append]
    rw [hr]
    refine ⟨r1, ?_, ?_⟩
    · rw [r2, ← List.append_assoc, cl_split (a := A.2) (b := p.length + 1 + 1) (c := p.length + 1) (by omega) (by omega), ← List.append_assoc, k2]
      simp only [stp, Fo.show, List.length_append, List.length_cons, List.length_nil, Nat.zero_add, Nat.sub_self, Nat.add_sub_cancel_left]
      simp [cl]
    · rw [hw]
      refine ⟨by simp; omega, Fine.of_append (T := T) (a := stp T a (p ++ [i], ⟨k, t, kids⟩)) k3 ?_⟩
      rw [hA]; exact r3
/-- The whole. -/
theorem Nd.runs_walk (T : Lib.PrintTabs) (x : Nd) : (runs T (x.walk []) ([], 0)).1 ++ cl (runs T (x.walk []) ([], 0)).2 = x.show T ∧ Fine 0 (x.walk []) := by
  obtain ⟨h1, h2, h3⟩ := Fo.runs_walk T [] x.kids 0 (stp T ([], 0) ([], x)) (by simp [stp])
  have hr : runs T (x.walk []) ([], 0) = runs T (x.kids.walk [] 0) (stp T ([], 0) ([], x)) := rfl
  rw [hr]
  simp only [List.length_nil, Nat.zero_add] at h1 h2
  refine ⟨?_, ⟨Nat.le_refl _, h3⟩⟩
  obtain ⟨A, hA⟩ : ∃ A, runs T (x.kids.walk [] 0) (stp T ([], 0) ([], x)) = A := ⟨_, rfl⟩
  rw [hA] at h1 h2 ⊢
  rw [show A.2 = (A.2 - 1) + 1 by omega, show cl (A.2 - 1 + 1) = cl (A.2 - 1) ++ [41] from List.replicate_succ', ← List.append_assoc, h2]
  simp [stp, Nd.show, cl]
theorem runs_bound (T : Lib.PrintTabs) (x : Nd) (hk : x.Kd) {pre rest : List Told} (h : x.walk [] = pre ++ rest) : (runs T pre ([], 0)).1.length ≤ 30 * x.weight := by
  have h1 := (Nd.runs_walk T x).1
  rw [h, runs_append] at h1
  have h2 := runs_len T rest (runs T pre ([], 0))
  have h3 := Nd.show_len T x hk
  rw [← h1] at h3
  simp at h3
  omega
theorem runs_snd (T : Lib.PrintTabs) (B : Nat) : ∀ (ys : List Told) (a : List UInt8 × Nat), a.2 ≤ B → (∀ y ∈ ys, y.1.length + 1 ≤ B) → (runs T ys a).2 ≤ B
  | [], _, h, _ => h
  | y :: r, a, _, h => runs_snd T B r (stp T a y) (h y (List.mem_cons_self ..)) (fun z hz => h z (List.mem_cons_of_mem _ hz))
theorem Fo.walk_of : ∀ (p : List Nat) (f : Fo) (i : Nat) (y : Told), y ∈ f.walk p i → f.Kd → (-9223372036854775808 ≤ y.2.k ∧ y.2.k ≤ 9223372036854775807) ∧ y.2.t.size ≤ f.weight
  | _, .nil, _, _, h, _ => by simp [Fo.walk] at h
  | p, .cons k t kids r, i, y, h, hk => by
    have hw : (Fo.cons k t kids r).walk p i = (p ++ [i], ⟨k, t, kids⟩) :: (kids.walk (p ++ [i]) 0 ++ r.walk p (i + 1)) := by simp [Fo.walk]
    rw [hw, List.mem_cons, List.mem_append] at h
    simp only [Fo.weight]
    rcases h with rfl | h | h
    · exact ⟨hk.1, by simp; omega⟩
    · have := Fo.walk_of (p ++ [i]) kids 0 y h hk.2.1
      exact ⟨this.1, by omega⟩
    · have := Fo.walk_of p r (i + 1) y h hk.2.2
      exact ⟨this.1, by omega⟩
theorem Nd.walk_of {x : Nd} {p : List Nat} {y : Told} (h : y ∈ x.walk p) (hk : x.Kd) : (-9223372036854775808 ≤ y.2.k ∧ y.2.k ≤ 9223372036854775807) ∧ y.2.t.size ≤ x.weight := by
  simp only [Nd.walk, List.mem_cons] at h
  simp only [Nd.weight]
  rcases h with rfl | h
  · exact ⟨hk.1, by simp; omega⟩
  · have := Fo.walk_of p x.kids 0 y h hk.2
    exact ⟨this.1, by omega⟩
end Go.Proofs.YtbdkemgfdghbkaaDoor.nd
