/-
  edit.commonFront, edit.commonEnd and edit.Diff: the contracts.
-/
import Derived.Test.YtepniobmhplphaaEdKnown
import Derived.Deep.QuietTactic
import Derived.BigQuiet
namespace Go.Proofs.Ytepniobmhplphaa.ed
open Go.RowKit
set_option linter.unusedVariables false

/-- How many two lists have in common at their fronts. -/
def com : List UInt8 → List UInt8 → Nat
  | a :: r, b :: t => if a = b then com r t + 1 else 0
  | [], _ => 0
  | _, [] => 0
theorem com_nil_r : ∀ l, com l [] = 0
  | [] => rfl
  | _ :: _ => rfl
theorem com_le : ∀ l m : List UInt8, com l m ≤ l.length ∧ com l m ≤ m.length
  | [], _ => by simp [com]
  | a :: r, [] => by simp [com]
  | a :: r, b :: t => by
    have := com_le r t
    simp only [com]
    split <;> simp <;> omega
theorem com_take : ∀ l m : List UInt8, l.take (com l m) = m.take (com l m)
  | [], m => by simp [com]
  | a :: r, [] => by simp [com]
  | a :: r, b :: t => by
    have := com_take r t
    simp only [com]
    split
    · rename_i h; subst h; simp [this]
    · simp
theorem com_max : ∀ (k : Nat) (l m : List UInt8), l.take k = m.take k → k ≤ l.length → k ≤ m.length → k ≤ com l m
  | 0, _, _, _, _, _ => Nat.zero_le _
  | k + 1, [], m, _, h, _ => by simp at h
  | k + 1, a :: r, [], _, _, h => by simp at h
  | k + 1, a :: r, b :: t, h, h1, h2 => by
    simp at h h1 h2
    obtain ⟨rfl, h⟩ := h
    have := com_max k r t h (by omega) (by omega)
    simp only [com]
    simp
    omega
theorem com_step (l m : List UInt8) (h1 : 0 < l.length) (h2 : 0 < m.length) : com l m = if l[0] = m[0] then com (l.drop 1) (m.drop 1) + 1 else 0 := by
  match l, m, h1, h2 with
  | a :: r, b :: t, _, _ => simp [com]
theorem com_at (l m : List UInt8) (k : Nat) (h1 : k < l.length) (h2 : k < m.length) : com (l.drop k) (m.drop k) = if l[k] = m[k] then com (l.drop (k + 1)) (m.drop (k + 1)) + 1 else 0 := by
  rw [com_step _ _ (by simp; omega) (by simp; omega)]
  simp [List.getElem_drop]
theorem com_out (l m : List UInt8) (k : Nat) (h : l.length ≤ k ∨ m.length ≤ k) : com (l.drop k) (m.drop k) = 0 := by
  have h1 := com_le (l.drop k) (m.drop k)
  simp only [List.length_drop] at h1
  omega

theorem bel_drewN {B : Nat} {a w : World} (h : Below B a w) (n : Nat) : Below B a (w.drewN n) := h.trans ⟨rfl, rfl, rfl, Nat.le_refl _, fun _ _ => rfl⟩

def frontF (a b : ByteArray) : Nat := com a.data.toList b.data.toList
def endF (a b : ByteArray) : Nat := com a.data.toList.reverse b.data.toList.reverse

theorem toNat_beq (x y : UInt8) : ((x.toNat : Int) == (y.toNat : Int)) = decide (x = y) := by
  by_cases h : x = y
  · subst h; simp
  · rw [decide_eq_false h, beq_eq_false_iff_ne]
    intro e
    exact h (UInt8.toNat_inj.1 (by omega))

set_option maxRecDepth 100000 in
set_option maxHeartbeats 2000000 in
theorem front_calls (a b : ByteArray) (ha : a.size ≤ 281474976710656) (w : World) :
    Calls Try.prog 28 #[.string a, .string b] w fun e w' => e = .returned (.int .i64 (frontF a b : Int)) ∧ ∃ nq, w' = w.drewN nq := by
  go_enter Try.func28, Try.ntmps28
  go_wp2_with fail
  go_loopw [5] (fun i wr => ∃ k nq : Nat, i = .int .i64 (k : Int) ∧ k ≤ a.size ∧ k ≤ b.size ∧ k + com (a.data.toList.drop k) (b.data.toList.drop k) = frontF a b ∧ wr = w.drewN nq) (fun i _ => a.size - (intOf i).toNat)
  case atStart => exact ⟨0, 0, rfl, Nat.zero_le _, Nat.zero_le _, by simp [frontF], rfl⟩
  case round =>
    obtain ⟨k, nq, rfl, hka, hkb, hc, rfl⟩ := hrel
    by_cases h1 : k < a.size
    · have t1 : decide ((k : Int) < (a.size : Int)) = true := decide_eq_true (by omega)
      by_cases h2 : k < b.size
      · have t2 : decide ((k : Int) < (b.size : Int)) = true := decide_eq_true (by omega)
        have hat := com_at a.data.toList b.data.toList k (by rw [size_toList]; exact h1) (by rw [size_toList]; exact h2)
        have t3 := toNat_beq (a[k]'h1) (b[k]'h2)
        by_cases h3 : a[k]'h1 = b[k]'h2
        · rw [decide_eq_true h3] at t3
          rw [if_pos (show a.data.toList[k]'(by rw [size_toList]; exact h1) = b.data.toList[k]'(by rw [size_toList]; exact h2) from h3)] at hat
          rw [hat] at hc
          have HC := Lib.hid hc
          clear hc hat h3
          go_wp2_with fail
          go_quiet (fail)
          rename_i nq2
          rw [World.drewN_drewN]
          go_wp2_with fail
          go_roundw
          case rel => exact ⟨k + 1, _, by go_num, by omega, by omega, by have := HC.out; omega, rfl⟩
          case measure => simp [intOf]; omega
        · rw [decide_eq_false h3] at t3
          rw [if_neg (show ¬ a.data.toList[k]'(by rw [size_toList]; exact h1) = b.data.toList[k]'(by rw [size_toList]; exact h2) from h3)] at hat
          rw [hat] at hc
          have HC := Lib.hid hc
          clear hc hat h3
          go_wp2_with fail
          go_quiet (fail)
          rename_i nq2
          rw [World.drewN_drewN]
          go_wp2_with fail
          go_ret
          exact ⟨by rw [← HC.out]; rfl, _, rfl⟩
      · have t2 : decide ((k : Int) < (b.size : Int)) = false := decide_eq_false (by omega)
        rw [com_out _ _ _ (.inr (by rw [size_toList]; omega))] at hc
        have HC := Lib.hid hc
        clear hc
        go_wp2_with fail
        go_quiet (fail)
        rename_i nq2
        rw [World.drewN_drewN]
        go_wp2_with fail
        go_ret
        exact ⟨by rw [← HC.out]; rfl, _, rfl⟩
    · have t1 : decide ((k : Int) < (a.size : Int)) = false := decide_eq_false (by omega)
      rw [com_out _ _ _ (.inl (by rw [size_toList]; omega))] at hc
      have HC := Lib.hid hc
      clear hc
      go_wp2_with fail
      go_quiet (fail)
      rename_i nq2
      rw [World.drewN_drewN]
      go_wp2_with fail
      go_ret
      exact ⟨by rw [← HC.out]; rfl, _, rfl⟩

theorem rev_at (s : ByteArray) (k : Nat) (h : k < s.size) : s.data.toList.reverse[k]'(by rw [List.length_reverse, size_toList]; exact h) = s[s.size - 1 - k]'(by omega) := by
  rw [List.getElem_reverse]
  simp only [size_toList]
  rfl

set_option maxRecDepth 100000 in
set_option maxHeartbeats 2000000 in
theorem end_calls (a b : ByteArray) (ha : a.size ≤ 281474976710656) (hb : b.size ≤ 281474976710656) (w : World) :
    Calls Try.prog 29 #[.string a, .string b] w fun e w' => e = .returned (.int .i64 (endF a b : Int)) ∧ ∃ nq, w' = w.drewN nq := by
  go_enter Try.func29, Try.ntmps29
  go_wp2_with fail
  go_loopw [5] (fun i wr => ∃ k nq : Nat, i = .int .i64 (k : Int) ∧ k ≤ a.size ∧ k ≤ b.size ∧ k + com (a.data.toList.reverse.drop k) (b.data.toList.reverse.drop k) = endF a b ∧ wr = w.drewN nq) (fun i _ => a.size - (intOf i).toNat)
  case atStart => exact ⟨0, 0, rfl, Nat.zero_le _, Nat.zero_le _, by simp [endF], rfl⟩
  case round =>
    obtain ⟨k, nq, rfl, hka, hkb, hc, rfl⟩ := hrel
    by_cases h1 : k < a.size
    · have t1 : decide ((k : Int) < (a.size : Int)) = true := decide_eq_true (by omega)
      by_cases h2 : k < b.size
      · have t2 : decide ((k : Int) < (b.size : Int)) = true := decide_eq_true (by omega)
        have hat := com_at a.data.toList.reverse b.data.toList.reverse k (by rw [List.length_reverse, size_toList]; exact h1) (by rw [List.length_reverse, size_toList]; exact h2)
        rw [rev_at a k h1, rev_at b k h2] at hat
        obtain ⟨p, hp, hpl⟩ : ∃ p : Nat, a.size - 1 - k = p ∧ p < a.size := ⟨_, rfl, by omega⟩
        obtain ⟨q, hq, hql⟩ : ∃ q : Nat, b.size - 1 - k = q ∧ q < b.size := ⟨_, rfl, by omega⟩
        have wa1 : wrap64 ((a.size : Int) - 1) = (a.size : Int) - 1 := IntWalk.wrap64_in _ (by omega)
        have wb1 : wrap64 ((b.size : Int) - 1) = (b.size : Int) - 1 := IntWalk.wrap64_in _ (by omega)
        have wa : wrap64 ((a.size : Int) - 1 - (k : Int)) = (p : Int) := by rw [IntWalk.wrap64_in _ (by omega)]; omega
        have wb : wrap64 ((b.size : Int) - 1 - (k : Int)) = (q : Int) := by rw [IntWalk.wrap64_in _ (by omega)]; omega
        have wa' : (a.size : Int) - 1 - (k : Int) = (p : Int) := by omega
        have wb' : (b.size : Int) - 1 - (k : Int) = (q : Int) := by omega
        simp only [hp, hq] at hat
        have t3 := toNat_beq (a[p]'hpl) (b[q]'hql)
        by_cases h3 : a[p]'hpl = b[q]'hql
        · rw [decide_eq_true h3] at t3
          rw [if_pos h3] at hat
          rw [hat] at hc
          have HC := Lib.hid hc
          clear hc hat h3
          go_wp2_with fail
          go_quiet (fail)
          rename_i nq2
          rw [World.drewN_drewN]
          go_wp2_with fail
          go_roundw
          case rel => exact ⟨k + 1, _, by go_num, by omega, by omega, by have := HC.out; omega, rfl⟩
          case measure => simp [intOf]; omega
        · rw [decide_eq_false h3] at t3
          rw [if_neg h3] at hat
          rw [hat] at hc
          have HC := Lib.hid hc
          clear hc hat h3
          go_wp2_with fail
          go_quiet (fail)
          rename_i nq2
          rw [World.drewN_drewN]
          go_wp2_with fail
          go_ret
          exact ⟨by rw [← HC.out]; rfl, _, rfl⟩
      · have t2 : decide ((k : Int) < (b.size : Int)) = false := decide_eq_false (by omega)
        rw [com_out _ _ _ (.inr (by rw [List.length_reverse, size_toList]; omega))] at hc
        have HC := Lib.hid hc
        clear hc
        go_wp2_with fail
        go_quiet (fail)
        rename_i nq2
        rw [World.drewN_drewN]
        go_wp2_with fail
        go_ret
        exact ⟨by rw [← HC.out]; rfl, _, rfl⟩
    · have t1 : decide ((k : Int) < (a.size : Int)) = false := decide_eq_false (by omega)
      rw [com_out _ _ _ (.inl (by rw [List.length_reverse, size_toList]; omega))] at hc
      have HC := Lib.hid hc
      clear hc
      go_wp2_with fail
      go_quiet (fail)
      rename_i nq2
      rw [World.drewN_drewN]
      go_wp2_with fail
      go_ret
      exact ⟨by rw [← HC.out]; rfl, _, rfl⟩

theorem clone_calls (s : ByteArray) (w : World) (hlim : s.size ≤ 281474976710656) :
    Calls Try.prog 30 #[.string s] w fun e w' => e = .returned (.string s) ∧ Below w.heap.size w w' := by
  go_enter Try.func30, Try.ntmps30
  go_wp2_with fail
  ((with_reducible refine (Try.stringslite_Clone s _ hlim).mono ?_); rintro e w1 ⟨rfl, hb1⟩)
  go_wp2_with fail
  go_ret
  exact ⟨rfl, hb1⟩

/-- Where the end that both have in common begins: of what stands behind the front. -/
def backF (a b : ByteArray) : Nat := endF (a.extract (frontF a b) a.size) (b.extract (frontF a b) b.size)
def diffF (a b : ByteArray) : List Ed := if a = b then [] else [⟨frontF a b, (a.size : Int) - backF a b, b.extract (frontF a b) (b.size - backF a b)⟩]
theorem frontF_le (a b : ByteArray) : frontF a b ≤ a.size ∧ frontF a b ≤ b.size := by
  have := com_le a.data.toList b.data.toList
  rw [size_toList, size_toList] at this
  exact this
theorem endF_le (a b : ByteArray) : endF a b ≤ a.size ∧ endF a b ≤ b.size := by
  have := com_le a.data.toList.reverse b.data.toList.reverse
  rw [List.length_reverse, List.length_reverse, size_toList, size_toList] at this
  exact this
theorem backF_le (a b : ByteArray) : frontF a b + backF a b ≤ a.size ∧ frontF a b + backF a b ≤ b.size := by
  have h := frontF_le a b
  have h2 := endF_le (a.extract (frontF a b) a.size) (b.extract (frontF a b) b.size)
  rw [ByteArray.size_extract, ByteArray.size_extract] at h2
  unfold backF
  omega

set_option maxRecDepth 100000 in
set_option maxHeartbeats 2000000 in
theorem diff_other (a b : ByteArray) (ha : a.size ≤ 140737488355328) (hb : b.size ≤ 140737488355328) (hne : ¬ a = b) (w : World) :
    Calls Try.prog 21 #[.string a, .string b] w fun e W' => ∃ v, e = .returned v ∧ EdsAt W'.heap.size W' v (diffF a b) ∧ Below w.heap.size w W' := by
  have t1 : (a.toList == b.toList) = false := by rw [beq_eq_false_iff_ne, Lib.toList_data, Lib.toList_data]; intro h; exact hne (by cases a; cases b; congr; exact Array.toList_inj.1 h)
  have hf := front_calls a b (by omega)
  have he := end_calls (a.extract (frontF a b) a.size) (b.extract (frontF a b) b.size) (by rw [ByteArray.size_extract]; omega) (by rw [ByteArray.size_extract]; omega)
  have hl := frontF_le a b
  have hl2 := backF_le a b
  unfold diffF
  rw [if_neg hne]
  have hback : endF (a.extract (frontF a b) a.size) (b.extract (frontF a b) b.size) = backF a b := rfl
  rw [hback] at he
  obtain ⟨n, hn⟩ : ∃ n, frontF a b = n := ⟨_, rfl⟩
  obtain ⟨k, hk⟩ : ∃ k, backF a b = k := ⟨_, rfl⟩
  rw [hk, hn] at he hl2 ⊢
  rw [hn] at hf hl
  have HF := Lib.hid hf; have HE := Lib.hid he
  clear hf he hback hn hk hne
  have hl1a : (n : Int) ≤ (a.size : Int) := by omega
  have hl1b : (n : Int) ≤ (b.size : Int) := by omega
  have wa : wrap64 ((a.size : Int) - (k : Int)) = (a.size : Int) - k := IntWalk.wrap64_in _ (by omega)
  obtain ⟨q, hq⟩ : ∃ q : Nat, b.size - k = q := ⟨_, rfl⟩
  have wb : wrap64 ((b.size : Int) - (k : Int)) = (q : Int) := by rw [IntWalk.wrap64_in _ (by omega)]; omega
  have wb' : (b.size : Int) - (k : Int) = (q : Int) := by omega
  rw [hq]
  have hnq : (n : Int) ≤ (q : Int) := by omega
  have hqb : (q : Int) ≤ (b.size : Int) := by omega
  go_enter Try.func21, Try.ntmps21
  go_wp2_with fail
  ((with_reducible refine (HF.out _).mono ?_); rintro e w0 ⟨rfl, nq1, hw0⟩)
  have HW0 := Lib.hid hw0
  clear hw0
  go_wp2_with fail
  go_quiet (first | (go_at_call 29; refine Calls.quiet_of (HE.out _)))
  go_wp2_with fail
  ((with_reducible refine (clone_calls _ _ (by rw [ByteArray.size_extract]; omega)).mono ?_); rintro e w1 ⟨rfl, hb1⟩)
  go_wp2_with fail
  go_ret
  refine ⟨_, rfl, EdsAt.new w1 [⟨(n : Int), (a.size : Int) - k, b.extract n q⟩] #[.int .i64 (n : Int), .int .i64 ((a.size : Int) - k), .string (b.extract n q)] rfl (by simp [maxLen]), ?_⟩
  have h0 : Below w.heap.size w w0 := by rw [HW0.out]; exact bel_drewN (Below.refl _ w) _
  exact Below.step (Below.step (bel_drewN h0 _) hb1) (Below.new w1 _)

theorem diff_calls (a b : ByteArray) (ha : a.size ≤ 140737488355328) (hb : b.size ≤ 140737488355328) (w : World) :
    Calls Try.prog 21 #[.string a, .string b] w fun e W' => ∃ v, e = .returned v ∧ EdsAt W'.heap.size W' v (diffF a b) ∧ Below w.heap.size w W' := by
  by_cases h : a = b
  · subst h
    unfold diffF
    rw [if_pos rfl]
    refine (diff_same a w).mono ?_
    rintro e W' ⟨rfl, hb⟩
    exact ⟨_, rfl, EdsAt.nil _ _, hb⟩
  · exact diff_other a b ha hb h w

end Go.Proofs.Ytepniobmhplphaa.ed
