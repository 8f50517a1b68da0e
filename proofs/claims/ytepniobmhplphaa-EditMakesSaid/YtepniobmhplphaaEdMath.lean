/-
  What Diff, Apply and edits are, as lists: Diff makes the other text, and takes away least. No program.
-/
import Derived.Test.YtepniobmhplphaaEdEdits
namespace Go.Proofs.Ytepniobmhplphaa.ed
open Go.RowKit
set_option linter.unusedVariables false

theorem app_toList (a b : ByteArray) : (a ++ b).data.toList = a.data.toList ++ b.data.toList := by simp
theorem ext_toList (s : ByteArray) (a b : Nat) : (s.extract a b).data.toList = (s.data.toList.take b).drop a := by
  rw [ByteArray.data_extract, Array.toList_extract, List.extract_eq_take_drop, List.drop_take]
theorem ba_ext {a b : ByteArray} (h : a.data.toList = b.data.toList) : a = b := by
  cases a; cases b; congr; exact Array.toList_inj.1 h
theorem piece_toList (s : ByteArray) (a b : Nat) : (piece s a b).data.toList = (s.data.toList.take b).drop a := by
  unfold piece
  rw [ext_toList]
  rfl

theorem take_rev_drop (A : List UInt8) (n q : Nat) (h : q + n ≤ A.length) : (A.drop n).reverse.take q = (A.drop (A.length - q)).reverse := by
  rw [List.take_reverse, List.drop_drop, List.length_drop]
  congr 2
  omega

/-- The two ends are one. -/
theorem ends_same (a b : ByteArray) : a.data.toList.drop (a.size - backF a b) = b.data.toList.drop (b.size - backF a b) := by
  have hle := backF_le a b
  have h := com_take (a.data.toList.drop (frontF a b)).reverse (b.data.toList.drop (frontF a b)).reverse
  have hb : backF a b = com (a.data.toList.drop (frontF a b)).reverse (b.data.toList.drop (frontF a b)).reverse := by
    unfold backF endF
    rw [ext_toList, ext_toList, ← size_toList a, ← size_toList b, List.take_length, List.take_length]
  rw [← hb, take_rev_drop _ _ _ (by rw [size_toList]; omega), take_rev_drop _ _ _ (by rw [size_toList]; omega), List.reverse_inj, size_toList, size_toList] at h
  exact h
/-- A longer end is none. -/
theorem ends_most (a b : ByteArray) (q : Nat) (h1 : q + frontF a b ≤ a.size) (h2 : q + frontF a b ≤ b.size) (h : a.data.toList.drop (a.size - q) = b.data.toList.drop (b.size - q)) : q ≤ backF a b := by
  have hb : backF a b = com (a.data.toList.drop (frontF a b)).reverse (b.data.toList.drop (frontF a b)).reverse := by
    unfold backF endF
    rw [ext_toList, ext_toList, ← size_toList a, ← size_toList b, List.take_length, List.take_length]
  rw [hb]
  refine com_max _ _ _ ?_ (by simp; omega) (by simp; omega)
  rw [take_rev_drop _ _ _ (by rw [size_toList]; omega), take_rev_drop _ _ _ (by rw [size_toList]; omega), List.reverse_inj, size_toList, size_toList]
  exact h

theorem apply_diff (a b : ByteArray) : applyR a (diffF a b) = (b, 0) := by
  unfold diffF applyR
  by_cases h : a = b
  · subst h
    rw [if_pos rfl, if_pos (by rfl)]
    refine Prod.ext (ba_ext ?_) rfl
    show madeAll a [] = a.data.toList
    unfold madeAll
    simp only [madeL, lastT, List.nil_append]
    rw [show (0 : Int) = ((0 : Nat) : Int) from rfl, piece_toList, ← size_toList, List.take_length]
    rfl
  · rw [if_neg h]
    have hle := backF_le a b
    have hend := ends_same a b
    have hfr : a.data.toList.take (frontF a b) = b.data.toList.take (frontF a b) := com_take _ _
    obtain ⟨n, hn⟩ : ∃ n, frontF a b = n := ⟨_, rfl⟩
    obtain ⟨k, hk⟩ : ∃ k, backF a b = k := ⟨_, rfl⟩
    rw [hn, hk] at hle
    rw [hk] at hend
    rw [hn] at hfr
    rw [hn, hk]
    have hr : rightF [⟨(n : Int), (a.size : Int) - k, b.extract n (b.size - k)⟩] a.size = true := by simp [rightF, rightG, bad]; omega
    rw [if_pos hr]
    refine Prod.ext (ba_ext ?_) rfl
    show madeAll a _ = b.data.toList
    unfold madeAll
    simp only [madeL, lastT, List.append_nil]
    rw [show (0 : Int) = ((0 : Nat) : Int) from rfl, show (a.size : Int) - (k : Int) = ((a.size - k : Nat) : Int) by omega, piece_toList, piece_toList, ext_toList, List.drop_zero, hfr]
    rw [← size_toList a, List.take_length, size_toList a, hend]
    have e1 : b.data.toList.take n = (b.data.toList.take (b.size - k)).take n := by rw [List.take_take]; congr 1; omega
    rw [e1, List.take_append_drop, List.take_append_drop]

theorem diff_length (a b : ByteArray) : (diffF a b).length ≤ 1 := by unfold diffF; split <;> simp
theorem diff_empty (a b : ByteArray) (h : (diffF a b).length = 0) : a = b := by
  unfold diffF at h
  split at h
  · assumption
  · simp at h

/-- One edit that makes b of a takes away at least as much. -/
theorem diff_least (a b : ByteArray) (e l : Ed) (he : applyR a [e] = (b, 0)) (hl : diffF a b = [l]) : l.t - l.f ≤ e.t - e.f := by
  unfold applyR at he
  by_cases hr : rightF [e] a.size = true
  · rw [if_pos hr] at he
    have hb : madeAll a [e] = b.data.toList := by
      have := congrArg (fun p => p.1.data.toList) he
      exact this
    unfold rightF at hr
    simp only [rightG, bad, Bool.and_eq_true, Bool.not_eq_true', Bool.or_eq_false_iff, decide_eq_false_iff_not] at hr
    obtain ⟨f, hf⟩ : ∃ f : Nat, e.f = f := ⟨e.f.toNat, by omega⟩
    obtain ⟨t, ht⟩ : ∃ t : Nat, e.t = t := ⟨e.t.toNat, by omega⟩
    have hft : f ≤ t := by omega
    have hta : t ≤ a.size := by omega
    unfold madeAll at hb
    simp only [madeL, lastT, List.append_nil] at hb
    rw [hf, ht, show (0 : Int) = ((0 : Nat) : Int) from rfl, piece_toList, piece_toList, List.drop_zero, ← size_toList a, List.take_length] at hb
    have hA : a.data.toList.length = a.size := size_toList a
    have hB : b.data.toList.length = b.size := size_toList b
    have hlen := congrArg List.length hb
    simp only [List.length_append, List.length_take, List.length_drop, hA, hB, size_toList] at hlen
    have hfront : f ≤ frontF a b := by
      refine com_max _ _ _ ?_ (by omega) (by omega)
      rw [← hb, List.append_assoc, List.take_append]
      simp [hA, Nat.min_eq_left (Nat.le_trans hft hta), List.take_take]
    have hend : a.data.toList.drop t = b.data.toList.drop (b.size - (a.size - t)) := by
      have e9 : (a.data.toList.take f ++ e.x.data.toList).drop (b.size - (a.size - t)) = [] := List.drop_eq_nil_of_le (by simp only [List.length_append, List.length_take, size_toList]; omega)
      rw [← hb, List.drop_append, e9, List.nil_append]
      have e0 : b.size - (a.size - t) - (a.data.toList.take f ++ e.x.data.toList).length = 0 := by simp only [List.length_append, List.length_take, size_toList]; omega
      rw [e0, List.drop_zero]
    have hback : min (a.size - t) (min a.size b.size - frontF a b) ≤ backF a b := by
      have hfl := frontF_le a b
      refine ends_most a b _ (by omega) (by omega) ?_
      obtain ⟨q, hq⟩ : ∃ q, min (a.size - t) (min a.size b.size - frontF a b) = q := ⟨_, rfl⟩
      rw [hq]
      have e1 : a.data.toList.drop (a.size - q) = (a.data.toList.drop t).drop (a.size - q - t) := by rw [List.drop_drop]; congr 1; omega
      have e2 : b.data.toList.drop (b.size - q) = (b.data.toList.drop (b.size - (a.size - t))).drop (a.size - q - t) := by rw [List.drop_drop]; congr 1; omega
      rw [e1, e2, hend]
    have hle := backF_le a b
    have hfl := frontF_le a b
    unfold diffF at hl
    split at hl
    · cases hl
    · injection hl with h1 _
      subst h1
      show (a.size : Int) - (backF a b : Int) - (frontF a b : Int) ≤ e.t - e.f
      omega
  · rw [if_neg hr] at he
    cases he

end Go.Proofs.Ytepniobmhplphaa.ed
