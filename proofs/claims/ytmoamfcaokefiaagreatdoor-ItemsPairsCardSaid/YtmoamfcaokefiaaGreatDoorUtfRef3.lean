/-
  subeditorref01.Check, Wide, Place and Offset: their contracts.
-/
import Derived.Test.YtmoamfcaokefiaaGreatDoorUtfRef2
import Derived.Test.YtmoamfcaokefiaaGreatDoorUtfMath
namespace Go.Proofs.YtmoamfcaokefiaaGreatDoor.utf
open Go.RowKit
set_option linter.unusedVariables false
theorem Below.next {B : Nat} {w a b : World} (h : Below B w a) (k : Below a.heap.size a b) (hB : B ≤ w.heap.size) : Below B w b := h.trans (k.mono (Nat.le_trans hB h.size))

theorem one_drop (s : ByteArray) (hs : s.size ≤ 1000) (k r : Nat) (h : oneL (s.data.toList.drop k) = r) (w : World) :
    Calls Tryz.prog 54 #[.string (s.extract k s.size)] w fun e w' => e = .returned (.int .i64 (r : Int)) ∧ Below w.heap.size w w' := by
  have hsz : (s.extract k s.size).size ≤ 1000 := by rw [ByteArray.size_extract]; omega
  have h1 := one_calls (s.extract k s.size) hsz w
  rw [extract_drop, h] at h1
  exact h1

set_option maxRecDepth 100000 in
set_option maxHeartbeats 2000000 in
theorem refCheck_calls (s : ByteArray) (hs : s.size ≤ 1000) (w : World) : Calls Tryz.prog 26 #[.string s] w fun e w' => e = .returned (.int .i64 (checkF s)) ∧ Below w.heap.size w w' := by
  go_enter Tryz.func26, Tryz.ntmps26
  go_wp2_with fail
  go_loopw [3] (fun a wr => ∃ pos b : Nat, a = .int .i64 (pos : Int) ∧ pos ≤ s.size ∧ chkL b (s.data.toList.drop pos) pos = checkF s ∧ s.size ≤ pos + b ∧ Below w.heap.size w wr) (fun a _ => s.size - (intOf a).toNat)
  case atStart => exact ⟨0, s.size, rfl, Nat.zero_le _, by rw [checkF_L, size_toList]; rfl, by omega, Below.refl _ _⟩
  case round =>
    obtain ⟨pos, b, rfl, hpos, hc, hb, hB⟩ := hrel
    by_cases hlt : pos < s.size
    · have hne : s.data.toList.drop pos ≠ [] := fun e => (drop_ne s pos).1 e hlt
      have hle := oneL_le _ hne
      rw [List.length_drop, size_toList] at hle
      obtain ⟨b, rfl⟩ : ∃ b', b = b' + 1 := ⟨b - 1, by omega⟩
      obtain ⟨r, hr⟩ : ∃ r, oneL (s.data.toList.drop pos) = r := ⟨_, rfl⟩
      have ho := one_drop s hs pos r hr
      simp only [chkL] at hc
      rw [if_neg hne, hr, List.drop_drop] at hc
      rw [hr] at hle
      have HO := Lib.hid ho; have HC := Lib.hid hc
      have hposI : (pos : Int) ≤ (s.size : Int) := by omega
      clear ho hc hr hne
      by_cases h0 : r = 0
      · subst h0
        go_wp2_with fail
        ((with_reducible refine (HO.out _).mono ?_); rintro e w1 ⟨rfl, hb1⟩)
        go_wp2_with fail
        go_ret
        exact ⟨by have := HC.out; simp only [if_true] at this; rw [← this]; rfl, Below.next hB hb1 (Nat.le_refl _)⟩
      · have hz : ((r : Int) == 0) = false := by rw [beq_eq_false_iff_ne]; omega
        have HC2 := Lib.hid (show chkL b (s.data.toList.drop (pos + r)) (pos + r) = checkF s from by have := HC.out; rwa [if_neg h0] at this)
        go_wp2_with fail
        ((with_reducible refine (HO.out _).mono ?_); rintro e w1 ⟨rfl, hb1⟩)
        go_wp2_with fail
        go_roundw
        case rel => exact ⟨pos + r, b, by go_num, by omega, HC2.out, by omega, Below.next hB hb1 (Nat.le_refl _)⟩
        case measure => simp [intOf]; omega
    · have hnil := (drop_ne s pos).2 hlt
      rw [hnil, chkL_nil] at hc
      have HC := Lib.hid hc
      clear hc hnil
      go_wp2_with fail
      go_ret
      exact ⟨by rw [← HC.out]; rfl, hB⟩

def strLen : Value → Nat
  | .string u => u.size
  | _ => 0




end Go.Proofs.YtmoamfcaokefiaaGreatDoor.utf
