/-
  subeditorref01.One: how many bytes the rune at the front has.
-/
import Derived.Test.YtmoamfcaokefiaaGreatDoorUtfRef1
namespace Go.Proofs.YtmoamfcaokefiaaGreatDoor.utf
open Go.RowKit
set_option linter.unusedVariables false

set_option maxRecDepth 100000 in
set_option maxHeartbeats 2000000 in
theorem one_empty (s : ByteArray) (h : s.size = 0) (w : World) : Calls Tryz.prog 54 #[.string s] w fun e w' => e = .returned (.int .i64 0) ∧ Below w.heap.size w w' := by
  have hl : s.data.toList = [] := List.length_eq_zero_iff.1 (by rw [size_toList]; exact h)
  have hs : s = ⟨#[]⟩ := by cases s; simp at hl; subst hl; rfl
  subst hs
  go_enter Tryz.func54, Tryz.ntmps54
  go_wp2_with fail
  go_ret
  exact ⟨rfl, Below.refl _ _⟩

theorem ne_empty (s : ByteArray) (h : 0 < s.size) : s.toList.isEmpty = false := by
  rw [Lib.toList_data]
  cases hl : s.data.toList with
  | nil => rw [← size_toList, hl] at h; exact absurd h (by decide)
  | cons a r => rfl

set_option maxRecDepth 100000 in
set_option maxHeartbeats 2000000 in
theorem one_none1 (s : ByteArray) (hs : s.size ≤ 1000) (h0 : 0 < s.size) (h : 128 ≤ bN s 0 ∧ bN s 0 < 194) (w : World) : Calls Tryz.prog 54 #[.string s] w fun e w' => e = .returned (.int .i64 0) ∧ Below w.heap.size w w' := by
  have hb := bN_at s 0 h0
  have hm := more_1 ((s[0]'h0).toNat : Int) (by omega)
  have hne := ne_empty s h0
  have HB := Lib.hid hb; have HM := Lib.hid hm
  clear hb hm
  go_enter Tryz.func54, Tryz.ntmps54
  go_wp2_with fail
  ((with_reducible refine (HM.out _).mono ?_); rintro e w1 ⟨rfl, rfl⟩)
  go_wp2_with fail
  go_ret
  exact ⟨rfl, Below.refl _ _⟩

set_option maxRecDepth 100000 in
set_option maxHeartbeats 2000000 in
theorem one_none2 (s : ByteArray) (hs : s.size ≤ 1000) (h0 : 0 < s.size) (h : 245 ≤ bN s 0 ∧ bN s 0 < 256) (w : World) : Calls Tryz.prog 54 #[.string s] w fun e w' => e = .returned (.int .i64 0) ∧ Below w.heap.size w w' := by
  have hb := bN_at s 0 h0
  have hm := more_5 ((s[0]'h0).toNat : Int) (by omega)
  have hne := ne_empty s h0
  have HB := Lib.hid hb; have HM := Lib.hid hm
  clear hb hm
  go_enter Tryz.func54, Tryz.ntmps54
  go_wp2_with fail
  ((with_reducible refine (HM.out _).mono ?_); rintro e w1 ⟨rfl, rfl⟩)
  go_wp2_with fail
  go_ret
  exact ⟨rfl, Below.refl _ _⟩

set_option maxRecDepth 100000 in
set_option maxHeartbeats 2000000 in
theorem one_short1 (s : ByteArray) (hs : s.size ≤ 1) (h0 : 0 < s.size) (h : 194 ≤ bN s 0 ∧ bN s 0 ≤ 223) (w : World) : Calls Tryz.prog 54 #[.string s] w fun e w' => e = .returned (.int .i64 0) ∧ Below w.heap.size w w' := by
  have hb := bN_at s 0 h0
  have hm := more_2 ((s[0]'h0).toNat : Int) (by omega)
  have hne := ne_empty s h0
  have HB := Lib.hid hb; have HM := Lib.hid hm
  have t1 : decide ((s.size : Int) ≤ 1) = true := decide_eq_true (by omega)
  clear hb hm
  go_enter Tryz.func54, Tryz.ntmps54
  go_wp2_with fail
  ((with_reducible refine (HM.out _).mono ?_); rintro e w1 ⟨rfl, rfl⟩)
  go_wp2_with fail
  ((with_reducible refine (HM.out _).mono ?_); rintro e w1 ⟨rfl, rfl⟩)
  go_wp2_with fail
  go_ret
  exact ⟨rfl, Below.refl _ _⟩

set_option maxRecDepth 100000 in
set_option maxHeartbeats 2000000 in
theorem one_short2 (s : ByteArray) (hs : s.size ≤ 2) (h0 : 0 < s.size) (h : 224 ≤ bN s 0 ∧ bN s 0 ≤ 239) (w : World) : Calls Tryz.prog 54 #[.string s] w fun e w' => e = .returned (.int .i64 0) ∧ Below w.heap.size w w' := by
  have hb := bN_at s 0 h0
  have hm := more_3 ((s[0]'h0).toNat : Int) (by omega)
  have hne := ne_empty s h0
  have HB := Lib.hid hb; have HM := Lib.hid hm
  have t1 : decide ((s.size : Int) ≤ 2) = true := decide_eq_true (by omega)
  clear hb hm
  go_enter Tryz.func54, Tryz.ntmps54
  go_wp2_with fail
  ((with_reducible refine (HM.out _).mono ?_); rintro e w1 ⟨rfl, rfl⟩)
  go_wp2_with fail
  ((with_reducible refine (HM.out _).mono ?_); rintro e w1 ⟨rfl, rfl⟩)
  go_wp2_with fail
  go_ret
  exact ⟨rfl, Below.refl _ _⟩

set_option maxRecDepth 100000 in
set_option maxHeartbeats 2000000 in
theorem one_short3 (s : ByteArray) (hs : s.size ≤ 3) (h0 : 0 < s.size) (h : 240 ≤ bN s 0 ∧ bN s 0 ≤ 244) (w : World) : Calls Tryz.prog 54 #[.string s] w fun e w' => e = .returned (.int .i64 0) ∧ Below w.heap.size w w' := by
  have hb := bN_at s 0 h0
  have hm := more_4 ((s[0]'h0).toNat : Int) (by omega)
  have hne := ne_empty s h0
  have HB := Lib.hid hb; have HM := Lib.hid hm
  have t1 : decide ((s.size : Int) ≤ 3) = true := decide_eq_true (by omega)
  clear hb hm
  go_enter Tryz.func54, Tryz.ntmps54
  go_wp2_with fail
  ((with_reducible refine (HM.out _).mono ?_); rintro e w1 ⟨rfl, rfl⟩)
  go_wp2_with fail
  ((with_reducible refine (HM.out _).mono ?_); rintro e w1 ⟨rfl, rfl⟩)
  go_wp2_with fail
  go_ret
  exact ⟨rfl, Below.refl _ _⟩

set_option maxRecDepth 100000 in
set_option maxHeartbeats 2000000 in
theorem one_zero (s : ByteArray) (hs : s.size ≤ 1000) (h0 : 0 < s.size) (h : bN s 0 < 128) (w : World) : Calls Tryz.prog 54 #[.string s] w fun e w' => e = .returned (.int .i64 1) ∧ Below w.heap.size w w' := by
  have hb := bN_at s 0 h0
  have hm := more_0 ((s[0]'h0).toNat : Int) (by omega)
  have hne := ne_empty s h0
  have hb2 : (s[0]'h0).toNat < 128 := by omega
  have HB := Lib.hid hb; have HM := Lib.hid hm
  have hse : ¬ s = ByteArray.empty := fun e => by rw [e] at h0; exact absurd h0 (by decide)
  have t1 : decide (s = ByteArray.empty) = false := decide_eq_false hse
  clear hb hm
  go_enter Tryz.func54, Tryz.ntmps54
  go_wp2_with fail
  ((with_reducible refine (HM.out _).mono ?_); rintro e w1 ⟨rfl, rfl⟩)
  go_wp2_with fail
  ((with_reducible refine (HM.out _).mono ?_); rintro e w1 ⟨rfl, rfl⟩)
  go_wp2_with fail
  ((with_reducible refine (HM.out _).mono ?_); rintro e w1 ⟨rfl, rfl⟩)
  go_wp2_with fail
  go_loop [4, 5] (fun r i => i = .int .i64 1 ∧ r = .int .i64 ((s[0]'h0).toNat : Int)) (fun _ _ => 0)
  case atStart => exact ⟨rfl, rfl⟩
  case round =>
    obtain ⟨rfl, rfl⟩ := hrel
    go_wp2_with fail
    go_ret
    exact ⟨rfl, (Below.refl _ w).alloc (Nat.le_refl _) _⟩

set_option maxRecDepth 100000 in
set_option maxHeartbeats 4000000 in
theorem one_1 (s : ByteArray) (hs : s.size ≤ 1000) (h0 : 0 < s.size) (hl : 1 < s.size) (h : 194 ≤ bN s 0 ∧ bN s 0 ≤ 223) (w : World) : Calls Tryz.prog 54 #[.string s] w fun e w' => e = .returned (.int .i64 ((oneN s.size (bN s 0) (bN s 1) (bN s 2) (bN s 3) : Nat) : Int)) ∧ Below w.heap.size w w' := by
  have hb := bN_at s 0 h0
  have hm := more_2 ((s[0]'h0).toNat : Int) (by omega)
  have hne := ne_empty s h0
  have hb2 : (s[0]'h0).toNat ≤ 255 := by omega
  have hrb := RI_bd s ((bN s 0 : Int) % 32) (by omega) (by omega)
  have HB := Lib.hid hb; have HM := Lib.hid hm; have HRB := Lib.hid hrb
  have t1 : decide ((s.size : Int) ≤ 1) = false := decide_eq_false (by omega)
  clear hb hm hrb
  go_enter Tryz.func54, Tryz.ntmps54
  go_wp2_with fail
  ((with_reducible refine (HM.out _).mono ?_); rintro e w1 ⟨rfl, rfl⟩)
  go_wp2_with fail
  ((with_reducible refine (HM.out _).mono ?_); rintro e w1 ⟨rfl, rfl⟩)
  go_wp2_with fail
  ((with_reducible refine (HM.out _).mono ?_); rintro e w1 ⟨rfl, rfl⟩)
  go_wp2_with fail
  rw [HB.out]
  go_loop [4, 5] (fun r k => ∃ i : Nat, 1 ≤ i ∧ i ≤ 2 ∧ k = .int .i64 (i : Int) ∧ r = .int .i64 (RI s ((bN s 0 : Int) % 32) i) ∧ (∀ j, 1 ≤ j → j < i → 128 ≤ bN s j ∧ bN s j ≤ 191)) (fun _ k => 2 - (intOf k).toNat)
  case atStart => exact ⟨1, Nat.le_refl _, by omega, rfl, rfl, fun j h1 h2 => by omega⟩
  case round =>
    obtain ⟨i, hi1, hi2, rfl, rfl, hcont⟩ := hrel
    have HCO := Lib.hid hcont
    clear hcont
    have hbd := HRB.out i (by omega)
    by_cases hin : i ≤ 1
    · have hilt : i < s.size := by omega
      have hbi := bN_at s i hilt
      have hsucc := RI_succ s ((bN s 0 : Int) % 32) i hi1
      have HBI := Lib.hid hbi; have HSU := Lib.hid hsucc
      have hb256 := bN_lt s i
      rw [← hbi] at hb256
      have tin : decide ((i : Int) ≤ 1) = true := decide_eq_true (by omega)
      have tin2 : decide (i ≤ 1) = true := decide_eq_true (by omega)
      clear hbi hsucc
      by_cases hlo : (s[i]'hilt).toNat < 128
      · have t2 : decide (((s[i]'hilt).toNat : Int) < 128) = true := decide_eq_true (by omega)
        have hz : oneN s.size (bN s 0) (bN s 1) (bN s 2) (bN s 3) = 0 := by
          have hbi := HBI.out
          have hii : i = 1 := by omega
          have hor : (bN s 1 < 128 ∨ 191 < bN s 1) := by rcases hii with rfl <;> omega
          exact cont1 _ _ _ _ _ h hor (bN_lt s 1)
        have HZ := Lib.hid hz
        clear hz
        go_wp2_with fail
        go_ret
        exact ⟨by rw [HZ.out]; rfl, Below.refl _ _⟩
      · have t2 : decide (((s[i]'hilt).toNat : Int) < 128) = false := decide_eq_false (by omega)
        by_cases hhi : 191 < (s[i]'hilt).toNat
        · have t3 : decide ((191 : Int) < ((s[i]'hilt).toNat : Int)) = true := decide_eq_true (by omega)
          have hz : oneN s.size (bN s 0) (bN s 1) (bN s 2) (bN s 3) = 0 := by
            have hbi := HBI.out
            have hii : i = 1 := by omega
            have hor : (bN s 1 < 128 ∨ 191 < bN s 1) := by rcases hii with rfl <;> omega
            exact cont1 _ _ _ _ _ h hor (bN_lt s 1)
          have HZ := Lib.hid hz
          clear hz
          go_wp2_with fail
          go_ret
          exact ⟨by rw [HZ.out]; rfl, Below.refl _ _⟩
        · have t3 : decide ((191 : Int) < ((s[i]'hilt).toNat : Int)) = false := decide_eq_false (by omega)
          go_wp2_with fail
          go_round
          case rel => exact ⟨i + 1, by omega, by omega, by go_num, by rw [HSU.out, ← HBI.out], fun j h1 h2 => by
            by_cases e : j = i
            · subst e; have := HBI.out; omega
            · exact HCO.out j h1 (by omega)⟩
          case measure => simp [intOf]; omega
    · obtain rfl : i = 2 := by omega
      obtain ⟨R, hR⟩ : ∃ R, RI s ((bN s 0 : Int) % 32) 2 = R := ⟨_, rfl⟩
      have hcont := HCO.out
      obtain ⟨hf0, hf1⟩ := fin1 s.size (bN s 0) (bN s 1) (bN s 2) (bN s 3) h hl (hcont 1 (by omega) (by omega)) R (by rw [← hR]; rfl)
      rw [hR] at hbd ⊢
      have tend : decide (((2 : Nat) : Int) ≤ 1) = false := by decide
      clear hcont hR
      by_cases c1 : R < 128
      · have HZ := Lib.hid (hf0 (.inl c1))
        have t4 : decide (R < 128) = true := decide_eq_true c1
        clear hf0 hf1
        go_wp2_with fail
        go_ret
        exact ⟨by rw [HZ.out]; rfl, (Below.refl _ w).alloc (Nat.le_refl _) _⟩
      · have t4 : decide (R < 128) = false := decide_eq_false c1
        by_cases c2 : 55296 ≤ R ∧ R ≤ 57343
        · have HZ := Lib.hid (hf0 (.inr (.inl c2)))
          have t5 : decide (55296 ≤ R) = true := decide_eq_true c2.1
          have t6 : decide (R ≤ 57343) = true := decide_eq_true c2.2
          clear hf0 hf1 c2
          go_wp2_with fail
          go_ret
          exact ⟨by rw [HZ.out]; rfl, (Below.refl _ w).alloc (Nat.le_refl _) _⟩
        · by_cases c3 : 1114111 < R
          · have HZ := Lib.hid (hf0 (.inr (.inr c3)))
            have t5 : decide (55296 ≤ R) = true := decide_eq_true (by omega)
            have t6 : decide (R ≤ 57343) = false := decide_eq_false (by omega)
            have t7 : decide (1114111 < R) = true := decide_eq_true c3
            clear hf0 hf1 c2
            go_wp2_with fail
            go_ret
            exact ⟨by rw [HZ.out]; rfl, (Below.refl _ w).alloc (Nat.le_refl _) _⟩
          · have HZ := Lib.hid (hf1 (by unfold Far; omega))
            have t7 : decide (1114111 < R) = false := decide_eq_false c3
            clear hf0 hf1
            by_cases c4 : 55296 ≤ R
            · have t5 : decide (55296 ≤ R) = true := decide_eq_true c4
              have t6 : decide (R ≤ 57343) = false := decide_eq_false (by omega)
              clear c2
              go_wp2_with fail
              go_ret
              exact ⟨by rw [HZ.out]; rfl, (Below.refl _ w).alloc (Nat.le_refl _) _⟩
            · have t5 : decide (55296 ≤ R) = false := decide_eq_false c4
              clear c2
              go_wp2_with fail
              go_ret
              exact ⟨by rw [HZ.out]; rfl, (Below.refl _ w).alloc (Nat.le_refl _) _⟩

set_option maxRecDepth 100000 in
set_option maxHeartbeats 4000000 in
theorem one_2 (s : ByteArray) (hs : s.size ≤ 1000) (h0 : 0 < s.size) (hl : 2 < s.size) (h : 224 ≤ bN s 0 ∧ bN s 0 ≤ 239) (w : World) : Calls Tryz.prog 54 #[.string s] w fun e w' => e = .returned (.int .i64 ((oneN s.size (bN s 0) (bN s 1) (bN s 2) (bN s 3) : Nat) : Int)) ∧ Below w.heap.size w w' := by
  have hb := bN_at s 0 h0
  have hm := more_3 ((s[0]'h0).toNat : Int) (by omega)
  have hne := ne_empty s h0
  have hb2 : (s[0]'h0).toNat ≤ 255 := by omega
  have hrb := RI_bd s ((bN s 0 : Int) % 16) (by omega) (by omega)
  have HB := Lib.hid hb; have HM := Lib.hid hm; have HRB := Lib.hid hrb
  have t1 : decide ((s.size : Int) ≤ 2) = false := decide_eq_false (by omega)
  clear hb hm hrb
  go_enter Tryz.func54, Tryz.ntmps54
  go_wp2_with fail
  ((with_reducible refine (HM.out _).mono ?_); rintro e w1 ⟨rfl, rfl⟩)
  go_wp2_with fail
  ((with_reducible refine (HM.out _).mono ?_); rintro e w1 ⟨rfl, rfl⟩)
  go_wp2_with fail
  ((with_reducible refine (HM.out _).mono ?_); rintro e w1 ⟨rfl, rfl⟩)
  go_wp2_with fail
  rw [HB.out]
  go_loop [4, 5] (fun r k => ∃ i : Nat, 1 ≤ i ∧ i ≤ 3 ∧ k = .int .i64 (i : Int) ∧ r = .int .i64 (RI s ((bN s 0 : Int) % 16) i) ∧ (∀ j, 1 ≤ j → j < i → 128 ≤ bN s j ∧ bN s j ≤ 191)) (fun _ k => 3 - (intOf k).toNat)
  case atStart => exact ⟨1, Nat.le_refl _, by omega, rfl, rfl, fun j h1 h2 => by omega⟩
  case round =>
    obtain ⟨i, hi1, hi2, rfl, rfl, hcont⟩ := hrel
    have HCO := Lib.hid hcont
    clear hcont
    have hbd := HRB.out i (by omega)
    by_cases hin : i ≤ 2
    · have hilt : i < s.size := by omega
      have hbi := bN_at s i hilt
      have hsucc := RI_succ s ((bN s 0 : Int) % 16) i hi1
      have HBI := Lib.hid hbi; have HSU := Lib.hid hsucc
      have hb256 := bN_lt s i
      rw [← hbi] at hb256
      have tin : decide ((i : Int) ≤ 2) = true := decide_eq_true (by omega)
      have tin2 : decide (i ≤ 2) = true := decide_eq_true (by omega)
      clear hbi hsucc
      by_cases hlo : (s[i]'hilt).toNat < 128
      · have t2 : decide (((s[i]'hilt).toNat : Int) < 128) = true := decide_eq_true (by omega)
        have hz : oneN s.size (bN s 0) (bN s 1) (bN s 2) (bN s 3) = 0 := by
          have hbi := HBI.out
          have hii : i = 1 ∨ i = 2 := by omega
          have hor : ((bN s 1 < 128 ∨ 191 < bN s 1) ∨ (bN s 2 < 128 ∨ 191 < bN s 2)) := by rcases hii with rfl | rfl <;> omega
          exact cont2 _ _ _ _ _ h hor (bN_lt s 1) (bN_lt s 2)
        have HZ := Lib.hid hz
        clear hz
        go_wp2_with fail
        go_ret
        exact ⟨by rw [HZ.out]; rfl, Below.refl _ _⟩
      · have t2 : decide (((s[i]'hilt).toNat : Int) < 128) = false := decide_eq_false (by omega)
        by_cases hhi : 191 < (s[i]'hilt).toNat
        · have t3 : decide ((191 : Int) < ((s[i]'hilt).toNat : Int)) = true := decide_eq_true (by omega)
          have hz : oneN s.size (bN s 0) (bN s 1) (bN s 2) (bN s 3) = 0 := by
            have hbi := HBI.out
            have hii : i = 1 ∨ i = 2 := by omega
            have hor : ((bN s 1 < 128 ∨ 191 < bN s 1) ∨ (bN s 2 < 128 ∨ 191 < bN s 2)) := by rcases hii with rfl | rfl <;> omega
            exact cont2 _ _ _ _ _ h hor (bN_lt s 1) (bN_lt s 2)
          have HZ := Lib.hid hz
          clear hz
          go_wp2_with fail
          go_ret
          exact ⟨by rw [HZ.out]; rfl, Below.refl _ _⟩
        · have t3 : decide ((191 : Int) < ((s[i]'hilt).toNat : Int)) = false := decide_eq_false (by omega)
          go_wp2_with fail
          go_round
          case rel => exact ⟨i + 1, by omega, by omega, by go_num, by rw [HSU.out, ← HBI.out], fun j h1 h2 => by
            by_cases e : j = i
            · subst e; have := HBI.out; omega
            · exact HCO.out j h1 (by omega)⟩
          case measure => simp [intOf]; omega
    · obtain rfl : i = 3 := by omega
      obtain ⟨R, hR⟩ : ∃ R, RI s ((bN s 0 : Int) % 16) 3 = R := ⟨_, rfl⟩
      have hcont := HCO.out
      obtain ⟨hf0, hf1⟩ := fin2 s.size (bN s 0) (bN s 1) (bN s 2) (bN s 3) h hl (hcont 1 (by omega) (by omega)) (hcont 2 (by omega) (by omega)) R (by rw [← hR]; rfl)
      rw [hR] at hbd ⊢
      have tend : decide (((3 : Nat) : Int) ≤ 2) = false := by decide
      clear hcont hR
      by_cases c1 : R < 2048
      · have HZ := Lib.hid (hf0 (.inl c1))
        have t4 : decide (R < 2048) = true := decide_eq_true c1
        clear hf0 hf1
        go_wp2_with fail
        go_ret
        exact ⟨by rw [HZ.out]; rfl, (Below.refl _ w).alloc (Nat.le_refl _) _⟩
      · have t4 : decide (R < 2048) = false := decide_eq_false c1
        by_cases c2 : 55296 ≤ R ∧ R ≤ 57343
        · have HZ := Lib.hid (hf0 (.inr (.inl c2)))
          have t5 : decide (55296 ≤ R) = true := decide_eq_true c2.1
          have t6 : decide (R ≤ 57343) = true := decide_eq_true c2.2
          clear hf0 hf1 c2
          go_wp2_with fail
          go_ret
          exact ⟨by rw [HZ.out]; rfl, (Below.refl _ w).alloc (Nat.le_refl _) _⟩
        · by_cases c3 : 1114111 < R
          · have HZ := Lib.hid (hf0 (.inr (.inr c3)))
            have t5 : decide (55296 ≤ R) = true := decide_eq_true (by omega)
            have t6 : decide (R ≤ 57343) = false := decide_eq_false (by omega)
            have t7 : decide (1114111 < R) = true := decide_eq_true c3
            clear hf0 hf1 c2
            go_wp2_with fail
            go_ret
            exact ⟨by rw [HZ.out]; rfl, (Below.refl _ w).alloc (Nat.le_refl _) _⟩
          · have HZ := Lib.hid (hf1 (by unfold Far; omega))
            have t7 : decide (1114111 < R) = false := decide_eq_false c3
            clear hf0 hf1
            by_cases c4 : 55296 ≤ R
            · have t5 : decide (55296 ≤ R) = true := decide_eq_true c4
              have t6 : decide (R ≤ 57343) = false := decide_eq_false (by omega)
              clear c2
              go_wp2_with fail
              go_ret
              exact ⟨by rw [HZ.out]; rfl, (Below.refl _ w).alloc (Nat.le_refl _) _⟩
            · have t5 : decide (55296 ≤ R) = false := decide_eq_false c4
              clear c2
              go_wp2_with fail
              go_ret
              exact ⟨by rw [HZ.out]; rfl, (Below.refl _ w).alloc (Nat.le_refl _) _⟩

set_option maxRecDepth 100000 in
set_option maxHeartbeats 4000000 in
theorem one_3 (s : ByteArray) (hs : s.size ≤ 1000) (h0 : 0 < s.size) (hl : 3 < s.size) (h : 240 ≤ bN s 0 ∧ bN s 0 ≤ 244) (w : World) : Calls Tryz.prog 54 #[.string s] w fun e w' => e = .returned (.int .i64 ((oneN s.size (bN s 0) (bN s 1) (bN s 2) (bN s 3) : Nat) : Int)) ∧ Below w.heap.size w w' := by
  have hb := bN_at s 0 h0
  have hm := more_4 ((s[0]'h0).toNat : Int) (by omega)
  have hne := ne_empty s h0
  have hb2 : (s[0]'h0).toNat ≤ 255 := by omega
  have hrb := RI_bd s ((bN s 0 : Int) % 8) (by omega) (by omega)
  have HB := Lib.hid hb; have HM := Lib.hid hm; have HRB := Lib.hid hrb
  have t1 : decide ((s.size : Int) ≤ 3) = false := decide_eq_false (by omega)
  clear hb hm hrb
  go_enter Tryz.func54, Tryz.ntmps54
  go_wp2_with fail
  ((with_reducible refine (HM.out _).mono ?_); rintro e w1 ⟨rfl, rfl⟩)
  go_wp2_with fail
  ((with_reducible refine (HM.out _).mono ?_); rintro e w1 ⟨rfl, rfl⟩)
  go_wp2_with fail
  ((with_reducible refine (HM.out _).mono ?_); rintro e w1 ⟨rfl, rfl⟩)
  go_wp2_with fail
  rw [HB.out]
  go_loop [4, 5] (fun r k => ∃ i : Nat, 1 ≤ i ∧ i ≤ 4 ∧ k = .int .i64 (i : Int) ∧ r = .int .i64 (RI s ((bN s 0 : Int) % 8) i) ∧ (∀ j, 1 ≤ j → j < i → 128 ≤ bN s j ∧ bN s j ≤ 191)) (fun _ k => 4 - (intOf k).toNat)
  case atStart => exact ⟨1, Nat.le_refl _, by omega, rfl, rfl, fun j h1 h2 => by omega⟩
  case round =>
    obtain ⟨i, hi1, hi2, rfl, rfl, hcont⟩ := hrel
    have HCO := Lib.hid hcont
    clear hcont
    have hbd := HRB.out i (by omega)
    by_cases hin : i ≤ 3
    · have hilt : i < s.size := by omega
      have hbi := bN_at s i hilt
      have hsucc := RI_succ s ((bN s 0 : Int) % 8) i hi1
      have HBI := Lib.hid hbi; have HSU := Lib.hid hsucc
      have hb256 := bN_lt s i
      rw [← hbi] at hb256
      have tin : decide ((i : Int) ≤ 3) = true := decide_eq_true (by omega)
      have tin2 : decide (i ≤ 3) = true := decide_eq_true (by omega)
      clear hbi hsucc
      by_cases hlo : (s[i]'hilt).toNat < 128
      · have t2 : decide (((s[i]'hilt).toNat : Int) < 128) = true := decide_eq_true (by omega)
        have hz : oneN s.size (bN s 0) (bN s 1) (bN s 2) (bN s 3) = 0 := by
          have hbi := HBI.out
          have hii : i = 1 ∨ i = 2 ∨ i = 3 := by omega
          have hor : ((bN s 1 < 128 ∨ 191 < bN s 1) ∨ (bN s 2 < 128 ∨ 191 < bN s 2) ∨ (bN s 3 < 128 ∨ 191 < bN s 3)) := by rcases hii with rfl | rfl | rfl <;> omega
          exact cont3 _ _ _ _ _ h hor (bN_lt s 1) (bN_lt s 2) (bN_lt s 3)
        have HZ := Lib.hid hz
        clear hz
        go_wp2_with fail
        go_ret
        exact ⟨by rw [HZ.out]; rfl, Below.refl _ _⟩
      · have t2 : decide (((s[i]'hilt).toNat : Int) < 128) = false := decide_eq_false (by omega)
        by_cases hhi : 191 < (s[i]'hilt).toNat
        · have t3 : decide ((191 : Int) < ((s[i]'hilt).toNat : Int)) = true := decide_eq_true (by omega)
          have hz : oneN s.size (bN s 0) (bN s 1) (bN s 2) (bN s 3) = 0 := by
            have hbi := HBI.out
            have hii : i = 1 ∨ i = 2 ∨ i = 3 := by omega
            have hor : ((bN s 1 < 128 ∨ 191 < bN s 1) ∨ (bN s 2 < 128 ∨ 191 < bN s 2) ∨ (bN s 3 < 128 ∨ 191 < bN s 3)) := by rcases hii with rfl | rfl | rfl <;> omega
            exact cont3 _ _ _ _ _ h hor (bN_lt s 1) (bN_lt s 2) (bN_lt s 3)
          have HZ := Lib.hid hz
          clear hz
          go_wp2_with fail
          go_ret
          exact ⟨by rw [HZ.out]; rfl, Below.refl _ _⟩
        · have t3 : decide ((191 : Int) < ((s[i]'hilt).toNat : Int)) = false := decide_eq_false (by omega)
          go_wp2_with fail
          go_round
          case rel => exact ⟨i + 1, by omega, by omega, by go_num, by rw [HSU.out, ← HBI.out], fun j h1 h2 => by
            by_cases e : j = i
            · subst e; have := HBI.out; omega
            · exact HCO.out j h1 (by omega)⟩
          case measure => simp [intOf]; omega
    · obtain rfl : i = 4 := by omega
      obtain ⟨R, hR⟩ : ∃ R, RI s ((bN s 0 : Int) % 8) 4 = R := ⟨_, rfl⟩
      have hcont := HCO.out
      obtain ⟨hf0, hf1⟩ := fin3 s.size (bN s 0) (bN s 1) (bN s 2) (bN s 3) h hl (hcont 1 (by omega) (by omega)) (hcont 2 (by omega) (by omega)) (hcont 3 (by omega) (by omega)) R (by rw [← hR]; rfl)
      rw [hR] at hbd ⊢
      have tend : decide (((4 : Nat) : Int) ≤ 3) = false := by decide
      clear hcont hR
      by_cases c1 : R < 65536
      · have HZ := Lib.hid (hf0 (.inl c1))
        have t4 : decide (R < 65536) = true := decide_eq_true c1
        clear hf0 hf1
        go_wp2_with fail
        go_ret
        exact ⟨by rw [HZ.out]; rfl, (Below.refl _ w).alloc (Nat.le_refl _) _⟩
      · have t4 : decide (R < 65536) = false := decide_eq_false c1
        by_cases c2 : 55296 ≤ R ∧ R ≤ 57343
        · exfalso; omega
        · by_cases c3 : 1114111 < R
          · have HZ := Lib.hid (hf0 (.inr (.inr c3)))
            have t5 : decide (55296 ≤ R) = true := decide_eq_true (by omega)
            have t6 : decide (R ≤ 57343) = false := decide_eq_false (by omega)
            have t7 : decide (1114111 < R) = true := decide_eq_true c3
            clear hf0 hf1 c2
            go_wp2_with fail
            go_ret
            exact ⟨by rw [HZ.out]; rfl, (Below.refl _ w).alloc (Nat.le_refl _) _⟩
          · have HZ := Lib.hid (hf1 (by unfold Far; omega))
            have t7 : decide (1114111 < R) = false := decide_eq_false c3
            clear hf0 hf1
            by_cases c4 : 55296 ≤ R
            · have t5 : decide (55296 ≤ R) = true := decide_eq_true c4
              have t6 : decide (R ≤ 57343) = false := decide_eq_false (by omega)
              clear c2
              go_wp2_with fail
              go_ret
              exact ⟨by rw [HZ.out]; rfl, (Below.refl _ w).alloc (Nat.le_refl _) _⟩
            · exfalso; omega

/-- subeditorref01.One, for every text that is no longer than a thousand bytes. -/
theorem one_calls (s : ByteArray) (hs : s.size ≤ 1000) (w : World) : Calls Tryz.prog 54 #[.string s] w fun e w' => e = .returned (.int .i64 ((oneL s.data.toList : Nat) : Int)) ∧ Below w.heap.size w w' := by
  by_cases h0 : s.size = 0
  · have hl : s.data.toList = [] := List.length_eq_zero_iff.1 (by rw [size_toList]; exact h0)
    have e : oneL s.data.toList = 0 := by rw [hl]; rfl
    rw [e]
    exact one_empty s h0 w
  · have hp : 0 < s.size := by omega
    rw [oneL_bN s (by omega)]
    have hb1 := bN_lt s 1
    have hb0 := bN_lt s 0
    have : bN s 0 < 128 ∨ (128 ≤ bN s 0 ∧ bN s 0 < 194) ∨ (194 ≤ bN s 0 ∧ bN s 0 ≤ 223) ∨ (224 ≤ bN s 0 ∧ bN s 0 ≤ 239) ∨ (240 ≤ bN s 0 ∧ bN s 0 ≤ 244) ∨ (245 ≤ bN s 0 ∧ bN s 0 < 256) := by omega
    rcases this with h | h | h | h | h | h
    · have e : oneN s.size (bN s 0) (bN s 1) (bN s 2) (bN s 3) = 1 := by unfold oneN; rw [if_pos h]
      rw [e]; exact one_zero s hs hp h w
    · rw [no_more _ _ _ _ _ (.inl h) hb1]; exact one_none1 s hs hp h w
    · by_cases hl : 1 < s.size
      · exact one_1 s hs hp hl h w
      · rw [short1 _ _ _ _ _ h (by omega)]; exact one_short1 s (by omega) hp h w
    · by_cases hl : 2 < s.size
      · exact one_2 s hs hp hl h w
      · rw [short2 _ _ _ _ _ h (by omega)]; exact one_short2 s (by omega) hp h w
    · by_cases hl : 3 < s.size
      · exact one_3 s hs hp hl h w
      · rw [short3 _ _ _ _ _ h (by omega)]; exact one_short3 s (by omega) hp h w
    · rw [no_more _ _ _ _ _ (.inr h) hb1]; exact one_none2 s hs hp h w
end Go.Proofs.YtmoamfcaokefiaaGreatDoor.utf
