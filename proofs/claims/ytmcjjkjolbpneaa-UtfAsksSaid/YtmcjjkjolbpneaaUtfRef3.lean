/-
  subeditorref01.Check, Wide, Place and Offset: their contracts.
-/
import Derived.Test.YtmcjjkjolbpneaaUtfRef2
import Derived.Test.YtmcjjkjolbpneaaUtfMath
namespace Go.Proofs.Ytmcjjkjolbpneaa.utf
open Go.RowKit
set_option linter.unusedVariables false

theorem one_drop (s : ByteArray) (hs : s.size ≤ 1000) (k r : Nat) (h : oneL (s.data.toList.drop k) = r) (w : World) :
    Calls Try.prog 27 #[.string (s.extract k s.size)] w fun e w' => e = .returned (.int .i64 (r : Int)) ∧ Below w.heap.size w w' := by
  have hsz : (s.extract k s.size).size ≤ 1000 := by rw [ByteArray.size_extract]; omega
  have h1 := one_calls (s.extract k s.size) hsz w
  rw [extract_drop, h] at h1
  exact h1

set_option maxRecDepth 100000 in
set_option maxHeartbeats 2000000 in
theorem refCheck_calls (s : ByteArray) (hs : s.size ≤ 1000) (w : World) : Calls Try.prog 19 #[.string s] w fun e w' => e = .returned (.int .i64 (checkF s)) ∧ Below w.heap.size w w' := by
  go_enter Try.func19, Try.ntmps19
  go_wp2_with fail
  go_loopw [3] (fun a wr => ∃ pos b : Nat, a = .int .i64 (pos : Int) ∧ pos ≤ s.size ∧ chkL b (s.data.toList.drop pos) pos = checkF s ∧ s.size ≤ pos + b ∧ Below w.heap.size w wr) (fun a _ => s.size - (intOf a).toNat)
  case atStart => exact ⟨0, s.size, rfl, Nat.zero_le _, by rw [checkF_L, size_toList]; rfl, by omega, Below.refl _ _⟩
  case round =>
    obtain ⟨pos, b, rfl, hpos, hc, hb, hB⟩ := hrel
    by_cases hlt : pos < s.size
    · have hne : s.data.toList.drop pos ≠ [] := fun e => (drop_ne s pos).1 e hlt
      have hle := oneL_le _ hne
      rw [List.length_drop, size_toList] at hle
      obtain ⟨b, rfl⟩ : ∃ b', b = b' + 1 := ⟨b - 1, by omega⟩
      obtain ⟨r, hr⟩ : ∃ r, oneL (s.data.toList.drop pos) = r := ⟨_, rfl⟩
      have ho := one_drop s hs pos r hr
      simp only [chkL] at hc
      rw [if_neg hne, hr, List.drop_drop] at hc
      rw [hr] at hle
      have HO := Lib.hid ho; have HC := Lib.hid hc
      have hposI : (pos : Int) ≤ (s.size : Int) := by omega
      clear ho hc hr hne
      by_cases h0 : r = 0
      · subst h0
        go_wp2_with fail
        ((with_reducible refine (HO.out _).mono ?_); rintro e w1 ⟨rfl, hb1⟩)
        go_wp2_with fail
        go_ret
        exact ⟨by have := HC.out; simp only [if_true] at this; rw [← this]; rfl, Below.next hB hb1 (Nat.le_refl _)⟩
      · have hz : ((r : Int) == 0) = false := by rw [beq_eq_false_iff_ne]; omega
        have HC2 := Lib.hid (show chkL b (s.data.toList.drop (pos + r)) (pos + r) = checkF s from by have := HC.out; rwa [if_neg h0] at this)
        go_wp2_with fail
        ((with_reducible refine (HO.out _).mono ?_); rintro e w1 ⟨rfl, hb1⟩)
        go_wp2_with fail
        go_roundw
        case rel => exact ⟨pos + r, b, by go_num, by omega, HC2.out, by omega, Below.next hB hb1 (Nat.le_refl _)⟩
        case measure => simp [intOf]; omega
    · have hnil := (drop_ne s pos).2 hlt
      rw [hnil, chkL_nil] at hc
      have HC := Lib.hid hc
      clear hc hnil
      go_wp2_with fail
      go_ret
      exact ⟨by rw [← HC.out]; rfl, hB⟩

def strLen : Value → Nat
  | .string u => u.size
  | _ => 0

set_option maxRecDepth 100000 in
set_option maxHeartbeats 2000000 in
theorem refWide_calls (s : ByteArray) (hs : s.size ≤ 1000) (w : World) : Calls Try.prog 20 #[.string s] w fun e w' => e = .returned (.int .i64 ((wideF s : Nat) : Int)) ∧ Below w.heap.size w w' := by
  go_enter Try.func20, Try.ntmps20
  go_wp2_with fail
  go_loopw [0, 3] (fun t a wr => ∃ (u : ByteArray) (m b : Nat), t = .string u ∧ a = .int .i64 (m : Int) ∧ m + wideL b u.data.toList = wideF s ∧ u.size ≤ b ∧ m + u.size ≤ s.size ∧ Below w.heap.size w wr) (fun t _ _ => strLen t)
  case atStart => exact ⟨s, 0, s.size, rfl, rfl, by rw [wideF_L, size_toList]; simp, Nat.le_refl _, by omega, Below.refl _ _⟩
  case round =>
    obtain ⟨u, m, b, rfl, rfl, hc, hb, hm, hB⟩ := hrel
    by_cases h0 : u.size = 0
    · have hl : u.data.toList = [] := List.length_eq_zero_iff.1 (by rw [size_toList]; exact h0)
      have hu : u = ⟨#[]⟩ := by cases u; simp at hl; subst hl; rfl
      have hw : wideL b u.data.toList = 0 := by rw [hl]; cases b <;> simp [wideL]
      rw [hw] at hc
      subst hu
      have HC := Lib.hid hc
      clear hc hl hw
      go_wp2_with fail
      go_ret
      exact ⟨by rw [← HC.out]; rfl, hB⟩
    · have hp : 0 < u.size := by omega
      have hne := ne_empty u hp
      have hnl : u.data.toList ≠ [] := fun e => h0 (by rw [← size_toList, e]; rfl)
      obtain ⟨r, hr⟩ : ∃ r, oneL u.data.toList = r := ⟨_, rfl⟩
      have hle := oneL_le _ hnl
      rw [hr, size_toList] at hle
      have ho := one_calls u (by omega)
      rw [hr] at ho
      obtain ⟨b, rfl⟩ : ∃ b', b = b' + 1 := ⟨b - 1, by omega⟩
      simp only [wideL] at hc
      rw [if_neg hnl, hr] at hc
      have HO := Lib.hid ho; have HC := Lib.hid hc
      clear ho hc hr hnl
      by_cases hr0 : r = 0
      · subst hr0
        have HC2 := Lib.hid (show m + 1 + wideL b (u.extract 1 u.size).data.toList = wideF s from by have := HC.out; rw [if_pos rfl] at this; rw [extract_drop]; omega)
        have hsx : (u.extract 1 u.size).size = u.size - 1 := by rw [ByteArray.size_extract]; omega
        have HSX := Lib.hid hsx
        clear hsx
        have h1 : (1 : Int) ≤ (u.size : Int) := by omega
        go_wp2_with fail
        ((with_reducible refine (HO.out _).mono ?_); rintro e w1 ⟨rfl, hb1⟩)
        go_wp2_with fail
        go_roundw
        case rel => exact ⟨u.extract 1 u.size, m + 1, b, rfl, by go_num, HC2.out, by rw [HSX.out]; omega, by rw [HSX.out]; omega, Below.next hB hb1 (Nat.le_refl _)⟩
        case measure => show (u.extract 1 u.size).size < u.size; rw [HSX.out]; omega
      · have HC2 := Lib.hid (show m + 1 + wideL b (u.extract r u.size).data.toList = wideF s from by have := HC.out; rw [if_neg hr0] at this; rw [extract_drop]; omega)
        have hsx : (u.extract r u.size).size = u.size - r := by rw [ByteArray.size_extract]; omega
        have HSX := Lib.hid hsx
        clear hsx
        have h1 : (r : Int) ≤ (u.size : Int) := by omega
        have h2 : (1 : Int) ≤ (r : Int) := by omega
        have hmx : max (r : Int) 1 = (r : Int) := by omega
        have HMX := Lib.hid hmx
        go_wp2_with fail
        ((with_reducible refine (HO.out _).mono ?_); rintro e w1 ⟨rfl, hb1⟩)
        go_wp2_with fail
        go_roundw
        case rel => exact ⟨u.extract r u.size, m + 1, b, rfl, by go_num, HC2.out, by rw [HSX.out]; omega, by rw [HSX.out]; omega, Below.next hB hb1 (Nat.le_refl _)⟩
        case measure => show (u.extract r u.size).size < u.size; rw [HSX.out]; omega

set_option maxRecDepth 100000 in
set_option maxHeartbeats 2000000 in
theorem refPlace_in (s : ByteArray) (hs : s.size ≤ 1000) (a : Nat) (ha : a ≤ s.size) (w : World) :
    Calls Try.prog 17 #[.string s, .int .i64 (a : Int)] w fun e w' => e = .returned (.tuple #[.int .i64 ((Sp.pl (s.data.toList.take a)).1 : Int), .int .i64 ((Sp.pl (s.data.toList.take a)).2 : Int), .bool true]) ∧ w = w' := by
  have t1 : decide ((a : Int) < 0) = false := decide_eq_false (by omega)
  have t2 : decide ((s.size : Int) < (a : Int)) = false := decide_eq_false (by omega)
  have t3 : decide (s.size < a) = false := decide_eq_false (by omega)
  go_enter Try.func17, Try.ntmps17
  go_wp2_with fail
  go_loop [7, 8, 9] (fun x y i => ∃ k : Nat, k ≤ a ∧ i = .int .i64 (k : Int) ∧ x = .int .i64 ((Sp.pl (s.data.toList.take k)).1 : Int) ∧ y = .int .i64 ((Sp.pl (s.data.toList.take k)).2 : Int)) (fun _ _ i => a - (intOf i).toNat)
  case atStart => exact ⟨0, Nat.zero_le _, rfl, rfl, rfl⟩
  case round =>
    obtain ⟨k, hk, rfl, rfl, rfl⟩ := hrel
    have hle := Sp.pl_le (s.data.toList.take k)
    have hl2 : (s.data.toList.take k).length ≤ 1000 := by rw [List.length_take]; omega
    by_cases hlt : k < a
    · have hks : k < s.size := by omega
      have hsn := Sp.pl_succ s.data.toList k (by rw [size_toList]; exact hks)
      obtain ⟨⟨p1, p2⟩, hp⟩ : ∃ p, Sp.pl (s.data.toList.take k) = p := ⟨_, rfl⟩
      rw [hp] at hle hsn ⊢
      have hp1 : p1 ≤ 1000 := by have := hle.1; simp at this; omega
      have hp2 : p2 ≤ 1000 := by have := hle.2; simp at this; omega
      clear hle hp hl2
      by_cases h10 : s[k]'hks = 10
      · have hb : (((s[k]'hks).toNat : Int) == 10) = true := by rw [h10]; rfl
        have h10' : s.data.toList[k]'(by rw [size_toList]; exact hks) = 10 := h10
        have HS := Lib.hid (show Sp.pl (s.data.toList.take (k + 1)) = (p1 + 1, 0) from by rw [hsn]; unfold Sp.step; rw [if_pos h10'])
        clear hsn h10 h10'
        go_wp2_with fail
        go_round
        case rel => exact ⟨k + 1, by omega, by go_num, by rw [HS.out]; go_num, by rw [HS.out]; rfl⟩
        case measure => simp [intOf]; omega
      · have hb : (((s[k]'hks).toNat : Int) == 10) = false := by
          rw [beq_eq_false_iff_ne]
          intro e
          apply h10
          apply UInt8.toNat_inj.1
          show (s[k]'hks).toNat = 10
          omega
        have h10' : ¬ s.data.toList[k]'(by rw [size_toList]; exact hks) = 10 := h10
        have HS := Lib.hid (show Sp.pl (s.data.toList.take (k + 1)) = (p1, p2 + 1) from by rw [hsn]; unfold Sp.step; rw [if_neg h10'])
        clear hsn h10 h10'
        go_wp2_with fail
        go_round
        case rel => exact ⟨k + 1, by omega, by go_num, by rw [HS.out], by rw [HS.out]; go_num⟩
        case measure => simp [intOf]; omega
    · obtain rfl : k = a := by omega
      go_wp2_with fail
      go_ret3
      exact ⟨rfl, rfl⟩

set_option maxRecDepth 100000 in
set_option maxHeartbeats 2000000 in
theorem refPlace_out (s : ByteArray) (hs : s.size ≤ 1000) (a : Int) (ha : a < 0 ∨ (s.size : Int) < a) (w : World) :
    Calls Try.prog 17 #[.string s, .int .i64 a] w fun e w' => e = .returned (.tuple #[.int .i64 0, .int .i64 0, .bool false]) ∧ w = w' := by
  by_cases h : a < 0
  · have t1 : decide (a < 0) = true := decide_eq_true h
    go_enter Try.func17, Try.ntmps17
    go_wp2_with fail
    go_ret3
    exact ⟨rfl, rfl⟩
  · have t1 : decide (a < 0) = false := decide_eq_false h
    have t2 : decide ((s.size : Int) < a) = true := decide_eq_true (by omega)
    go_enter Try.func17, Try.ntmps17
    go_wp2_with fail
    go_ret3
    exact ⟨rfl, rfl⟩
theorem refPlace_calls (s : ByteArray) (hs : s.size ≤ 1000) (a : Int) (w : World) :
    Calls Try.prog 17 #[.string s, .int .i64 a] w fun e w' => e = .returned (place3 (Sp.placeF s.data.toList a)) ∧ w = w' := by
  by_cases h : a < 0 ∨ (s.size : Int) < a
  · rw [Sp.placeF_out _ _ (by rw [size_toList]; exact h)]
    exact refPlace_out s hs a h w
  · obtain ⟨k, rfl⟩ := Int.eq_ofNat_of_zero_le (show 0 ≤ a by omega)
    rw [Sp.placeF_in _ _ (by rw [size_toList]; omega)]
    exact refPlace_in s hs k (by omega) w

set_option maxRecDepth 100000 in
set_option maxHeartbeats 2000000 in
theorem refOffset_calls (s : ByteArray) (hs : s.size ≤ 1000) (line col : Int) (w : World) :
    Calls Try.prog 18 #[.string s, .int .i64 line, .int .i64 col] w fun e w' => e = .returned (off2 (Sp.offF s.data.toList line col)) ∧ w = w' := by
  go_enter Try.func18, Try.ntmps18
  go_wp2_with fail
  go_loop [8] (fun i => ∃ k : Nat, k ≤ s.size + 1 ∧ i = .int .i64 (k : Int) ∧ (∀ j, j < k → ¬ (((Sp.pl (s.data.toList.take j)).1 : Int) = line ∧ ((Sp.pl (s.data.toList.take j)).2 : Int) = col))) (fun i => s.size + 1 - (intOf i).toNat)
  case atStart => exact ⟨0, Nat.zero_le _, rfl, fun j hj => by omega⟩
  case round =>
    obtain ⟨k, hk, rfl, hno⟩ := hrel
    have HNO := Lib.hid hno
    clear hno
    by_cases hle : k ≤ s.size
    · have t1 : decide ((k : Int) ≤ (s.size : Int)) = true := decide_eq_true (by omega)
      have t2 : decide (k ≤ s.size) = true := decide_eq_true (by omega)
      have hpc := refPlace_in s hs k hle
      have hof := Sp.offF_place s.data.toList k (by rw [size_toList]; exact hle)
      obtain ⟨⟨p1, p2⟩, hp⟩ : ∃ p, Sp.pl (s.data.toList.take k) = p := ⟨_, rfl⟩
      rw [hp] at hpc hof
      have HP := Lib.hid hpc; have HO := Lib.hid hof; have HPP := Lib.hid hp
      clear hpc hof hp
      cases c1 : ((p1 : Int) == line) with
      | true =>
        cases c2 : ((p2 : Int) == col) with
        | true =>
          have e1 : (p1 : Int) = line := eq_of_beq c1
          have e2 : (p2 : Int) = col := eq_of_beq c2
          have HF := Lib.hid (show Sp.offF s.data.toList line col = ((k : Int), true) from by rw [← e1, ← e2]; exact HO.out)
          clear e1 e2
          go_wp2_with fail
          ((with_reducible refine (HP.out _).mono ?_); rintro e w1 ⟨rfl, rfl⟩)
          go_wp2_with fail
          go_ret2
          exact ⟨by rw [HF.out]; rfl, rfl⟩
        | false =>
          go_wp2_with fail
          ((with_reducible refine (HP.out _).mono ?_); rintro e w1 ⟨rfl, rfl⟩)
          go_wp2_with fail
          go_round
          case rel => exact ⟨k + 1, by omega, by go_num, fun j hj => by
            by_cases ej : j = k
            · subst ej
              rw [HPP.out]
              rintro ⟨_, e2⟩
              rw [beq_eq_false_iff_ne] at c2
              exact c2 e2
            · exact HNO.out j (by omega)⟩
          case measure => simp [intOf]; omega
      | false =>
        go_wp2_with fail
        ((with_reducible refine (HP.out _).mono ?_); rintro e w1 ⟨rfl, rfl⟩)
        go_wp2_with fail
        go_round
        case rel => exact ⟨k + 1, by omega, by go_num, fun j hj => by
          by_cases ej : j = k
          · subst ej
            rw [HPP.out]
            rintro ⟨e1, _⟩
            rw [beq_eq_false_iff_ne] at c1
            exact c1 e1
          · exact HNO.out j (by omega)⟩
        case measure => simp [intOf]; omega
    · have HF := Lib.hid (Sp.offF_absent s.data.toList line col (fun j hj => HNO.out j (by rw [size_toList] at hj; omega)))
      have t1 : decide ((k : Int) ≤ (s.size : Int)) = false := decide_eq_false (by omega)
      have t2 : decide (k ≤ s.size) = false := decide_eq_false (by omega)
      go_wp2_with fail
      go_ret2
      exact ⟨by rw [HF.out]; rfl, rfl⟩
end Go.Proofs.Ytmcjjkjolbpneaa.utf
