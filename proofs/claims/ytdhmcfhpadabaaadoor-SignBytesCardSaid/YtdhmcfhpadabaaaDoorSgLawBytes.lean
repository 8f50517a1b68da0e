/-
  subeditorlaw03.SignBytes: for every input it returns true, and the arguments read as they did. No condition.
-/
import Derived.Test.YtdhmcfhpadabaaaDoorSgHelp
import Derived.Test.YtdhmcfhpadabaaaDoorCards
import Derived.Test.YtdhmcfhpadabaaaDoorTie
import Derived.SevenTiedAt
import Derived.Deep.RegionHeld3
import Derived.Deep.CutRange
import Derived.Deep.Cut
namespace Go.Proofs.YtdhmcfhpadabaaaDoor.signBytes
open Go.RowKit Go.ChangeShapes Go.WideShapes Go.ChangeAt Go.ChangeMaps
open sg
set_option linter.unusedVariables false


theorem conv_at {w : World} {B : Nat} {x : Int} (h : w.cell? ⟨B, 0, none⟩ = some (.int .u8 x)) : (convert 22 9 (.slice (some ⟨B, 0, none⟩) 1 1)).run Tryd.prog w = .ok (.string (byteB x)) w :=
  run_convert_bytes_arg _ 22 5 Tryd.underlying22 Tryd.underlying5 B 0 1 1 [x] rfl
    (fun i hi => by obtain rfl : i = 0 := by omega
                    exact h) 9 Tryd.underlying9

set_option maxRecDepth 100000 in
set_option maxHeartbeats 4000000 in
theorem walkL (b : Int) (hb : 0 ≤ b ∧ b ≤ 255) (v : Value) (bs : List Int) (w : World) (hv : law.BytesAt w v bs) (hw : OpsAt w) (hL : Sg.cL b = true) (hD : Sg.cD b = false) (hBl : Sg.cB b = false) :
    Calls Tryd.prog 7 #[.int .u8 b, v] w fun e W' => e = .returned (.bool true) ∧ Below w.heap.size w W' := by
  have c1 := fun w => letter_calls b w
  have c2 := fun w => digit_calls b w
  have c3 := fun w => blank_calls b w
  rw [hL] at c1
  rw [hD] at c2
  rw [hBl] at c3
  have C1 := Lib.hid c1; have C2 := Lib.hid c2; have C3 := Lib.hid c3
  have hf := fun W (hB : Below w.heap.size w W) => front_calls v bs W (hv.below hB)
  obtain ⟨f, hfe⟩ : ∃ f, frontF bs = f := ⟨_, rfl⟩
  have hs := frontF_size bs
  rw [hfe] at hf hs
  have HF := Lib.hid hf; have HW := Lib.hid hw
  have hconv : ∀ W B, World.cell? W ⟨B, 0, none⟩ = some (.int .u8 b) → (convert 22 9 (.slice (some ⟨B, 0, none⟩) 1 1)).run Tryd.prog W = .ok (.string (byteB b)) W := fun W B h => conv_at h
  have hsum : ¬ (9223372036854775807 < (byteB b).size + f.size) := by rw [byteB_size]; omega
  have hdat : (byteB b ++ f).data.toList = UInt8.ofNat b.toNat :: f.data.toList := by rw [append_data, byteB_data]; rfl
  have hbn := byte_nat hb.1 hb.2
  have hzs : (byteB b ++ f).size ≤ 37 := by rw [ByteArray.size_append, byteB_size]; omega
  have f1 := Sg.word_first (UInt8.ofNat b.toNat) f.data.toList
  have f2 := Sg.number_first (UInt8.ofNat b.toNat) f.data.toList
  have f3 := Sg.number_digit (UInt8.ofNat b.toNat) f.data.toList
  have f4 := Sg.escape_first (UInt8.ofNat b.toNat) f.data.toList
  rw [hbn, ← hdat] at f1 f2 f3 f4
  rw [hL] at f1
  rw [hD] at f2 f3
  have F1 := Lib.hid f1; have F2 := Lib.hid f2; have F3 := Lib.hid f3; have F4 := Lib.hid f4; have HZ := Lib.hid hzs
  clear hfe hv hf c1 c2 c3 hdat hbn f1 f2 f3 f4 hw hzs
  go_enter Tryd.func7, Tryd.ntmps7
  go_wp2_with fail
  ((with_reducible refine (C1.out _).mono ?_); rintro e w1 ⟨rfl, rfl⟩)
  go_wp2_with fail
  ((with_reducible refine (C2.out _).mono ?_); rintro e w1 ⟨rfl, rfl⟩)
  go_wp2_with fail
  ((with_reducible refine (C3.out _).mono ?_); rintro e w1 ⟨rfl, rfl⟩)
  go_upto_region 8 with fail
  go_cut [6] from 19 to 24 (fun s wx => s = .string (byteB b ++ f) ∧ Below w.heap.size w wx)
  case first =>
    go_region_with (first | (go_at_call 11; refine (HF.out _ (by first | exact Below.refl _ _ | exact (Below.refl _ w).alloc (Nat.le_refl _) _ | exact (Below.refl _ w).drew | exact ((Below.refl _ w).alloc (Nat.le_refl _) _).drew | exact ((Below.refl _ w).drew).alloc (Nat.le_refl _) _)).mono ?_; rintro e w2 ⟨rfl, hb2⟩; try (have hcx : w2.cell? ⟨w.heap.size, 0, none⟩ = some (.int .u8 b) := (hb2.cell (p := ⟨w.heap.size, 0, none⟩) (by simp)).trans (cells_new w #[.int .u8 b] 5 0))))
    all_goals go_wp2_with fail
    all_goals go_meet
    all_goals first
      | exact ⟨rfl, Below.next ((Below.refl _ w).alloc (Nat.le_refl _) _) hb2 (Nat.le_refl _)⟩
      | exact ⟨rfl, Below.next ((Below.refl _ w).alloc (Nat.le_refl _) _).drew hb2 (Nat.le_refl _)⟩
      | exact ⟨rfl, (hb2.alloc hb2.size _)⟩
      | exact ⟨rfl, (Below.next (Below.refl _ w).drew hb2 (Nat.le_refl _)).alloc hb2.size _⟩
  case rest =>
    obtain ⟨rfl, hBc⟩ := hcut
    have HN := Lib.hid (fun w => number_is (byteB b ++ f) (by have := HZ.out; omega) _ rfl w)
    have HX := Lib.hid (fun w => escape_is (byteB b ++ f) (by have := HZ.out; omega) _ rfl w)
    have HO := Lib.hid (fun w => word_is (byteB b ++ f) (by have := HZ.out; omega) _ rfl w)
    obtain ⟨N, hN⟩ : ∃ N, Sg.number (byteB b ++ f).data.toList = N := ⟨_, rfl⟩
    obtain ⟨E, hE⟩ : ∃ E, Sg.escape (byteB b ++ f).data.toList = E := ⟨_, rfl⟩
    obtain ⟨D, hDw⟩ : ∃ D, Sg.word (byteB b ++ f).data.toList = D := ⟨_, rfl⟩
    rw [hN] at HN F2 F3
    rw [hE] at HX F4
    rw [hDw] at HO F1
    obtain ⟨y, hy⟩ : ∃ y, byteB b ++ f = y := ⟨_, rfl⟩
    rw [hy] at HN HX HO ⊢
    clear hN hE hDw hy hsum hconv
    have d1 := F1.out
    have n46 : b ≠ 46 := by intro e; subst e; revert hL; decide
    have n92 : b ≠ 92 := by intro e; subst e; revert hL; decide
    obtain rfl : N = 0 := by rcases F2.out with h | h | h; exact h; exact absurd h (by decide); exact absurd h n46
    obtain rfl : E = 0 := by rcases F4.out with h | h; exact h; exact absurd h n92
    clear n46 n92
    go_wp2_with fail
    ((with_reducible refine (known_calls _ (HW.out.own hBc)).mono ?_); rintro e x1 ⟨rfl, h1⟩)
    go_wp2_with fail
    ((with_reducible refine (HO.out _).mono ?_); rintro e x2 ⟨rfl, rfl⟩)
    go_wp2_with fail
    ((with_reducible refine (C1.out _).mono ?_); rintro e x3 ⟨rfl, rfl⟩)
    go_wp2_with fail
    ((with_reducible refine (HN.out _).mono ?_); rintro e x4 ⟨rfl, h4⟩)
    go_wp2_with fail
    ((with_reducible refine (C2.out _).mono ?_); rintro e x5 ⟨rfl, rfl⟩)
    go_wp2_with fail
    ((with_reducible refine (HX.out _).mono ?_); rintro e x6 ⟨rfl, h6⟩)
    go_wp2_with fail
    go_ret
    exact ⟨rfl, Below.next (Below.next (Below.next hBc h1 (Nat.le_refl _)) h4 (Nat.le_refl _)) h6 (Nat.le_refl _)⟩

set_option maxRecDepth 100000 in
set_option maxHeartbeats 4000000 in
theorem walkD (b : Int) (hb : 0 ≤ b ∧ b ≤ 255) (v : Value) (bs : List Int) (w : World) (hv : law.BytesAt w v bs) (hw : OpsAt w) (hL : Sg.cL b = false) (hD : Sg.cD b = true) (hBl : Sg.cB b = false) :
    Calls Tryd.prog 7 #[.int .u8 b, v] w fun e W' => e = .returned (.bool true) ∧ Below w.heap.size w W' := by
  have c1 := fun w => letter_calls b w
  have c2 := fun w => digit_calls b w
  have c3 := fun w => blank_calls b w
  rw [hL] at c1
  rw [hD] at c2
  rw [hBl] at c3
  have C1 := Lib.hid c1; have C2 := Lib.hid c2; have C3 := Lib.hid c3
  have hf := fun W (hB : Below w.heap.size w W) => front_calls v bs W (hv.below hB)
  obtain ⟨f, hfe⟩ : ∃ f, frontF bs = f := ⟨_, rfl⟩
  have hs := frontF_size bs
  rw [hfe] at hf hs
  have HF := Lib.hid hf; have HW := Lib.hid hw
  have hconv : ∀ W B, World.cell? W ⟨B, 0, none⟩ = some (.int .u8 b) → (convert 22 9 (.slice (some ⟨B, 0, none⟩) 1 1)).run Tryd.prog W = .ok (.string (byteB b)) W := fun W B h => conv_at h
  have hsum : ¬ (9223372036854775807 < (byteB b).size + f.size) := by rw [byteB_size]; omega
  have hdat : (byteB b ++ f).data.toList = UInt8.ofNat b.toNat :: f.data.toList := by rw [append_data, byteB_data]; rfl
  have hbn := byte_nat hb.1 hb.2
  have hzs : (byteB b ++ f).size ≤ 37 := by rw [ByteArray.size_append, byteB_size]; omega
  have f1 := Sg.word_first (UInt8.ofNat b.toNat) f.data.toList
  have f2 := Sg.number_first (UInt8.ofNat b.toNat) f.data.toList
  have f3 := Sg.number_digit (UInt8.ofNat b.toNat) f.data.toList
  have f4 := Sg.escape_first (UInt8.ofNat b.toNat) f.data.toList
  rw [hbn, ← hdat] at f1 f2 f3 f4
  rw [hL] at f1
  rw [hD] at f2 f3
  have F1 := Lib.hid f1; have F2 := Lib.hid f2; have F3 := Lib.hid f3; have F4 := Lib.hid f4; have HZ := Lib.hid hzs
  clear hfe hv hf c1 c2 c3 hdat hbn f1 f2 f3 f4 hw hzs
  go_enter Tryd.func7, Tryd.ntmps7
  go_wp2_with fail
  ((with_reducible refine (C1.out _).mono ?_); rintro e w1 ⟨rfl, rfl⟩)
  go_wp2_with fail
  ((with_reducible refine (C2.out _).mono ?_); rintro e w1 ⟨rfl, rfl⟩)
  go_wp2_with fail
  ((with_reducible refine (C3.out _).mono ?_); rintro e w1 ⟨rfl, rfl⟩)
  go_upto_region 8 with fail
  go_cut [6] from 19 to 24 (fun s wx => s = .string (byteB b ++ f) ∧ Below w.heap.size w wx)
  case first =>
    go_region_with (first | (go_at_call 11; refine (HF.out _ (by first | exact Below.refl _ _ | exact (Below.refl _ w).alloc (Nat.le_refl _) _ | exact (Below.refl _ w).drew | exact ((Below.refl _ w).alloc (Nat.le_refl _) _).drew | exact ((Below.refl _ w).drew).alloc (Nat.le_refl _) _)).mono ?_; rintro e w2 ⟨rfl, hb2⟩; try (have hcx : w2.cell? ⟨w.heap.size, 0, none⟩ = some (.int .u8 b) := (hb2.cell (p := ⟨w.heap.size, 0, none⟩) (by simp)).trans (cells_new w #[.int .u8 b] 5 0))))
    all_goals go_wp2_with fail
    all_goals go_meet
    all_goals first
      | exact ⟨rfl, Below.next ((Below.refl _ w).alloc (Nat.le_refl _) _) hb2 (Nat.le_refl _)⟩
      | exact ⟨rfl, Below.next ((Below.refl _ w).alloc (Nat.le_refl _) _).drew hb2 (Nat.le_refl _)⟩
      | exact ⟨rfl, (hb2.alloc hb2.size _)⟩
      | exact ⟨rfl, (Below.next (Below.refl _ w).drew hb2 (Nat.le_refl _)).alloc hb2.size _⟩
  case rest =>
    obtain ⟨rfl, hBc⟩ := hcut
    have HN := Lib.hid (fun w => number_is (byteB b ++ f) (by have := HZ.out; omega) _ rfl w)
    have HX := Lib.hid (fun w => escape_is (byteB b ++ f) (by have := HZ.out; omega) _ rfl w)
    have HO := Lib.hid (fun w => word_is (byteB b ++ f) (by have := HZ.out; omega) _ rfl w)
    obtain ⟨N, hN⟩ : ∃ N, Sg.number (byteB b ++ f).data.toList = N := ⟨_, rfl⟩
    obtain ⟨E, hE⟩ : ∃ E, Sg.escape (byteB b ++ f).data.toList = E := ⟨_, rfl⟩
    obtain ⟨D, hDw⟩ : ∃ D, Sg.word (byteB b ++ f).data.toList = D := ⟨_, rfl⟩
    rw [hN] at HN F2 F3
    rw [hE] at HX F4
    rw [hDw] at HO F1
    obtain ⟨y, hy⟩ : ∃ y, byteB b ++ f = y := ⟨_, rfl⟩
    rw [hy] at HN HX HO ⊢
    clear hN hE hDw hy hsum hconv
    have d1 := F1.out
    have n92 : b ≠ 92 := by intro e; subst e; revert hD; decide
    have n1 : 0 < N := F3.out (by trivial)
    obtain rfl : E = 0 := by rcases F4.out with h | h; exact h; exact absurd h n92
    have d2 : ((N : Int) == 0) = false := by rw [beq_eq_false_iff_ne]; omega
    have d2n : (N == 0) = false := by rw [beq_eq_false_iff_ne]; omega
    have d3 : decide ((0 : Int) < (N : Int)) = true := decide_eq_true (by omega)
    have d3n : decide (0 < N) = true := decide_eq_true (by omega)
    clear n92
    go_wp2_with fail
    ((with_reducible refine (known_calls _ (HW.out.own hBc)).mono ?_); rintro e x1 ⟨rfl, h1⟩)
    go_wp2_with fail
    ((with_reducible refine (HO.out _).mono ?_); rintro e x2 ⟨rfl, rfl⟩)
    go_wp2_with fail
    ((with_reducible refine (C1.out _).mono ?_); rintro e x3 ⟨rfl, rfl⟩)
    go_wp2_with fail
    ((with_reducible refine (HN.out _).mono ?_); rintro e x4 ⟨rfl, h4⟩)
    go_wp2_with fail
    ((with_reducible refine (C2.out _).mono ?_); rintro e x5 ⟨rfl, rfl⟩)
    go_wp2_with fail
    ((with_reducible refine (C2.out _).mono ?_); rintro e x6 ⟨rfl, rfl⟩)
    go_wp2_with fail
    ((with_reducible refine (HN.out _).mono ?_); rintro e x7 ⟨rfl, h7⟩)
    go_wp2_with fail
    ((with_reducible refine (HX.out _).mono ?_); rintro e x8 ⟨rfl, h8⟩)
    go_wp2_with fail
    go_ret
    exact ⟨rfl, Below.next (Below.next (Below.next (Below.next hBc h1 (Nat.le_refl _)) h4 (Nat.le_refl _)) h7 (Nat.le_refl _)) h8 (Nat.le_refl _)⟩

set_option maxRecDepth 100000 in
set_option maxHeartbeats 4000000 in
theorem walkB (b : Int) (hb : 0 ≤ b ∧ b ≤ 255) (v : Value) (bs : List Int) (w : World) (hv : law.BytesAt w v bs) (hw : OpsAt w) (hL : Sg.cL b = false) (hD : Sg.cD b = false) (hBl : Sg.cB b = true) :
    Calls Tryd.prog 7 #[.int .u8 b, v] w fun e W' => e = .returned (.bool true) ∧ Below w.heap.size w W' := by
  have c1 := fun w => letter_calls b w
  have c2 := fun w => digit_calls b w
  have c3 := fun w => blank_calls b w
  rw [hL] at c1
  rw [hD] at c2
  rw [hBl] at c3
  have C1 := Lib.hid c1; have C2 := Lib.hid c2; have C3 := Lib.hid c3
  have hf := fun W (hB : Below w.heap.size w W) => front_calls v bs W (hv.below hB)
  obtain ⟨f, hfe⟩ : ∃ f, frontF bs = f := ⟨_, rfl⟩
  have hs := frontF_size bs
  rw [hfe] at hf hs
  have HF := Lib.hid hf; have HW := Lib.hid hw
  have hconv : ∀ W B, World.cell? W ⟨B, 0, none⟩ = some (.int .u8 b) → (convert 22 9 (.slice (some ⟨B, 0, none⟩) 1 1)).run Tryd.prog W = .ok (.string (byteB b)) W := fun W B h => conv_at h
  have hsum : ¬ (9223372036854775807 < (byteB b).size + f.size) := by rw [byteB_size]; omega
  have hdat : (byteB b ++ f).data.toList = UInt8.ofNat b.toNat :: f.data.toList := by rw [append_data, byteB_data]; rfl
  have hbn := byte_nat hb.1 hb.2
  have hzs : (byteB b ++ f).size ≤ 37 := by rw [ByteArray.size_append, byteB_size]; omega
  have f1 := Sg.word_first (UInt8.ofNat b.toNat) f.data.toList
  have f2 := Sg.number_first (UInt8.ofNat b.toNat) f.data.toList
  have f3 := Sg.number_digit (UInt8.ofNat b.toNat) f.data.toList
  have f4 := Sg.escape_first (UInt8.ofNat b.toNat) f.data.toList
  rw [hbn, ← hdat] at f1 f2 f3 f4
  rw [hL] at f1
  rw [hD] at f2 f3
  have F1 := Lib.hid f1; have F2 := Lib.hid f2; have F3 := Lib.hid f3; have F4 := Lib.hid f4; have HZ := Lib.hid hzs
  clear hfe hv hf c1 c2 c3 hdat hbn f1 f2 f3 f4 hw hzs
  go_enter Tryd.func7, Tryd.ntmps7
  go_wp2_with fail
  ((with_reducible refine (C1.out _).mono ?_); rintro e w1 ⟨rfl, rfl⟩)
  go_wp2_with fail
  ((with_reducible refine (C2.out _).mono ?_); rintro e w1 ⟨rfl, rfl⟩)
  go_wp2_with fail
  ((with_reducible refine (C3.out _).mono ?_); rintro e w1 ⟨rfl, rfl⟩)
  go_upto_region 8 with fail
  go_cut [6] from 19 to 24 (fun s wx => s = .string (byteB b ++ f) ∧ Below w.heap.size w wx)
  case first =>
    go_region_with (first | (go_at_call 11; refine (HF.out _ (by first | exact Below.refl _ _ | exact (Below.refl _ w).alloc (Nat.le_refl _) _ | exact (Below.refl _ w).drew | exact ((Below.refl _ w).alloc (Nat.le_refl _) _).drew | exact ((Below.refl _ w).drew).alloc (Nat.le_refl _) _)).mono ?_; rintro e w2 ⟨rfl, hb2⟩; try (have hcx : w2.cell? ⟨w.heap.size, 0, none⟩ = some (.int .u8 b) := (hb2.cell (p := ⟨w.heap.size, 0, none⟩) (by simp)).trans (cells_new w #[.int .u8 b] 5 0))))
    all_goals go_wp2_with fail
    all_goals go_meet
    all_goals first
      | exact ⟨rfl, Below.next ((Below.refl _ w).alloc (Nat.le_refl _) _) hb2 (Nat.le_refl _)⟩
      | exact ⟨rfl, Below.next ((Below.refl _ w).alloc (Nat.le_refl _) _).drew hb2 (Nat.le_refl _)⟩
      | exact ⟨rfl, (hb2.alloc hb2.size _)⟩
      | exact ⟨rfl, (Below.next (Below.refl _ w).drew hb2 (Nat.le_refl _)).alloc hb2.size _⟩
  case rest =>
    obtain ⟨rfl, hBc⟩ := hcut
    have HN := Lib.hid (fun w => number_is (byteB b ++ f) (by have := HZ.out; omega) _ rfl w)
    have HX := Lib.hid (fun w => escape_is (byteB b ++ f) (by have := HZ.out; omega) _ rfl w)
    have HO := Lib.hid (fun w => word_is (byteB b ++ f) (by have := HZ.out; omega) _ rfl w)
    obtain ⟨N, hN⟩ : ∃ N, Sg.number (byteB b ++ f).data.toList = N := ⟨_, rfl⟩
    obtain ⟨E, hE⟩ : ∃ E, Sg.escape (byteB b ++ f).data.toList = E := ⟨_, rfl⟩
    obtain ⟨D, hDw⟩ : ∃ D, Sg.word (byteB b ++ f).data.toList = D := ⟨_, rfl⟩
    rw [hN] at HN F2 F3
    rw [hE] at HX F4
    rw [hDw] at HO F1
    obtain ⟨y, hy⟩ : ∃ y, byteB b ++ f = y := ⟨_, rfl⟩
    rw [hy] at HN HX HO ⊢
    clear hN hE hDw hy hsum hconv
    have d1 := F1.out
    have n46 : b ≠ 46 := by intro e; subst e; revert hBl; decide
    have n92 : b ≠ 92 := by intro e; subst e; revert hBl; decide
    obtain rfl : N = 0 := by rcases F2.out with h | h | h; exact h; exact absurd h (by decide); exact absurd h n46
    obtain rfl : E = 0 := by rcases F4.out with h | h; exact h; exact absurd h n92
    clear n46 n92
    go_wp2_with fail
    ((with_reducible refine (known_calls _ (HW.out.own hBc)).mono ?_); rintro e x1 ⟨rfl, h1⟩)
    go_wp2_with fail
    ((with_reducible refine (HO.out _).mono ?_); rintro e x2 ⟨rfl, rfl⟩)
    go_wp2_with fail
    ((with_reducible refine (C1.out _).mono ?_); rintro e x3 ⟨rfl, rfl⟩)
    go_wp2_with fail
    ((with_reducible refine (HN.out _).mono ?_); rintro e x4 ⟨rfl, h4⟩)
    go_wp2_with fail
    ((with_reducible refine (C2.out _).mono ?_); rintro e x5 ⟨rfl, rfl⟩)
    go_wp2_with fail
    ((with_reducible refine (HX.out _).mono ?_); rintro e x6 ⟨rfl, h6⟩)
    go_wp2_with fail
    go_ret
    exact ⟨rfl, Below.next (Below.next (Below.next hBc h1 (Nat.le_refl _)) h4 (Nat.le_refl _)) h6 (Nat.le_refl _)⟩

set_option maxRecDepth 100000 in
set_option maxHeartbeats 4000000 in
theorem walkN (b : Int) (hb : 0 ≤ b ∧ b ≤ 255) (v : Value) (bs : List Int) (w : World) (hv : law.BytesAt w v bs) (hw : OpsAt w) (hL : Sg.cL b = false) (hD : Sg.cD b = false) (hBl : Sg.cB b = false) :
    Calls Tryd.prog 7 #[.int .u8 b, v] w fun e W' => e = .returned (.bool true) ∧ Below w.heap.size w W' := by
  have c1 := fun w => letter_calls b w
  have c2 := fun w => digit_calls b w
  have c3 := fun w => blank_calls b w
  rw [hL] at c1
  rw [hD] at c2
  rw [hBl] at c3
  have C1 := Lib.hid c1; have C2 := Lib.hid c2; have C3 := Lib.hid c3
  have hf := fun W (hB : Below w.heap.size w W) => front_calls v bs W (hv.below hB)
  obtain ⟨f, hfe⟩ : ∃ f, frontF bs = f := ⟨_, rfl⟩
  have hs := frontF_size bs
  rw [hfe] at hf hs
  have HF := Lib.hid hf; have HW := Lib.hid hw
  have hconv : ∀ W B, World.cell? W ⟨B, 0, none⟩ = some (.int .u8 b) → (convert 22 9 (.slice (some ⟨B, 0, none⟩) 1 1)).run Tryd.prog W = .ok (.string (byteB b)) W := fun W B h => conv_at h
  have hsum : ¬ (9223372036854775807 < (byteB b).size + f.size) := by rw [byteB_size]; omega
  have hdat : (byteB b ++ f).data.toList = UInt8.ofNat b.toNat :: f.data.toList := by rw [append_data, byteB_data]; rfl
  have hbn := byte_nat hb.1 hb.2
  have hzs : (byteB b ++ f).size ≤ 37 := by rw [ByteArray.size_append, byteB_size]; omega
  have f1 := Sg.word_first (UInt8.ofNat b.toNat) f.data.toList
  have f2 := Sg.number_first (UInt8.ofNat b.toNat) f.data.toList
  have f3 := Sg.number_digit (UInt8.ofNat b.toNat) f.data.toList
  have f4 := Sg.escape_first (UInt8.ofNat b.toNat) f.data.toList
  rw [hbn, ← hdat] at f1 f2 f3 f4
  rw [hL] at f1
  rw [hD] at f2 f3
  have F1 := Lib.hid f1; have F2 := Lib.hid f2; have F3 := Lib.hid f3; have F4 := Lib.hid f4; have HZ := Lib.hid hzs
  clear hfe hv hf c1 c2 c3 hdat hbn f1 f2 f3 f4 hw hzs
  go_enter Tryd.func7, Tryd.ntmps7
  go_wp2_with fail
  ((with_reducible refine (C1.out _).mono ?_); rintro e w1 ⟨rfl, rfl⟩)
  go_wp2_with fail
  ((with_reducible refine (C2.out _).mono ?_); rintro e w1 ⟨rfl, rfl⟩)
  go_wp2_with fail
  ((with_reducible refine (C3.out _).mono ?_); rintro e w1 ⟨rfl, rfl⟩)
  go_upto_region 8 with fail
  go_cut [6] from 19 to 24 (fun s wx => s = .string (byteB b ++ f) ∧ Below w.heap.size w wx)
  case first =>
    go_region_with (first | (go_at_call 11; refine (HF.out _ (by first | exact Below.refl _ _ | exact (Below.refl _ w).alloc (Nat.le_refl _) _ | exact (Below.refl _ w).drew | exact ((Below.refl _ w).alloc (Nat.le_refl _) _).drew | exact ((Below.refl _ w).drew).alloc (Nat.le_refl _) _)).mono ?_; rintro e w2 ⟨rfl, hb2⟩; try (have hcx : w2.cell? ⟨w.heap.size, 0, none⟩ = some (.int .u8 b) := (hb2.cell (p := ⟨w.heap.size, 0, none⟩) (by simp)).trans (cells_new w #[.int .u8 b] 5 0))))
    all_goals go_wp2_with fail
    all_goals go_meet
    all_goals first
      | exact ⟨rfl, Below.next ((Below.refl _ w).alloc (Nat.le_refl _) _) hb2 (Nat.le_refl _)⟩
      | exact ⟨rfl, Below.next ((Below.refl _ w).alloc (Nat.le_refl _) _).drew hb2 (Nat.le_refl _)⟩
      | exact ⟨rfl, (hb2.alloc hb2.size _)⟩
      | exact ⟨rfl, (Below.next (Below.refl _ w).drew hb2 (Nat.le_refl _)).alloc hb2.size _⟩
  case rest =>
    obtain ⟨rfl, hBc⟩ := hcut
    have HN := Lib.hid (fun w => number_is (byteB b ++ f) (by have := HZ.out; omega) _ rfl w)
    have HX := Lib.hid (fun w => escape_is (byteB b ++ f) (by have := HZ.out; omega) _ rfl w)
    have HO := Lib.hid (fun w => word_is (byteB b ++ f) (by have := HZ.out; omega) _ rfl w)
    obtain ⟨N, hN⟩ : ∃ N, Sg.number (byteB b ++ f).data.toList = N := ⟨_, rfl⟩
    obtain ⟨E, hE⟩ : ∃ E, Sg.escape (byteB b ++ f).data.toList = E := ⟨_, rfl⟩
    obtain ⟨D, hDw⟩ : ∃ D, Sg.word (byteB b ++ f).data.toList = D := ⟨_, rfl⟩
    rw [hN] at HN F2 F3
    rw [hE] at HX F4
    rw [hDw] at HO F1
    obtain ⟨y, hy⟩ : ∃ y, byteB b ++ f = y := ⟨_, rfl⟩
    rw [hy] at HN HX HO ⊢
    clear hN hE hDw hy hsum hconv
    by_cases hN0 : N = 0
    · subst hN0
      by_cases hE0 : E = 0
      · subst hE0
        have d1 := F1.out
        go_wp2_with fail
        ((with_reducible refine (known_calls _ (HW.out.own hBc)).mono ?_); rintro e x1 ⟨rfl, h1⟩)
        go_wp2_with fail
        ((with_reducible refine (HO.out _).mono ?_); rintro e x2 ⟨rfl, rfl⟩)
        go_wp2_with fail
        ((with_reducible refine (C1.out _).mono ?_); rintro e x3 ⟨rfl, rfl⟩)
        go_wp2_with fail
        ((with_reducible refine (HN.out _).mono ?_); rintro e x4 ⟨rfl, h4⟩)
        go_wp2_with fail
        ((with_reducible refine (C2.out _).mono ?_); rintro e x5 ⟨rfl, rfl⟩)
        go_wp2_with fail
        ((with_reducible refine (HX.out _).mono ?_); rintro e x6 ⟨rfl, h6⟩)
        go_wp2_with fail
        go_ret
        exact ⟨rfl, Below.next (Below.next (Below.next hBc h1 (Nat.le_refl _)) h4 (Nat.le_refl _)) h6 (Nat.le_refl _)⟩
      · have h92 : b = 92 := F4.out.resolve_left hE0
        subst h92
        have e0 : ((E : Int) == 0) = false := by rw [beq_eq_false_iff_ne]; omega
        have e0n : (E == 0) = false := by rw [beq_eq_false_iff_ne]; omega
        have d1 := F1.out
        go_wp2_with fail
        ((with_reducible refine (known_calls _ (HW.out.own hBc)).mono ?_); rintro e x1 ⟨rfl, h1⟩)
        go_wp2_with fail
        ((with_reducible refine (HO.out _).mono ?_); rintro e x2 ⟨rfl, rfl⟩)
        go_wp2_with fail
        ((with_reducible refine (C1.out _).mono ?_); rintro e x3 ⟨rfl, rfl⟩)
        go_wp2_with fail
        ((with_reducible refine (HN.out _).mono ?_); rintro e x4 ⟨rfl, h4⟩)
        go_wp2_with fail
        ((with_reducible refine (C2.out _).mono ?_); rintro e x5 ⟨rfl, rfl⟩)
        go_wp2_with fail
        ((with_reducible refine (HX.out _).mono ?_); rintro e x6 ⟨rfl, h6⟩)
        go_wp2_with fail
        go_ret
        exact ⟨rfl, Below.next (Below.next (Below.next hBc h1 (Nat.le_refl _)) h4 (Nat.le_refl _)) h6 (Nat.le_refl _)⟩
    · have h46 : b = 46 := by rcases F2.out with h | h | h; exact absurd h hN0; exact absurd h (by decide); exact h
      have n0 : ((N : Int) == 0) = false := by rw [beq_eq_false_iff_ne]; omega
      have n0n : (N == 0) = false := by rw [beq_eq_false_iff_ne]; omega
      obtain rfl : E = 0 := F4.out.resolve_right (by omega)
      subst h46
      have d1 := F1.out
      go_wp2_with fail
      ((with_reducible refine (known_calls _ (HW.out.own hBc)).mono ?_); rintro e x1 ⟨rfl, h1⟩)
      go_wp2_with fail
      ((with_reducible refine (HO.out _).mono ?_); rintro e x2 ⟨rfl, rfl⟩)
      go_wp2_with fail
      ((with_reducible refine (C1.out _).mono ?_); rintro e x3 ⟨rfl, rfl⟩)
      go_wp2_with fail
      ((with_reducible refine (HN.out _).mono ?_); rintro e x4 ⟨rfl, h4⟩)
      go_wp2_with fail
      ((with_reducible refine (C2.out _).mono ?_); rintro e x5 ⟨rfl, rfl⟩)
      go_wp2_with fail
      ((with_reducible refine (C2.out _).mono ?_); rintro e x6 ⟨rfl, rfl⟩)
      go_wp2_with fail
      ((with_reducible refine (HX.out _).mono ?_); rintro e x7 ⟨rfl, h7⟩)
      go_wp2_with fail
      go_ret
      exact ⟨rfl, Below.next (Below.next (Below.next hBc h1 (Nat.le_refl _)) h4 (Nat.le_refl _)) h7 (Nat.le_refl _)⟩

theorem walk (b : Int) (hb : 0 ≤ b ∧ b ≤ 255) (v : Value) (bs : List Int) (w : World) (hv : law.BytesAt w v bs) (hw : OpsAt w) :
    Calls Tryd.prog 7 #[.int .u8 b, v] w fun e W' => e = .returned (.bool true) ∧ Below w.heap.size w W' := by
  have ha := Sg.apart b
  cases hL : Sg.cL b with
  | true =>
    cases hD : Sg.cD b with
    | true => rw [hL, hD] at ha; exact absurd ha (by cases Sg.cB b <;> decide)
    | false =>
      cases hB : Sg.cB b with
      | true => rw [hL, hD, hB] at ha; exact absurd ha (by decide)
      | false => exact walkL b hb v bs w hv hw hL hD hB
  | false =>
    cases hD : Sg.cD b with
    | true =>
      cases hB : Sg.cB b with
      | true => rw [hL, hD, hB] at ha; exact absurd ha (by decide)
      | false => exact walkD b hb v bs w hv hw hL hD hB
    | false =>
      cases hB : Sg.cB b with
      | true => exact walkB b hb v bs w hv hw hL hD hB
      | false => exact walkN b hb v bs w hv hw hL hD hB

set_option maxRecDepth 100000 in
theorem door_met (os : Os) (args : Array Value) : laidMetH Tryd.prog laid ((World.doorLaid Tryd.prog 14 os).forCall (fun _ _ => 0) ⟨#[], args, []⟩).memory :=
  laidMetH_of_parts3 (fuel := 8) (laidMet_of_run' 8 (by kernel_rfl) (by kernel_rfl)) (by kernel_rfl) (by kernel_rfl)

set_option maxRecDepth 100000 in
theorem lifted (os : Os) (started : os.Started) (H : Type) (enc : TypeId × Value → H) :
    ReturnsInHanded {} Tryd.checked os 7 .any (fun w args => (Rows.signBytesSpec.pre enc Tryd.prog Tryd.f7 Rows.signBytesRow.domain false w args ∧ laidMetH Tryd.prog laid w) ∧ sizedMet enc Tryd.prog Tryd.f7 (OpenSpec.ofChange Rows.signBytesSpec) false w args) (Rows.signBytesSpec.post enc Tryd.prog Tryd.f7 false true false false) := by
  refine returnsInHanded_of_change_and (C := Tryd.checked) (X := fun w _ => laidMetH Tryd.prog laid w) (fun _ _ _ hh h => h.of_heap hh) law.own started (by kernel_rfl) Tryd.func7
    (ChangeSpec.witness_shaped (enc := enc) (C := Tryd.checked) (os := os) (X := fun w _ => laidMetH Tryd.prog laid w) false (World.doorLaid Tryd.prog 14 os) #[.int .u8 0, .slice none 0 0] 8 rfl (World.shaped_of_RefB (by kernel_rfl) (by kernel_rfl)) (by kernel_rfl) (by kernel_rfl) (by kernel_rfl) (door_met os _)) ?_
  intro W base args ds gs before hval0 hW _ hsize0 hL _
  have hsize : (DataW.weightsEach Tryd.prog (Tryd.f7.params.toList ++ _) (ds ++ gs)).all (· ≤ reachBytes) = true := hsize0
  have hOps := ops_of_laid hL
  have hval : ∀ (j : Nat) t v, Tryd.f7.params[j]? = some t → args[j]? = some v → Value.okWide Tryd.prog W .any base t v := hval0
  have hW' := hW
  obtain ⟨p, q, hA0, hV, rfl, _, _⟩ := hW
  have hA : DataW.TrodAll enc Tryd.prog W 0 (fun _ => true) true Tryd.f7.params.toList args.toList ds p := hA0
  rw [Tryd.params7] at hA hval
  obtain ⟨v0, v1, d0, d1, p0, p1, rfl, rfl, rfl, h0, h1⟩ := trodAll_two hA
  obtain ⟨rfl, rfl⟩ := trodVars_none hV
  obtain ⟨x, rfl, rfl, rfl, wx⟩ := open_int Tryd.underlying5 (hval 0 5 v0 rfl rfl) h0
  have hx := law.u8_wf wx
  obtain ⟨bs, hbs⟩ := law.open_bytes (hval 1 22 v1 rfl rfl) h1
  clear hL
  refine (walk x hx v1 bs W hbs hOps).mono fun e W' ⟨he, hb⟩ => ⟨_, he, ?_⟩
  exact law.law_post rfl hW' rfl (by kernel_rfl) (by kernel_rfl) hb

/-- SignBytes, for every input. -/
theorem holds : Rows.SignBytesSaid :=
  OpenClaim.holds_of_wide 7 Tryd.f7 rfl rfl rfl rfl rfl rfl rfl ⟨rfl, rfl, rfl, rfl, rfl⟩ rfl rfl rfl rfl rfl (by kernel_rfl) Tryd.func7 (by kernel_rfl)
    (of_decide_eq_true (by kernel_rfl)) (by unfold Func.isWrapper; first | (rw [if_pos (by decide +kernel)]; kernel_rfl) | (rw [if_neg (by decide +kernel)]; exact ⟨rfl, rfl⟩))
    (fun os started H enc _ => lifted os started H enc)

/-- The tied card of SignBytes. -/
theorem card : Rows.SignBytesCardSaid :=
  Claim7.holds_tied_plain_at .later [] [.data] true Rows.signBytesCard.stood.harness false
    holds (fun _ h => by cases h) (by kernel_rfl) (fun _ h => by cases h) signBytes_row_tie rfl ⟨rfl, rfl⟩ (by kernel_rfl) rfl
    (fun f fn hf hfn => by
      obtain rfl : f = 7 := Option.some.inj ((show Tryd.prog.funcNamed "subeditor/subeditorlaw03.SignBytes" = some 7 by kernel_rfl).symm.trans hf) |>.symm
      obtain rfl : fn = Tryd.f7 := (Option.some.inj (Tryd.func7.symm.trans hfn)).symm
      exact ⟨by kernel_rfl, fun j t ht => by
        rw [Tryd.params7] at ht
        have hm := List.mem_toArray.1 (Array.mem_of_getElem? ht)
        have hall : (Tryd.f7.params.toList.all fun u => !Tryd.prog.wantsStandIn u) = true := by kernel_rfl
        rw [show Tryd.f7.params.toList = _ from congrArg Array.toList Tryd.params7] at hall
        exact (show Tryd.prog.wantsStandIn t = false by simpa using List.all_eq_true.1 hall t hm)⟩)
    (by kernel_rfl)
end Go.Proofs.YtdhmcfhpadabaaaDoor.signBytes
