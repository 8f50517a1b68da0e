/-
  prec: Level, Side, Left, Right, Of: their contracts.
-/
import Derived.Test.YtimhhdikdinhjaaDoorPrTable
import Derived.Test.YtimhhdikdinhjaaDoorPrBase
namespace Go.Proofs.YtimhhdikdinhjaaDoor.pr
open Go.RowKit Go.Shelf sx
set_option linter.unusedVariables false

theorem table_calls (w : World) (hL : LvAt w) :
    Calls Tryd.prog 26 #[] w fun e W' => e = .returned (.map (some w.heap.size)) ∧ TabAt W' w.heap.size opsP ∧ Below w.heap.size w W' :=
  callsIn_wide.1 (table_in 3 (Nat.le_refl _) w hL)
theorem Below.next {B : Nat} {w a b : World} (h : Below B w a) (k : Below a.heap.size a b) (hB : B ≤ w.heap.size) : Below B w b := h.trans (k.mono (Nat.le_trans hB h.size))
theorem field0 (a b : Int) (w : World) : (Instr.field 40 (.agg #[.int .i64 a, .int .i64 b]) 0).run Tryd.prog w = .ok (.int .i64 a) w := by kernel_rfl
theorem field1 (a b : Int) (w : World) : (Instr.field 40 (.agg #[.int .i64 a, .int .i64 b]) 1).run Tryd.prog w = .ok (.int .i64 b) w := by kernel_rfl
theorem gradeV_eq (s : ByteArray) : gradeV s = .agg #[.int .i64 (levelOf s), .int .i64 (sideOf s)] := rfl
theorem look1 {W : World} {b : Nat} (h : TabAt W b opsP) {s : ByteArray} (hs : s.size ≤ maxLen) :
    (Instr.lookup 41 (.map (some b)) (.string s) false).run Tryd.prog W = .ok (.agg #[.int .i64 (levelOf s), .int .i64 (sideOf s)]) W := h.look hs false
theorem look2 {W : World} {b : Nat} (h : TabAt W b opsP) {s : ByteArray} (hs : s.size ≤ maxLen) :
    (Instr.lookup 41 (.map (some b)) (.string s) true).run Tryd.prog W = .ok (.tuple #[.agg #[.int .i64 (levelOf s), .int .i64 (sideOf s)], .bool (isOp s)]) W := h.look hs true

set_option maxHeartbeats 1000000 in
theorem level_calls (s : ByteArray) (hs : s.size ≤ maxLen) (w : World) (hL : LvAt w) :
    Calls Tryd.prog 15 #[.string s] w fun e w' => e = .returned (.int .i64 (levelOf s)) ∧ Below w.heap.size w w' := by
  go_enter Tryd.func15, Tryd.ntmps15
  go_wp2_with fail
  ((with_reducible refine (table_calls w hL).mono ?_); rintro e w1 ⟨rfl, hT, hb1⟩)
  have hlk := look1 hT hs
  clear hT hL
  go_wp2_with fail
  rw [field0]
  go_wp2_with fail
  go_ret
  exact ⟨rfl, hb1⟩
set_option maxHeartbeats 1000000 in
theorem side_calls (s : ByteArray) (hs : s.size ≤ maxLen) (w : World) (hL : LvAt w) :
    Calls Tryd.prog 18 #[.string s] w fun e w' => e = .returned (.int .i64 (sideOf s)) ∧ Below w.heap.size w w' := by
  go_enter Tryd.func18, Tryd.ntmps18
  go_wp2_with fail
  ((with_reducible refine (table_calls w hL).mono ?_); rintro e w1 ⟨rfl, hT, hb1⟩)
  have hlk := look1 hT hs
  clear hT hL
  go_wp2_with fail
  rw [field1]
  go_wp2_with fail
  go_ret
  exact ⟨rfl, hb1⟩

set_option maxHeartbeats 2000000 in
theorem beside_calls (s : ByteArray) (hs : s.size ≤ maxLen) (d : Int) (w : World) (hL : LvAt w) :
    Calls Tryd.prog 27 #[.string s, .int .i64 d] w fun e w' => e = .returned (.int .i64 (besideOf s d)) ∧ Below w.heap.size w w' := by
  have hbd := level_bounds s
  have hv : besideOf s d = if isOp s = true ∧ sideOf s ≠ d then levelOf s + 1 else levelOf s := rfl
  have HC := Lib.hid (fun w hL => table_calls w hL)
  have HK := Lib.hid (fun W b (h : TabAt W b opsP) => look2 h hs)
  obtain ⟨a, ha⟩ : ∃ a, levelOf s = a := ⟨_, rfl⟩
  obtain ⟨b, hb⟩ : ∃ b, sideOf s = b := ⟨_, rfl⟩
  obtain ⟨c, hc⟩ : ∃ c, isOp s = c := ⟨_, rfl⟩
  rw [ha] at hbd
  rw [ha, hb, hc] at hv HK
  have HV := Lib.hid hv
  clear hv ha hb hc
  have hw1 : wrap64 (a + 1) = a + 1 := by rw [IntWalk.wrap64_in]; omega
  have HW := Lib.hid hL
  clear hL
  cases c with
  | false =>
    go_enter Tryd.func27, Tryd.ntmps27
    go_wp2_with fail
    ((with_reducible refine (HC.out w HW.out).mono ?_); rintro e w1 ⟨rfl, hT, hb1⟩)
    have hlk := HK.out _ _ hT
    clear hT
    go_wp2_with fail
    go_ret
    exact ⟨by rw [HV.out]; simp, hb1.alloc hb1.size _⟩
  | true =>
    by_cases hd : b = d
    · have q1 : (b == d) = true := by rw [beq_iff_eq]; exact hd
      have q2 : (b != d) = false := by unfold bne; rw [q1]; rfl
      have q3 : decide (b = d) = true := decide_eq_true hd
      have HQ := Lib.hid hd
      clear hd
      go_enter Tryd.func27, Tryd.ntmps27
      go_wp2_with fail
      ((with_reducible refine (HC.out w HW.out).mono ?_); rintro e w1 ⟨rfl, hT, hb1⟩)
      have hlk := HK.out _ _ hT
      clear hT
      go_wp2_with fail
      go_ret
      exact ⟨by rw [HV.out, HQ.out]; simp, hb1.alloc hb1.size _⟩
    · have q1 : (b == d) = false := by rw [beq_eq_false_iff_ne]; exact hd
      have q2 : (b != d) = true := by unfold bne; rw [q1]; rfl
      have q3 : decide (b = d) = false := decide_eq_false hd
      have HQ := Lib.hid hd
      clear hd
      go_enter Tryd.func27, Tryd.ntmps27
      go_wp2_with fail
      ((with_reducible refine (HC.out w HW.out).mono ?_); rintro e w1 ⟨rfl, hT, hb1⟩)
      have hlk := HK.out _ _ hT
      clear hT
      go_wp2_with fail
      go_ret
      exact ⟨by rw [HV.out]; simp [HQ.out], hb1.alloc hb1.size _⟩
theorem left_calls (s : ByteArray) (hs : s.size ≤ maxLen) (w : World) (hL : LvAt w) :
    Calls Tryd.prog 16 #[.string s] w fun e w' => e = .returned (.int .i64 (besideOf s 1)) ∧ Below w.heap.size w w' := by
  have HB := Lib.hid (beside_calls s hs 1 w hL)
  clear hL
  go_enter Tryd.func16, Tryd.ntmps16
  go_wp2_with fail
  ((with_reducible refine HB.out.mono ?_); rintro e w1 ⟨rfl, hb1⟩)
  go_wp2_with fail
  go_ret
  exact ⟨rfl, hb1⟩
theorem right_calls (s : ByteArray) (hs : s.size ≤ maxLen) (w : World) (hL : LvAt w) :
    Calls Tryd.prog 17 #[.string s] w fun e w' => e = .returned (.int .i64 (besideOf s 2)) ∧ Below w.heap.size w w' := by
  have HB := Lib.hid (beside_calls s hs 2 w hL)
  clear hL
  go_enter Tryd.func17, Tryd.ntmps17
  go_wp2_with fail
  ((with_reducible refine HB.out.mono ?_); rintro e w1 ⟨rfl, hb1⟩)
  go_wp2_with fail
  go_ret
  exact ⟨rfl, hb1⟩

set_option maxHeartbeats 2000000 in
theorem of_calls (k : Int) (s : ByteArray) (hs : s.size ≤ 140737488351232) (w : World) (hL : LvAt w) :
    Calls Tryd.prog 11 #[.agg #[.int .i64 k, .string s]] w fun e w' => e = .returned (.string (textOf k s)) ∧ Below w.heap.size w w' := by
  have hv : textOf k s = if isKind k = true ∧ levelOf s ≠ 0 then s else ⟨#[]⟩ := rfl
  have hk : isKind k = (decide (k = 13) || decide (k = 3)) := rfl
  have HC := Lib.hid (fun W (hb : Below w.heap.size w W) => level_calls s (by unfold maxLen; omega) W (hL.own hb))
  have HO := Lib.hid (fun W => clone_calls s hs W)
  obtain ⟨a, ha⟩ : ∃ a, levelOf s = a := ⟨_, rfl⟩
  rw [ha] at hv HC
  rw [hk] at hv
  have HV := Lib.hid hv
  clear hv ha hk hL
  have hb0 : Below w.heap.size w (w.alloc (.cells #[.int .i64 k, .string s] 23)) := (Below.refl _ w).alloc (Nat.le_refl _) _
  have HB0 := Lib.hid hb0
  clear hb0
  by_cases h13 : k = 13
  · subst h13
    by_cases h0 : a = 0
    · subst h0
      go_enter Tryd.func11, Tryd.ntmps11
      go_wp2_with fail
      ((with_reducible refine (HC.out _ HB0.out).mono ?_); rintro e w1 ⟨rfl, hb1⟩)
      go_wp2_with fail
      go_ret
      exact ⟨by rw [HV.out]; simp, Below.next HB0.out hb1 (by simp)⟩
    · have q1 : (a == 0) = false := by rw [beq_eq_false_iff_ne]; exact h0
      have q3 : decide (a = 0) = false := decide_eq_false h0
      have HQ := Lib.hid h0
      clear h0
      go_enter Tryd.func11, Tryd.ntmps11
      go_wp2_with fail
      ((with_reducible refine (HC.out _ HB0.out).mono ?_); rintro e w1 ⟨rfl, hb1⟩)
      have hc1 : w1.cell? ⟨w.heap.size, 1, none⟩ = some (.string s) := (hb1.cell (p := ⟨w.heap.size, 1, none⟩) (by simp)).trans ((Blk.new w 23 #[.int .i64 13, .string s]).cell 1)
      go_wp2_with fail
      ((with_reducible refine (HO.out _).mono ?_); rintro e w2 ⟨rfl, hb2⟩)
      go_wp2_with fail
      go_ret
      exact ⟨by rw [HV.out]; simp [HQ.out], Below.next (Below.next HB0.out hb1 (by simp)) hb2 (Nat.le_refl _)⟩
  · have p1 : (k == 13) = false := by rw [beq_eq_false_iff_ne]; exact h13
    have p3 : decide (k = 13) = false := decide_eq_false h13
    have HP := Lib.hid h13
    clear h13
    by_cases h3 : k = 3
    · subst h3
      by_cases h0 : a = 0
      · subst h0
        go_enter Tryd.func11, Tryd.ntmps11
        go_wp2_with fail
        ((with_reducible refine (HC.out _ HB0.out).mono ?_); rintro e w1 ⟨rfl, hb1⟩)
        go_wp2_with fail
        go_ret
        exact ⟨by rw [HV.out]; simp, Below.next HB0.out hb1 (by simp)⟩
      · have q1 : (a == 0) = false := by rw [beq_eq_false_iff_ne]; exact h0
        have q3 : decide (a = 0) = false := decide_eq_false h0
        have HQ := Lib.hid h0
        clear h0
        go_enter Tryd.func11, Tryd.ntmps11
        go_wp2_with fail
        ((with_reducible refine (HC.out _ HB0.out).mono ?_); rintro e w1 ⟨rfl, hb1⟩)
        have hc1 : w1.cell? ⟨w.heap.size, 1, none⟩ = some (.string s) := (hb1.cell (p := ⟨w.heap.size, 1, none⟩) (by simp)).trans ((Blk.new w 23 #[.int .i64 3, .string s]).cell 1)
        go_wp2_with fail
        ((with_reducible refine (HO.out _).mono ?_); rintro e w2 ⟨rfl, hb2⟩)
        go_wp2_with fail
        go_ret
        exact ⟨by rw [HV.out]; simp [HQ.out], Below.next (Below.next HB0.out hb1 (by simp)) hb2 (Nat.le_refl _)⟩
    · have r1 : (k == 3) = false := by rw [beq_eq_false_iff_ne]; exact h3
      have r3 : decide (k = 3) = false := decide_eq_false h3
      have HR := Lib.hid h3
      clear h3
      go_enter Tryd.func11, Tryd.ntmps11
      go_wp2_with fail
      go_ret
      exact ⟨by rw [HV.out]; simp [HP.out, HR.out], HB0.out⟩
end Go.Proofs.YtimhhdikdinhjaaDoor.pr
