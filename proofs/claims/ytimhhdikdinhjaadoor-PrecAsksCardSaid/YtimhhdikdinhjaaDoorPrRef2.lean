/-
  The document's layer 6: Side, Left, Right, Of, Opers.
-/
import Derived.Test.YtimhhdikdinhjaaDoorPrRef
namespace Go.Proofs.YtimhhdikdinhjaaDoor.pr
open Go.RowKit Go.Shelf sx
set_option linter.unusedVariables false

set_option maxRecDepth 100000 in
set_option maxHeartbeats 4000000 in
theorem rside_calls (s : ByteArray) (w : World) :
    Calls Tryd.prog 21 #[.string s] w fun e w' => e = .returned (.int .i64 (sideOf s)) ∧ Below w.heap.size w w' := by
  have hbd := level_bounds s
  have hsd := side_of_level s
  have HR := Lib.hid (fun w => rlevel_calls s w)
  obtain ⟨a, ha⟩ : ∃ a, levelOf s = a := ⟨_, rfl⟩
  rw [ha] at hbd HR hsd
  obtain ⟨b, hb⟩ : ∃ b, sideOf s = b := ⟨_, rfl⟩
  rw [hb] at hsd ⊢
  clear hb ha
  have hn : Below w.heap.size w (w.alloc (.cells (sidesD.map (Value.int .i64)).toArray 3)) := (Below.refl _ w).alloc (Nat.le_refl _) _
  have hc0 : (w.alloc (.cells (sidesD.map (Value.int .i64)).toArray 3)).cell? ⟨w.heap.size, a.toNat, none⟩ = some (.int .i64 b) := by
    rw [(Blk.new w 3 _).cell a.toNat]
    simp [hsd]
  have HN := Lib.hid hn; have HC := Lib.hid hc0
  clear hn hc0 hsd
  obtain ⟨h0, h9⟩ := hbd
  have h10 : a < 10 := by omega
  go_enter Tryd.func21, Tryd.ntmps21
  go_wp2_with fail
  ((with_reducible refine (HR.out _).mono ?_); rintro e w1 ⟨rfl, hb1⟩)
  have hc1 : w1.cell? ⟨w.heap.size, a.toNat, none⟩ = some (.int .i64 b) := (hb1.cell (p := ⟨w.heap.size, a.toNat, none⟩) (by simp)).trans HC.out
  have HB := Lib.hid (show Below w.heap.size w w1 from Below.next HN.out hb1 (by simp))
  clear hb1
  go_wp2_with fail
  go_ret
  exact ⟨rfl, HB.out⟩

set_option maxHeartbeats 2000000 in
theorem rleft_calls (s : ByteArray) (w : World) :
    Calls Tryd.prog 22 #[.string s] w fun e w' => e = .returned (.int .i64 (besideOf s 1)) ∧ Below w.heap.size w w' := by
  have hbd := level_bounds s
  have hv : besideOf s 1 = if isOp s = true ∧ sideOf s ≠ 1 then levelOf s + 1 else levelOf s := rfl
  rw [level_isOp] at hv
  simp only [decide_eq_true_eq] at hv
  have HR := Lib.hid (fun w => rlevel_calls s w)
  have HS := Lib.hid (fun w => rside_calls s w)
  obtain ⟨a, ha⟩ : ∃ a, levelOf s = a := ⟨_, rfl⟩
  obtain ⟨b, hb⟩ : ∃ b, sideOf s = b := ⟨_, rfl⟩
  rw [ha] at hbd HR
  rw [hb] at HS
  rw [ha, hb] at hv
  have HV := Lib.hid hv
  clear hv ha hb
  have hw1 : wrap64 (a + 1) = a + 1 := by rw [IntWalk.wrap64_in]; omega
  by_cases h0 : 0 < a
  · have q0 : decide (0 < a) = true := decide_eq_true h0
    by_cases hd : b = 1
    · subst hd
      go_enter Tryd.func22, Tryd.ntmps22
      go_wp2_with fail
      ((with_reducible refine (HR.out _).mono ?_); rintro e w1 ⟨rfl, hb1⟩)
      go_wp2_with fail
      ((with_reducible refine (HS.out _).mono ?_); rintro e w2 ⟨rfl, hb2⟩)
      go_wp2_with fail
      go_ret
      exact ⟨by rw [HV.out]; simp, Below.next hb1 hb2 (Nat.le_refl _)⟩
    · have q1 : (b == 1) = false := by rw [beq_eq_false_iff_ne]; exact hd
      have q2 : (b != 1) = true := by unfold bne; rw [q1]; rfl
      have HQ := Lib.hid hd; have H0 := Lib.hid h0
      clear hd
      go_enter Tryd.func22, Tryd.ntmps22
      go_wp2_with fail
      ((with_reducible refine (HR.out _).mono ?_); rintro e w1 ⟨rfl, hb1⟩)
      go_wp2_with fail
      ((with_reducible refine (HS.out _).mono ?_); rintro e w2 ⟨rfl, hb2⟩)
      go_wp2_with fail
      go_ret
      exact ⟨by rw [HV.out]; simp [HQ.out, H0.out], Below.next hb1 hb2 (Nat.le_refl _)⟩
  · have q0 : decide (0 < a) = false := decide_eq_false h0
    have H0 := Lib.hid h0
    go_enter Tryd.func22, Tryd.ntmps22
    go_wp2_with fail
    ((with_reducible refine (HR.out _).mono ?_); rintro e w1 ⟨rfl, hb1⟩)
    go_wp2_with fail
    go_ret
    exact ⟨by rw [HV.out, if_neg (fun h => by have := H0.out; omega)]; rfl, hb1⟩
set_option maxHeartbeats 2000000 in
theorem rright_calls (s : ByteArray) (w : World) :
    Calls Tryd.prog 23 #[.string s] w fun e w' => e = .returned (.int .i64 (besideOf s 2)) ∧ Below w.heap.size w w' := by
  have hbd := level_bounds s
  have hv : besideOf s 2 = if isOp s = true ∧ sideOf s ≠ 2 then levelOf s + 1 else levelOf s := rfl
  rw [level_isOp] at hv
  simp only [decide_eq_true_eq] at hv
  have HR := Lib.hid (fun w => rlevel_calls s w)
  have HS := Lib.hid (fun w => rside_calls s w)
  obtain ⟨a, ha⟩ : ∃ a, levelOf s = a := ⟨_, rfl⟩
  obtain ⟨b, hb⟩ : ∃ b, sideOf s = b := ⟨_, rfl⟩
  rw [ha] at hbd HR
  rw [hb] at HS
  rw [ha, hb] at hv
  have HV := Lib.hid hv
  clear hv ha hb
  have hw1 : wrap64 (a + 1) = a + 1 := by rw [IntWalk.wrap64_in]; omega
  by_cases h0 : 0 < a
  · have q0 : decide (0 < a) = true := decide_eq_true h0
    by_cases hd : b = 2
    · subst hd
      go_enter Tryd.func23, Tryd.ntmps23
      go_wp2_with fail
      ((with_reducible refine (HR.out _).mono ?_); rintro e w1 ⟨rfl, hb1⟩)
      go_wp2_with fail
      ((with_reducible refine (HS.out _).mono ?_); rintro e w2 ⟨rfl, hb2⟩)
      go_wp2_with fail
      go_ret
      exact ⟨by rw [HV.out]; simp, Below.next hb1 hb2 (Nat.le_refl _)⟩
    · have q1 : (b == 2) = false := by rw [beq_eq_false_iff_ne]; exact hd
      have q2 : (b != 2) = true := by unfold bne; rw [q1]; rfl
      have HQ := Lib.hid hd; have H0 := Lib.hid h0
      clear hd
      go_enter Tryd.func23, Tryd.ntmps23
      go_wp2_with fail
      ((with_reducible refine (HR.out _).mono ?_); rintro e w1 ⟨rfl, hb1⟩)
      go_wp2_with fail
      ((with_reducible refine (HS.out _).mono ?_); rintro e w2 ⟨rfl, hb2⟩)
      go_wp2_with fail
      go_ret
      exact ⟨by rw [HV.out]; simp [HQ.out, H0.out], Below.next hb1 hb2 (Nat.le_refl _)⟩
  · have q0 : decide (0 < a) = false := decide_eq_false h0
    have H0 := Lib.hid h0
    go_enter Tryd.func23, Tryd.ntmps23
    go_wp2_with fail
    ((with_reducible refine (HR.out _).mono ?_); rintro e w1 ⟨rfl, hb1⟩)
    go_wp2_with fail
    go_ret
    exact ⟨by rw [HV.out, if_neg (fun h => by have := H0.out; omega)]; rfl, hb1⟩

set_option maxHeartbeats 2000000 in
theorem rof_calls (k : Int) (s : ByteArray) (w : World) :
    Calls Tryd.prog 12 #[.agg #[.int .i64 k, .string s]] w fun e w' => e = .returned (.string (textOf k s)) ∧ Below w.heap.size w w' := by
  have hv : textOf k s = if isKind k = true ∧ levelOf s ≠ 0 then s else ⟨#[]⟩ := rfl
  have hk : isKind k = (decide (k = 13) || decide (k = 3)) := rfl
  have HC := Lib.hid (fun W => rlevel_calls s W)
  obtain ⟨a, ha⟩ : ∃ a, levelOf s = a := ⟨_, rfl⟩
  rw [ha] at hv HC
  rw [hk] at hv
  have HV := Lib.hid hv
  clear hv ha hk
  have hb0 : Below w.heap.size w (w.alloc (.cells #[.int .i64 k, .string s] 23)) := (Below.refl _ w).alloc (Nat.le_refl _) _
  have HB0 := Lib.hid hb0
  clear hb0
  by_cases h13 : k = 3
  · subst h13
    by_cases h0 : a = 0
    · subst h0
      go_enter Tryd.func12, Tryd.ntmps12
      go_wp2_with fail
      ((with_reducible refine (HC.out _).mono ?_); rintro e w1 ⟨rfl, hb1⟩)
      go_wp2_with fail
      go_ret
      exact ⟨by rw [HV.out]; simp, Below.next HB0.out hb1 (by simp)⟩
    · have q1 : (a == 0) = false := by rw [beq_eq_false_iff_ne]; exact h0
      have q3 : decide (a = 0) = false := decide_eq_false h0
      have HQ := Lib.hid h0
      clear h0
      go_enter Tryd.func12, Tryd.ntmps12
      go_wp2_with fail
      ((with_reducible refine (HC.out _).mono ?_); rintro e w1 ⟨rfl, hb1⟩)
      have hc1 : w1.cell? ⟨w.heap.size, 1, none⟩ = some (.string s) := (hb1.cell (p := ⟨w.heap.size, 1, none⟩) (by simp)).trans ((Blk.new w 23 #[.int .i64 3, .string s]).cell 1)
      go_wp2_with fail
      go_ret
      exact ⟨by rw [HV.out]; simp [HQ.out], Below.next HB0.out hb1 (by simp)⟩
  · have p1 : (k == 3) = false := by rw [beq_eq_false_iff_ne]; exact h13
    have p2 : (k != 3) = true := by unfold bne; rw [p1]; rfl
    have HP := Lib.hid h13
    clear h13
    by_cases h3 : k = 13
    · subst h3
      by_cases h0 : a = 0
      · subst h0
        go_enter Tryd.func12, Tryd.ntmps12
        go_wp2_with fail
        ((with_reducible refine (HC.out _).mono ?_); rintro e w1 ⟨rfl, hb1⟩)
        go_wp2_with fail
        go_ret
        exact ⟨by rw [HV.out]; simp, Below.next HB0.out hb1 (by simp)⟩
      · have q1 : (a == 0) = false := by rw [beq_eq_false_iff_ne]; exact h0
        have q3 : decide (a = 0) = false := decide_eq_false h0
        have HQ := Lib.hid h0
        clear h0
        go_enter Tryd.func12, Tryd.ntmps12
        go_wp2_with fail
        ((with_reducible refine (HC.out _).mono ?_); rintro e w1 ⟨rfl, hb1⟩)
        have hc1 : w1.cell? ⟨w.heap.size, 1, none⟩ = some (.string s) := (hb1.cell (p := ⟨w.heap.size, 1, none⟩) (by simp)).trans ((Blk.new w 23 #[.int .i64 13, .string s]).cell 1)
        go_wp2_with fail
        go_ret
        exact ⟨by rw [HV.out]; simp [HQ.out], Below.next HB0.out hb1 (by simp)⟩
    · have r1 : (k == 13) = false := by rw [beq_eq_false_iff_ne]; exact h3
      have r2 : (k != 13) = true := by unfold bne; rw [r1]; rfl
      have HR := Lib.hid h3
      clear h3
      go_enter Tryd.func12, Tryd.ntmps12
      go_wp2_with fail
      go_ret
      exact ⟨by rw [HV.out]; simp [HP.out, HR.out], HB0.out⟩

theorem strt_24 : ∀ m, m < 10 → strt m ≤ 24 := by decide
theorem names_take_len : ∀ m, m < 10 → (names (opsP.take (strt m))).length = strt m := by decide +kernel
set_option maxRecDepth 100000 in
set_option maxHeartbeats 4000000 in
theorem ropers_calls (w : World) :
    Calls Tryd.prog 9 #[] w fun e W' => ∃ v, e = .returned v ∧ StrsAt W'.heap.size W' v (names opsP) ∧ Below w.heap.size w W' := by
  have HR := Lib.hid (rows_calls w)
  obtain ⟨i0, hi, hz0, hz1, hz2⟩ := info_parts infoStr
  go_enter Tryd.func9, Tryd.ntmps9
  go_wp2_with fail
  ((with_reducible refine HR.out.mono ?_); rintro e w1 ⟨rfl, hR, hb1⟩)
  obtain ⟨N, hN⟩ : ∃ N, w.heap.size = N := ⟨_, rfl⟩
  have HB := Lib.hid hb1
  have HW := Lib.hid hR
  rw [hN] at HW
  rw [hN]
  clear hb1 hR HR
  go_wp2_with fail
  go_loopw [1, 3] (fun o i wr => ∃ m : Nat, m ≤ 9 ∧ i = .int .i64 (m : Int) ∧ wr.ownsRow w1.heap.size 9 1 o (strt m) (strs (names (opsP.take (strt m)))) ∧ Below w1.heap.size w1 wr) (fun _ i _ => 9 - (intOf i).toNat)
  case atStart => exact ⟨0, Nat.zero_le _, rfl, World.ownsRow_nil _ _ _ _, Below.refl _ _⟩
  case round =>
    obtain ⟨m, hm, rfl, ho, hb⟩ := hrel
    by_cases hlt : m < 9
    · have hlt1 : (m : Int) < 9 := by omega
      have hRw := HW.out.own hb
      have c1 := hRw.cell1 hlt
      have hown := hRw.owns hlt
      have hcc := cnt_le m hlt
      have hs := strt_24 m (by omega)
      have hnx := strt_next m hlt
      have hrn := rowT_next m hlt
      have hsb := hb.size
      obtain ⟨c, hc⟩ : ∃ c, cnt m = c := ⟨_, rfl⟩
      rw [hc] at c1 hown hcc hnx
      have HC := Lib.hid hc; have HL := Lib.hid hlt; have HO := Lib.hid ho; have HBB := Lib.hid hb; have HNX := Lib.hid hnx; have HRN := Lib.hid hrn; have HOW := Lib.hid hown
      obtain ⟨a3, l3, c3, rfl⟩ := own_slice ho
      clear hc hlt ho hb hnx hrn hown hRw
      go_wp2_with (at_builtin; refine wpList_append_rows _ rfl _ _ 25 rfl w1.heap.size 9 i0 (.string ⟨#[]⟩) 1 16 Tryd.underlying25 hi hz0 hz1 hz2 rfl (by decide) _ _ _ rfl HO.out N _ c (strs (rowT m)) rfl HOW.out (strs_one _) (by unfold maxLen; omega) (by omega) hsb ?_; intro v' w3 hown' hb3)
      refine ⟨⟨m + 1, by have := HL.out; omega, by go_num, ?_, HBB.out.trans hb3⟩, by have := HL.out; simp [intOf]; omega⟩
      rw [← HRN.out, ← HNX.out]
      simpa [strs] using hown'
    · obtain rfl : m = 9 := by omega
      have HO := Lib.hid ho
      obtain ⟨a3, l3, c3, rfl⟩ := own_slice ho
      have hbw := hb
      clear ho hb
      go_wp2_with fail
      go_ret
      have h1 := own_strs (l := names opsP) (show _ from HO.out)
      exact ⟨_, rfl, h1, Below.next HB.out hbw (by omega)⟩
end Go.Proofs.YtimhhdikdinhjaaDoor.pr
