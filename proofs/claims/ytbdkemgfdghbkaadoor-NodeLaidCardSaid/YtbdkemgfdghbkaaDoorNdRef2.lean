/-
  node: the document's Count and Deep; the law's left and Weight.
-/
import Derived.Test.YtbdkemgfdghbkaaDoorNdRef1
namespace Go.Proofs.YtbdkemgfdghbkaaDoor.nd
open Go.RowKit sx ed
set_option linter.unusedVariables false

theorem ret_int {a b : Int} (h : a = b) : Ending.returned (.int .i64 a) = .returned (.int .i64 b) := by rw [h]
def RCountOk (x : Nd) : Prop := x.count ≤ 1000000 → ∀ (w : World) (v : Value), NdAt (Lt w.heap.size) w x v →
  Calls Tryd.prog 28 #[v] w fun e w' => e = .returned (.int .i64 (x.count : Int)) ∧ Below w.heap.size w w'

set_option maxRecDepth 100000 in
set_option maxHeartbeats 4000000 in
theorem rcount_ok (x : Nd) : RCountOk x := by
  refine Nd.induct (p := RCountOk) (fun x hp hcnt w v hu => ?_) x
  obtain ⟨s, rfl, hs⟩ := hu
  obtain ⟨ao, cap, rfl, hm⟩ := hs.slice
  obtain ⟨k, t, f⟩ := x
  dsimp only at hs hm hp ⊢
  unfold maxLen at hm
  simp only [Nd.count] at hcnt
  obtain ⟨W0, hW0⟩ : ∃ W0, w.alloc (.cells #[.int .i64 k, .string t, .slice ao f.len cap] 24) = W0 := ⟨_, rfl⟩
  have hb0 : Below w.heap.size w W0 := by rw [← hW0]; exact (Below.refl _ w).alloc (Nat.le_refl _) _
  have hk1 : Blk W0 w.heap.size 24 #[.int .i64 k, .string t, .slice ao f.len cap] := by rw [← hW0]; exact Blk.new w _ _
  obtain ⟨m, hmm⟩ : ∃ m, f.len = m := ⟨_, rfl⟩
  rw [hmm] at hm hs hW0 hk1 ⊢
  have HF := Lib.hid (hs.below hb0 (Nat.le_refl _)); have HL := Lib.hid hmm; have HP := Lib.hid hp; have HB0 := Lib.hid hb0
  have HK1 := Lib.hid hk1; have HW0 := Lib.hid hW0; have HCN := Lib.hid hcnt
  clear hs hmm hp hb0 hk1 hW0 hcnt
  go_enter Tryd.func28, Tryd.ntmps28
  go_wp2_with fail
  rw [HW0.out]
  go_loopw [3, 4] (fun a i wr => ∃ j c : Nat, j ≤ m ∧ i = .int .i64 (j : Int) ∧ a = .int .i64 (c : Int) ∧ c = 1 + (f.take j).count ∧ Below W0.heap.size W0 wr) (fun _ i _ => m - (intOf i).toNat)
  case atStart => exact ⟨0, 1, Nat.zero_le _, rfl, rfl, by cases f <;> rfl, Below.refl _ _⟩
  case round =>
    obtain ⟨j, c, hj, rfl, rfl, hc, hbw⟩ := hrel
    have a2 := (HK1.out.own hbw).cell 2
    by_cases hlt : j < m
    · obtain ⟨x, hx⟩ := Fo.get_of_lt (f := f) (i := j) (by rw [HL.out]; exact hlt)
      have hFw := HF.out.toLt.below hbw (Nat.le_refl _)
      obtain ⟨g1, o1, ao1, cap1, rfl, _, hg1, d0, d1, d2, d3⟩ := hFw.get hx
      have hlt1 : (j : Int) < (m : Int) := by omega
      have hcx := Fo.count_get hx
      have hc1 := HCN.out
      have hcc := Fo.count_snoc hx
      obtain ⟨d, hd⟩ : ∃ d, x.count = d := ⟨_, rfl⟩
      have hcall : Calls Tryd.prog 28 #[.agg #[.int .i64 x.k, .string x.t, .slice ao1 x.kids.len cap1]] wr fun e w' => e = .returned (.int .i64 (x.count : Int)) ∧ Below wr.heap.size wr w' :=
        HP.out.get hx (by omega) wr _ (NdAt.mk d3.toLt)
      rw [hd] at hcall hcx hcc
      have hc2 : c ≤ 1000000 := by omega
      have hd2 : d ≤ 1000000 := by omega
      have hrel2 : c + d = 1 + (f.take (j + 1)).count := by omega
      have HC := Lib.hid hcall; have HR := Lib.hid hrel2
      have HW := Lib.hid hbw
      clear hcall hx d3 hbw hFw hcx hc hcc hd hrel2 hc1
      go_wp2_with fail
      ((with_reducible refine HC.out.mono ?_); rintro e w1 ⟨rfl, hb1⟩)
      have hb2 := HW.out.trans (hb1.mono HW.out.size)
      have HB2 := Lib.hid hb2
      clear hb1 hb2
      go_wp2_with fail
      exact ⟨⟨j + 1, c + d, by omega, rfl, by go_num, HR.out, HB2.out⟩, by simp [intOf]; omega⟩
    · obtain rfl : j = m := by omega
      have hge : decide ((j : Int) < (j : Int)) = false := by simp
      rw [Fo.take_all (by rw [HL.out]; exact Nat.le_refl _)] at hc
      have HC := Lib.hid hc
      clear hc
      go_wp2_with fail
      go_ret
      exact ⟨ret_int (by have := HC.out; simp only [Nd.count]; omega), HB0.out.trans (hbw.mono HB0.out.size)⟩

def RDeepOk (x : Nd) : Prop := x.count ≤ 1000000 → ∀ (w : World) (v : Value), NdAt (Lt w.heap.size) w x v →
  Calls Tryd.prog 27 #[v] w fun e w' => e = .returned (.int .i64 (x.deep : Int)) ∧ Below w.heap.size w w'

theorem max_cast (c d : Nat) : (if (c : Int) ≤ (d : Int) then (d : Int) else (c : Int)) = ((max c d : Nat) : Int) := by split <;> omega

set_option maxRecDepth 100000 in
set_option maxHeartbeats 4000000 in
theorem rdeep_ok (x : Nd) : RDeepOk x := by
  refine Nd.induct (p := RDeepOk) (fun x hp hcnt w v hu => ?_) x
  obtain ⟨s, rfl, hs⟩ := hu
  obtain ⟨ao, cap, rfl, hm⟩ := hs.slice
  obtain ⟨k, t, f⟩ := x
  dsimp only at hs hm hp ⊢
  unfold maxLen at hm
  have hdc := Nd.deep_le ⟨k, t, f⟩
  simp only [Nd.count, Nd.deep] at hcnt hdc
  obtain ⟨W0, hW0⟩ : ∃ W0, w.alloc (.cells #[.int .i64 k, .string t, .slice ao f.len cap] 24) = W0 := ⟨_, rfl⟩
  have hb0 : Below w.heap.size w W0 := by rw [← hW0]; exact (Below.refl _ w).alloc (Nat.le_refl _) _
  have hk1 : Blk W0 w.heap.size 24 #[.int .i64 k, .string t, .slice ao f.len cap] := by rw [← hW0]; exact Blk.new w _ _
  obtain ⟨m, hmm⟩ : ∃ m, f.len = m := ⟨_, rfl⟩
  rw [hmm] at hm hs hW0 hk1 ⊢
  have HF := Lib.hid (hs.below hb0 (Nat.le_refl _)); have HL := Lib.hid hmm; have HP := Lib.hid hp; have HB0 := Lib.hid hb0
  have HK1 := Lib.hid hk1; have HW0 := Lib.hid hW0; have HCN := Lib.hid hcnt; have HDC := Lib.hid hdc
  clear hs hmm hp hb0 hk1 hW0 hcnt hdc
  go_enter Tryd.func27, Tryd.ntmps27
  go_wp2_with fail
  rw [HW0.out]
  go_loopw [3, 4] (fun a i wr => ∃ j c : Nat, j ≤ m ∧ i = .int .i64 (j : Int) ∧ a = .int .i64 (c : Int) ∧ c = (f.take j).deep ∧ Below W0.heap.size W0 wr) (fun _ i _ => m - (intOf i).toNat)
  case atStart => exact ⟨0, 0, Nat.zero_le _, rfl, rfl, by cases f <;> rfl, Below.refl _ _⟩
  case round =>
    obtain ⟨j, c, hj, rfl, rfl, hc, hbw⟩ := hrel
    have a2 := (HK1.out.own hbw).cell 2
    by_cases hlt : j < m
    · obtain ⟨x, hx⟩ := Fo.get_of_lt (f := f) (i := j) (by rw [HL.out]; exact hlt)
      have hFw := HF.out.toLt.below hbw (Nat.le_refl _)
      obtain ⟨g1, o1, ao1, cap1, rfl, _, hg1, d0, d1, d2, d3⟩ := hFw.get hx
      have hlt1 : (j : Int) < (m : Int) := by omega
      have hcx := Fo.count_get hx
      have hc1 := HCN.out
      have hcc := Fo.deep_snoc hx
      obtain ⟨d, hd⟩ : ∃ d, x.deep = d := ⟨_, rfl⟩
      have hcall : Calls Tryd.prog 27 #[.agg #[.int .i64 x.k, .string x.t, .slice ao1 x.kids.len cap1]] wr fun e w' => e = .returned (.int .i64 (x.deep : Int)) ∧ Below wr.heap.size wr w' :=
        HP.out.get hx (by omega) wr _ (NdAt.mk d3.toLt)
      rw [hd] at hcall hcc
      rw [← hc] at hcc
      have HC := Lib.hid hcall; have HR := Lib.hid hcc
      have HW := Lib.hid hbw
      clear hcall hx d3 hbw hFw hcx hc hcc hd hc1
      rcases Nat.le_total c d with hcd | hcd
      all_goals
        have hmx := hcd
        go_wp2_with fail
        ((with_reducible refine HC.out.mono ?_); rintro e w1 ⟨rfl, hb1⟩)
        have hb2 := HW.out.trans (hb1.mono HW.out.size)
        have HB2 := Lib.hid hb2
        clear hb1 hb2
        go_wp2_with fail
        exact ⟨⟨j + 1, max c d, by omega, rfl, by simp <;> omega, HR.out.symm, HB2.out⟩, by simp [intOf]; omega⟩
    · obtain rfl : j = m := by omega
      have hge : decide ((j : Int) < (j : Int)) = false := by simp
      rw [Fo.take_all (by rw [HL.out]; exact Nat.le_refl _)] at hc
      have hc9 : c ≤ 1000000 := by have := HDC.out; have := HCN.out; omega
      have HC := Lib.hid hc
      clear hc
      go_wp2_with fail
      go_ret
      exact ⟨ret_int (by have := HC.out; simp only [Nd.deep]; omega), HB0.out.trans (hbw.mono HB0.out.size)⟩
end Go.Proofs.YtbdkemgfdghbkaaDoor.nd
