/-
  node: the document's At.
-/
import Derived.Test.YtbdkemgfdghbkaaDoorNdAt
import Derived.RegionTactic
namespace Go.Proofs.YtbdkemgfdghbkaaDoor.nd
open Go.RowKit sx ed
set_option linter.unusedVariables false

/-- What the document's At tells. -/
def RAtRes (w : World) (r : Option Nd) (e : Ending) (w' : World) : Prop :=
  match r with
  | none => e = .returned (.tuple #[zeroNd, .bool false]) ∧ Below w.heap.size w w'
  | some y => ∃ u, e = .returned (.tuple #[u, .bool true]) ∧ NdAt (Lt w.heap.size) w' y u ∧ Below w.heap.size w w'

theorem AtCur.drew {w : World} {x y : Nd} {l : List Int} {j : Nat} {wr : World} (h : AtCur w x l j y wr) : AtCur w x l j y wr.drew := by
  obtain ⟨⟨a, c, h1, h2⟩, h3, h4, h5⟩ := h
  exact ⟨⟨a, c, h1, h2.keep (fun _ e => e) (fun _ _ => rfl)⟩, h3, h4.drew, h5⟩
set_option maxRecDepth 100000 in
set_option maxHeartbeats 8000000 in
theorem rat_calls (x : Nd) (hwt : x.weight ≤ 1000000) (l : List Int) (w : World) (v p : Value)
    (hu : NdAt (Lt w.heap.size) w x v) (hpt : IntsAt (Lt w.heap.size) w p l) :
    Calls Tryd.prog 30 #[v, p] w (RAtRes w (x.at l)) := by
  obtain ⟨s, rfl, hs⟩ := hu
  obtain ⟨ao, cap, rfl, hm⟩ := hs.slice
  obtain ⟨po, pc, rfl, hpm, _, _⟩ := id hpt
  unfold maxLen at hm hpm
  obtain ⟨W0, hW0⟩ : ∃ W0, ((w.alloc (.cells #[.int .i64 x.k, .string x.t, .slice ao x.kids.len cap] 24)).alloc (.cells #[.int .i64 0, .string ⟨#[]⟩, .slice none 0 0] 24)) = W0 := ⟨_, rfl⟩
  have hb0 : Below w.heap.size w W0 := by rw [← hW0]; exact ((Below.refl _ w).alloc (Nat.le_refl _) _).alloc (by simp) _
  have hk1 : Blk W0 w.heap.size 24 #[.int .i64 x.k, .string x.t, .slice ao x.kids.len cap] := by rw [← hW0]; exact (Blk.new w _ _).alloc _
  have hk2 : Blk W0 (w.heap.size + 1) 24 #[.int .i64 0, .string ⟨#[]⟩, .slice none 0 0] := by
    rw [← hW0]
    simpa using Blk.new (w.alloc (.cells #[.int .i64 x.k, .string x.t, .slice ao x.kids.len cap] 24)) 24 #[.int .i64 0, .string ⟨#[]⟩, .slice none 0 0]
  have hcur : AtCur w x l 0 x W0 := ⟨⟨ao, cap, hk1, hs.below hb0 (Nat.le_refl _)⟩, hk2, hb0, rfl, hwt⟩
  obtain ⟨n, hn⟩ : ∃ n, l.length = n := ⟨_, rfl⟩
  rw [hn] at hpt hpm ⊢
  have HCUR := Lib.hid hcur; have HW0 := Lib.hid hW0; have HPT := Lib.hid hpt; have HN := Lib.hid hn
  clear hcur hW0 hpt hn hk1 hk2 hb0 hs hwt hm
  go_enter Tryd.func30, Tryd.ntmps30
  go_wp2_with fail
  rw [HW0.out]
  go_loopw [6] (fun i wr => ∃ (j : Nat) (y : Nd), j ≤ n ∧ i = .int .i64 (j : Int) ∧ AtCur w x l j y wr) (fun i _ => n - (intOf i).toNat)
  case atStart => exact ⟨0, x, Nat.zero_le _, rfl, HCUR.out⟩
  case round =>
    obtain ⟨j, y, hj, rfl, ⟨ay, cy, hbx, hky⟩, hrs, hbw, hat, hyw⟩ := hrel
    have b0 := hbx.cell 0; have b1 := hbx.cell 1; have b2 := hbx.cell 2
    have f0 := hrs.frozen 0; have f1 := hrs.frozen 1; have f2 := hrs.frozen 2
    have c0 := hrs.cell 0; have c1 := hrs.cell 1; have c2 := hrs.cell 2
    by_cases hlt : j < n
    · obtain ⟨i, hi⟩ : ∃ i, l[j]? = some i := ⟨_, List.getElem?_eq_getElem (by rw [HN.out]; exact hlt)⟩
      obtain ⟨g, o, rfl, _, hg, hci⟩ := HPT.out.get hi
      have hc := (hbw.cell (p := ⟨g, _, none⟩) hg).trans hci
      have hdr : l.drop j = i :: l.drop (j + 1) := by rw [List.drop_eq_getElem_cons (by rw [HN.out]; exact hlt)]; rw [List.getElem?_eq_getElem (by rw [HN.out]; exact hlt)] at hi; cases hi; rfl
      rw [hdr] at hat
      have hlt1 : (j : Int) < (n : Int) := by omega
      have HBX := Lib.hid hbx; have HRS := Lib.hid hrs; have HBW := Lib.hid hbw; have HKY := Lib.hid hky; have HYW := Lib.hid hyw
      have hwl := hrs.lt
      have i0 := fun y : In wr => In.cell hc y
      have i1 := fun y : In wr => In.cell b2 y
      have HG := Lib.hid hg
      by_cases hin : 0 ≤ i ∧ i < (y.kids.len : Int)
      · obtain ⟨z, hz⟩ := Fo.get_of_lt (f := y.kids) (i := i.toNat) (by omega)
        rw [at_some hin.1 hz] at hat
        have hzw := Fo.weight_get hz
        have HAT := Lib.hid hat; have HZ := Lib.hid hz; have HZW := Lib.hid hzw
        obtain ⟨hi0, hi1⟩ := hin
        have hn1 : decide (i < 0) = false := decide_eq_false (by omega)
        have hn2 : decide ((y.kids.len : Int) ≤ i) = false := decide_eq_false (by omega)
        obtain ⟨gz, oz, az, cz, rfl, hgs, hgz, d0, d1, d2, d3⟩ := hky.get hz
        have HD3 := Lib.hid d3; have HD0 := Lib.hid d0; have HD1 := Lib.hid d1; have HD2 := Lib.hid d2; have HC := Lib.hid hc
        clear hbx hrs hbw hky hyw hat hz hzw hdr hi hci d0 d1 d2 d3 c0 c1 c2 f0 f1 f2 b0 b1 b2 hc
        go_wp2_with fail
        refine ed.wp_region_in (by kernel_rfl) (by kernel_rfl) ?_
        repeat (go_big_quiet_step (fail))
        with_reducible refine wpQuiet_nil ?_
        rintro _ ⟨yy, rfl⟩
        go_wp2_with fail
        obtain ⟨wb, hb1⟩ := yy
        dsimp only
        have hcz := (HBX.out.own hb1)
        have hrz := (HRS.out.own hb1)
        have hc := (hb1.cell (p := ⟨g, _, none⟩) (Nat.lt_of_lt_of_le HG.out HBW.out.size)).trans HC.out
        have d0 := (hb1.cell (p := ⟨gz, _, none⟩) hgz).trans HD0.out
        have d1 := (hb1.cell (p := ⟨gz, _, none⟩) hgz).trans HD1.out
        have d2 := (hb1.cell (p := ⟨gz, _, none⟩) hgz).trans HD2.out
        have b0 := hcz.cell 0; have b1 := hcz.cell 1; have b2 := hcz.cell 2
        have q0 := hcz.frozen 0; have q1 := hcz.frozen 1; have q2 := hcz.frozen 2
        have d3 := (HD3.out.below hb1 (Nat.le_of_lt (by omega))).below (set3_below (.int .i64 z.k) (.string z.t) (.slice az z.kids.len cz) (Nat.le_refl w.heap.size)) (Nat.le_refl _)
        have hnew : AtCur w x l (j + 1) z (((wb.setCell ⟨w.heap.size, 0, none⟩ (.int .i64 z.k)).setCell ⟨w.heap.size, 1, none⟩ (.string z.t)).setCell ⟨w.heap.size, 2, none⟩ (.slice az z.kids.len cz)).drew := by
          refine AtCur.drew ⟨⟨az, cz, set3_blk hcz _ _ _, d3⟩, set3_other hrz (by omega) _ _ _, (HBW.out.trans (hb1.mono HBW.out.size)).trans (set3_below _ _ _ (Nat.le_refl _)), HAT.out, ?_⟩
          have h1 := HZW.out
          have h2 := HYW.out
          simp only [Nd.weight] at h1 h2 ⊢
          omega
        have HNEW := Lib.hid hnew
        clear hb1 hcz hrz hnew d3
        go_region
        go_wp2_with fail
        exact ⟨⟨j + 1, z, by omega, by go_num, HNEW.out⟩, by simp [intOf]; omega⟩
      · rw [at_none hin] at hat
        have HAT := Lib.hid hat; have HIN := Lib.hid hin
        have g := set3_blk hrs (.int .i64 0) (.string ⟨#[]⟩) (.slice none 0 0)
        clear hbx hrs hbw hky hyw hat hdr hi hci hin c0 c1 c2 f0 f1 f2 b0 b1 b2 g
        by_cases hi0 : i < 0
        all_goals
          first
            | have hn2 : decide ((y.kids.len : Int) ≤ i) = true := decide_eq_true (by have := HIN.out; omega)
              have hn3 : (y.kids.len : Int) ≤ i := by have := HIN.out; omega
            | skip
          try have hn1 : decide (i < 0) = false := decide_eq_false hi0
          go_wp2_with fail
          refine ed.wp_region_in (by kernel_rfl) (by kernel_rfl) ?_
          repeat (go_big_quiet_step (fail))
          with_reducible refine wpQuiet_nil ?_
          rintro _ ⟨yy, rfl⟩
          obtain ⟨wb, hb1⟩ := yy
          dsimp only
          have hrz := (HRS.out.own hb1)
          have HB1 := Lib.hid (HBW.out.trans (hb1.mono HBW.out.size))
          have f0 := hrz.frozen 0; have f1 := hrz.frozen 1; have f2 := hrz.frozen 2
          have c0 := hrz.cell 0; have c1 := hrz.cell 1; have c2 := hrz.cell 2
          have g := set3_blk hrz (.int .i64 0) (.string ⟨#[]⟩) (.slice none 0 0)
          have g0 := g.cell 0; have g1 := g.cell 1; have g2 := g.cell 2
          clear hb1 hrz g
          go_wp2_with fail
          refine bodyPost_ret (v := .tuple #[zeroNd, .bool false]) (by simp [results, Tryd.results30, go_sem, g0, g1, g2]) rfl ?_
          rw [HAT.out]
          exact ⟨rfl, HB1.out.trans (set3_below _ _ _ (Nat.le_succ _))⟩
    · obtain rfl : j = n := by omega
      have hge : decide ((j : Int) < (j : Int)) = false := by simp
      rw [List.drop_of_length_le (by rw [HN.out]; exact Nat.le_refl _)] at hat
      have HAT := Lib.hid hat; have HRS := Lib.hid hrs; have HBW := Lib.hid hbw; have HKY := Lib.hid hky
      have g := set3_blk hrs (.int .i64 y.k) (.string y.t) (.slice ay y.kids.len cy)
      have g0 := g.cell 0; have g1 := g.cell 1; have g2 := g.cell 2
      clear hbx hrs hbw hky hyw hat g
      go_wp2_with fail
      refine bodyPost_ret (v := .tuple #[.agg #[.int .i64 y.k, .string y.t, .slice ay y.kids.len cy], .bool true]) (by simp [results, Tryd.results30, go_sem, g0, g1, g2]) rfl ?_
      rw [HAT.out]
      exact ⟨_, rfl, ⟨_, rfl, HKY.out.below (set3_below _ _ _ (Nat.le_succ w.heap.size)) (Nat.le_refl _)⟩, HBW.out.trans (set3_below _ _ _ (Nat.le_succ _))⟩
end Go.Proofs.YtbdkemgfdghbkaaDoor.nd
