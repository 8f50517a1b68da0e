/-
  subeditorlaw06.PrecRise: for every input it returns true, and the arguments read as they did. No condition.
-/
import Derived.Test.YtimhhdikdinhjaaDoorPrLaw
import Derived.Test.YtimhhdikdinhjaaDoorPrRef
import Derived.Test.YtimhhdikdinhjaaDoorEdIn
import Derived.Test.YtimhhdikdinhjaaDoorCards
import Derived.Test.YtimhhdikdinhjaaDoorTie
import Derived.SevenTiedAt
namespace Go.Proofs.YtimhhdikdinhjaaDoor.precRise
open Go.RowKit Go.ChangeShapes Go.WideShapes Go.ChangeAt Go.ChangeMaps
open pr sx
set_option linter.unusedVariables false

theorem rising : ∀ m, m < 24 → 1 ≤ m → levelOf (txt (m - 1)) ≤ levelOf (txt m) := by decide +kernel
theorem once : ∀ m, m < 24 → ∀ k, k < m → ¬ txt k = txt m := by decide +kernel
theorem kinds : ∀ j, j < 24 → textOf 13 (txt j) = txt j ∧ textOf 7 (txt j) = ⟨#[]⟩ := by decide +kernel
set_option maxRecDepth 100000 in
set_option maxHeartbeats 4000000 in
theorem walk (k : Int) (hk : 0 ≤ k ∧ k ≤ 255) (w : World) (hL : LvAt w) :
    Calls Tryd.prog 5 #[.int .u8 k] w fun e W' => e = .returned (.bool true) ∧ Below w.heap.size w W' := by
  have hj : (k % 24).toNat < 24 := by omega
  have hts := (txt_facts _ hj).1
  obtain ⟨z13, z7⟩ := kinds _ hj
  have k1 := fun W (hB : Below w.heap.size w W) => of_calls 13 (txt (k % 24).toNat) (by omega) W (hL.own hB)
  have k2 := fun W (hB : Below w.heap.size w W) => of_calls 7 (txt (k % 24).toNat) (by omega) W (hL.own hB)
  rw [z13] at k1
  rw [z7] at k2
  have KL := Lib.hid (fun W (hB : Below w.heap.size w W) m (hm : m < 24) => level_calls (txt m) (by have := (txt_facts m hm).1; unfold maxLen; omega) W (hL.own hB))
  have KN := Lib.hid (fun W (hB : Below w.heap.size w W) => known_calls W (hL.own hB))
  have HO := Lib.hid (opers2_calls w hL)
  obtain ⟨t, htt⟩ : ∃ t, txt (k % 24).toNat = t := ⟨_, rfl⟩
  rw [htt] at k1 k2
  have K1 := Lib.hid k1; have K2 := Lib.hid k2
  have HT := Lib.hid htt; have HJ := Lib.hid hj
  clear hL k1 k2 htt hj hts z13 z7
  obtain ⟨hk0, hk1⟩ := hk
  have hm0 : 0 ≤ k % 24 := by omega
  have hm1 : k % 24 < 24 := by omega
  go_enter Tryd.func5, Tryd.ntmps5
  go_wp2_with fail
  ((with_reducible refine HO.out.mono ?_); rintro e w1 ⟨g, off, cap, rfl, hg, hcl, hB1⟩)
  have HCL := Lib.hid hcl; have HB := Lib.hid hB1; have HG := Lib.hid hg
  clear hcl hB1 hg
  go_wp2_with fail
  go_loopw [4] (fun i wr => ∃ m : Nat, 1 ≤ m ∧ m ≤ 24 ∧ i = .int .i64 (m : Int) ∧ Below w1.heap.size w1 wr) (fun i _ => 24 - (intOf i).toNat)
  case atStart => exact ⟨1, Nat.le_refl _, by omega, rfl, Below.refl _ _⟩
  case round =>
    obtain ⟨m, hm1', hm, rfl, hb⟩ := hrel
    by_cases hlt : m < 24
    · have hlt1 : (m : Int) < 24 := by omega
      obtain ⟨q, hq⟩ : ∃ q, m - 1 = q := ⟨_, rfl⟩
      have hq24 : q < 24 := by omega
      have c1 := (hb.cell (p := ⟨g, off + m, none⟩) HG.out).trans (HCL.out m hlt)
      have c2 := (hb.cell (p := ⟨g, off + q, none⟩) HG.out).trans (HCL.out q hq24)
      have hbw : Below w.heap.size w wr := HB.out.trans (hb.mono HB.out.size)
      have t1 := fun y : ed.In wr => KL.out y.u (hbw.trans (y.h.mono hbw.size)) m hlt
      have t2 := fun y : ed.In wr => KL.out y.u (hbw.trans (y.h.mono hbw.size)) q hq24
      have hr := rising m hlt hm1'
      rw [hq] at hr
      obtain ⟨a, ha⟩ : ∃ a, levelOf (txt m) = a := ⟨_, rfl⟩
      obtain ⟨b, hbb⟩ : ∃ b, levelOf (txt q) = b := ⟨_, rfl⟩
      rw [ha] at t1 hr
      rw [hbb] at t2 hr
      obtain ⟨ta, hta⟩ : ∃ ta, txt m = ta := ⟨_, rfl⟩
      obtain ⟨tb, htb⟩ : ∃ tb, txt q = tb := ⟨_, rfl⟩
      rw [hta] at c1 t1
      rw [htb] at c2 t2
      have i1 := fun y : ed.In wr => y.cell c1
      have i2 := fun y : ed.In wr => y.cell c2
      have q0 : decide (a < b) = false := decide_eq_false (by omega)
      have q1 : wrap64 ((m : Int) - 1) = (q : Int) := by rw [IntWalk.wrap64_in] <;> omega
      have q2 : IntKind.i64.wrap ((m : Int) - 1) = (q : Int) := (IntWalk.i64_left _).trans q1
      have hq241 : (q : Int) < 24 := by omega
      have HL := Lib.hid hlt; have HBB := Lib.hid hb; have HTA := Lib.hid hta; have HM1 := Lib.hid hm1'
      clear c1 c2 hbw hr ha hbb htb hlt hb hta hq hq24 hm hm1'
      go_wp2_with fail
      refine ed.wp_region_in (by kernel_rfl) (by kernel_rfl) ?_
      repeat (go_big_quiet_step (first | (go_at_call 15; first | with_reducible refine ed.Calls.in_of (t1 _) | with_reducible refine ed.Calls.in_of (t2 _))))
      with_reducible refine wpQuiet_nil ?_
      rintro _ ⟨y, rfl⟩
      obtain ⟨W2, hW2⟩ : ∃ W2, y.u = W2 := ⟨_, rfl⟩
      have hb2 : Below w1.heap.size w1 W2 := by rw [← hW2]; exact Below.next HBB.out y.h (Nat.le_refl _)
      rw [hW2]
      have HB2 := Lib.hid hb2
      clear i1 i2 t1 t2 hW2 hb2 q1 q2 y
      go_wp2_with fail
      go_loopw [5] (fun i wx => ∃ n : Nat, n ≤ m ∧ i = .int .i64 (n : Int) ∧ Below w1.heap.size w1 wx) (fun i _ => m - (intOf i).toNat)
      case atStart => exact ⟨0, Nat.zero_le _, rfl, HB2.out⟩
      case round =>
        obtain ⟨n, hn, rfl, hb⟩ := hrel
        by_cases hnl : n < m
        · have hnl1 : (n : Int) < (m : Int) := by omega
          have hn24 : (n : Int) < 24 := by have := HL.out; omega
          have c1 := (hb.cell (p := ⟨g, off + m, none⟩) HG.out).trans (HCL.out m HL.out)
          have c2 := (hb.cell (p := ⟨g, off + n, none⟩) HG.out).trans (HCL.out n (by have := HL.out; omega))
          have hne := eq_list (txt n) (txt m)
          rw [decide_eq_false (once m HL.out n hnl)] at hne
          rw [HTA.out] at c1 hne
          obtain ⟨tb, htb⟩ : ∃ tb, txt n = tb := ⟨_, rfl⟩
          rw [htb] at c2 hne
          have i1 := fun y : ed.In wr => y.cell c1
          have i2 := fun y : ed.In wr => y.cell c2
          have HNL := Lib.hid hnl; have HBN := Lib.hid hb
          clear c1 c2 htb hnl hb hn
          go_wp2_with fail
          refine ed.wp_region_in (by kernel_rfl) (by kernel_rfl) ?_
          repeat (go_big_quiet_step (fail))
          with_reducible refine wpQuiet_nil ?_
          rintro _ ⟨y, rfl⟩
          obtain ⟨W3, hW3⟩ : ∃ W3, y.u = W3 := ⟨_, rfl⟩
          have hb3 : Below w1.heap.size w1 W3 := by rw [← hW3]; exact Below.next HBN.out y.h (Nat.le_refl _)
          rw [hW3]
          have HB3 := Lib.hid hb3
          clear i1 i2 hW3 hb3 y
          go_wp2_with fail
          go_roundw
          case rel => exact ⟨n + 1, HNL.out, by go_num, HB3.out⟩
          case measure => have := HNL.out; simp [intOf]; omega
        · obtain rfl : n = m := by omega
          have hge : decide ((n : Int) < (n : Int)) = false := by simp
          have HBN := Lib.hid hb
          clear hb
          go_wp2_with fail
          refine ⟨⟨n + 1, by omega, HL.out, by go_num, HBN.out⟩, by have := HL.out; simp [intOf]; omega⟩
    · obtain rfl : m = 24 := by omega
      have hge : decide (((24 : Nat) : Int) < 24) = false := by decide
      have hcx := (hb.cell (p := ⟨g, off + (k % 24).toNat, none⟩) HG.out).trans (HCL.out _ HJ.out)
      rw [HT.out] at hcx
      have hbw : Below w.heap.size w wr := HB.out.trans (hb.mono HB.out.size)
      have HBW := Lib.hid hbw
      clear hb hbw
      go_wp2_with fail
      ((with_reducible refine (KN.out _ HBW.out).mono ?_); rintro e w2 ⟨rfl, hb2⟩)
      have B2 := Below.next HBW.out hb2 (Nat.le_refl _)
      go_wp2_with fail
      ((with_reducible refine (K1.out _ B2).mono ?_); rintro e w3 ⟨rfl, hb3⟩)
      have B3 := Below.next B2 hb3 (Nat.le_refl _)
      have hself : (t.toList == t.toList) = true := by simp
      go_wp2_with fail
      ((with_reducible refine (K2.out _ B3).mono ?_); rintro e w4 ⟨rfl, hb4⟩)
      have B4 := Below.next B3 hb4 (Nat.le_refl _)
      go_wp2_with fail
      go_ret
      exact ⟨rfl, B4⟩

set_option maxRecDepth 100000 in
theorem lifted (os : Os) (started : os.Started) (H : Type) (enc : TypeId × Value → H) :
    ReturnsInHanded {} Tryd.checked os 5 .any (fun w args => (Rows.precRiseSpec.pre enc Tryd.prog Tryd.f5 Rows.precRiseRow.domain false w args ∧ laidMetH Tryd.prog pr.laid w) ∧ sizedMet enc Tryd.prog Tryd.f5 (OpenSpec.ofChange Rows.precRiseSpec) false w args) (Rows.precRiseSpec.post enc Tryd.prog Tryd.f5 false true false false) := by
  refine returnsInHanded_of_change_and (C := Tryd.checked) (X := fun w _ => laidMetH Tryd.prog pr.laid w) (fun _ _ _ hh h => h.of_heap hh) law.own started (by kernel_rfl) Tryd.func5
    (ChangeSpec.witness_shaped (enc := enc) (C := Tryd.checked) (os := os) (X := fun w _ => laidMetH Tryd.prog pr.laid w) false (World.laidAll Tryd.prog os pr.laid) #[.int .u8 0] 8 (World.laidAll_os _ _ _) (World.shaped_of_ZipB (by kernel_rfl) (by kernel_rfl)) (by kernel_rfl) (by kernel_rfl) (by kernel_rfl) (pr.laid_met os _)) ?_
  intro W base args ds gs before hval0 hW _ hsize0 hL _
  have hsize : (DataW.weightsEach Tryd.prog (Tryd.f5.params.toList ++ _) (ds ++ gs)).all (· ≤ reachBytes) = true := hsize0
  have hLv := pr.lv_of_laid hL
  have hval : ∀ (j : Nat) t v, Tryd.f5.params[j]? = some t → args[j]? = some v → Value.okWide Tryd.prog W .any base t v := hval0
  have hW' := hW
  obtain ⟨p, q, hA0, hV, rfl, _, _⟩ := hW
  have hA : DataW.TrodAll enc Tryd.prog W 0 (fun _ => true) true Tryd.f5.params.toList args.toList ds p := hA0
  rw [Tryd.params5] at hA hval
  obtain ⟨v0, d0, rfl, rfl, h0⟩ := trodAll_one hA
  obtain ⟨rfl, rfl⟩ := trodVars_none hV
  obtain ⟨x, rfl, rfl, rfl, wx⟩ := open_int Tryd.underlying5 (hval 0 5 v0 rfl rfl) h0
  clear hL
  refine (walk x (law.u8_wf wx) W hLv).mono fun e W' ⟨he, hb⟩ => ⟨_, he, ?_⟩
  exact law.law_post rfl hW' rfl (by kernel_rfl) (by kernel_rfl) hb

/-- PrecRise, for every input. -/
theorem holds : Rows.PrecRiseSaid :=
  OpenClaim.holds_of_wide 5 Tryd.f5 rfl rfl rfl rfl rfl rfl rfl ⟨rfl, rfl, rfl, rfl, rfl⟩ rfl rfl rfl rfl rfl (by kernel_rfl) Tryd.func5 (by kernel_rfl)
    (of_decide_eq_true (by kernel_rfl)) (by unfold Func.isWrapper; first | (rw [if_pos (by decide +kernel)]; kernel_rfl) | (rw [if_neg (by decide +kernel)]; exact ⟨rfl, rfl⟩))
    (fun os started H enc _ => lifted os started H enc)

/-- The tied card of PrecRise. -/
theorem card : Rows.PrecRiseCardSaid :=
  Claim7.holds_tied_plain_at .later [] [.widerDeep] true Rows.precRiseCard.stood.harness false
    holds (fun _ h => by cases h) (by kernel_rfl) (fun _ h => by cases h) precRise_row_tie rfl ⟨rfl, rfl⟩ (by kernel_rfl) rfl
    (fun f fn hf hfn => by
      obtain rfl : f = 5 := Option.some.inj ((show Tryd.prog.funcNamed "subeditor/subeditorlaw06.PrecRise" = some 5 by kernel_rfl).symm.trans hf) |>.symm
      obtain rfl : fn = Tryd.f5 := (Option.some.inj (Tryd.func5.symm.trans hfn)).symm
      exact ⟨by kernel_rfl, fun j t ht => by
        rw [Tryd.params5] at ht
        have hm := List.mem_toArray.1 (Array.mem_of_getElem? ht)
        have hall : (Tryd.f5.params.toList.all fun u => !Tryd.prog.wantsStandIn u) = true := by kernel_rfl
        rw [show Tryd.f5.params.toList = _ from congrArg Array.toList Tryd.params5] at hall
        exact (show Tryd.prog.wantsStandIn t = false by simpa using List.all_eq_true.1 hall t hm)⟩)
    (by kernel_rfl)
end Go.Proofs.YtimhhdikdinhjaaDoor.precRise
