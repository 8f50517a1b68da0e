/-
  subeditorlaw06.PrecPipe: for every input it returns true, and the arguments read as they did. No condition.
-/
import Derived.Test.YtimhhdikdinhjaaDoorPrLaw
import Derived.Test.YtimhhdikdinhjaaDoorCards
import Derived.Test.YtimhhdikdinhjaaDoorTie
import Derived.SevenTiedAt
namespace Go.Proofs.YtimhhdikdinhjaaDoor.precPipe
open Go.RowKit Go.ChangeShapes Go.WideShapes Go.ChangeAt Go.ChangeMaps
open pr sx
set_option linter.unusedVariables false

set_option maxRecDepth 100000 in
set_option maxHeartbeats 4000000 in
theorem walk (k : Int) (hk : 0 ≤ k ∧ k ≤ 255) (w : World) (hL : LvAt w) :
    Calls Tryd.prog 7 #[.int .u8 k] w fun e W' => e = .returned (.bool true) ∧ Below w.heap.size w W' := by
  have hj : (k % 24).toNat < 24 := by omega
  obtain ⟨hts, ht1, ht9⟩ := txt_facts _ hj
  have k0 := fun W (hB : Below w.heap.size w W) => level_calls (txt (k % 24).toNat) (by unfold maxLen; omega) W (hL.own hB)
  have k1 := fun W (hB : Below w.heap.size w W) => level_calls ⟨#[124]⟩ (by decide) W (hL.own hB)
  have k2 := fun W (hB : Below w.heap.size w W) => level_calls ⟨#[42]⟩ (by decide) W (hL.own hB)
  have k3 := fun W (hB : Below w.heap.size w W) => level_calls ⟨#[44]⟩ (by decide) W (hL.own hB)
  have k4 := fun W (hB : Below w.heap.size w W) => level_calls ⟨#[111, 114]⟩ (by decide) W (hL.own hB)
  have k5 := fun W (hB : Below w.heap.size w W) => level_calls ⟨#[97, 110, 100]⟩ (by decide) W (hL.own hB)
  have k6 := fun W (hB : Below w.heap.size w W) => level_calls ⟨#[47, 47]⟩ (by decide) W (hL.own hB)
  have k7 := fun W (hB : Below w.heap.size w W) => level_calls ⟨#[61]⟩ (by decide) W (hL.own hB)
  rw [show levelOf ⟨#[124]⟩ = 1 by decide +kernel] at k1
  rw [show levelOf ⟨#[42]⟩ = 9 by decide +kernel] at k2
  rw [show levelOf ⟨#[44]⟩ = 2 by decide +kernel] at k3
  rw [show levelOf ⟨#[111, 114]⟩ = 5 by decide +kernel] at k4
  rw [show levelOf ⟨#[97, 110, 100]⟩ = 6 by decide +kernel] at k5
  rw [show levelOf ⟨#[47, 47]⟩ = 3 by decide +kernel] at k6
  rw [show levelOf ⟨#[61]⟩ = 4 by decide +kernel] at k7
  have KN := Lib.hid (fun W (hB : Below w.heap.size w W) => known_calls W (hL.own hB))
  have HO := Lib.hid (opers2_calls w hL)
  obtain ⟨t, htt⟩ : ∃ t, txt (k % 24).toNat = t := ⟨_, rfl⟩
  rw [htt] at k0 ht1 ht9
  obtain ⟨a, ha⟩ : ∃ a, levelOf t = a := ⟨_, rfl⟩
  rw [ha] at k0 ht1 ht9
  have K0 := Lib.hid k0; have K1 := Lib.hid k1; have K2 := Lib.hid k2; have K3 := Lib.hid k3; have K4 := Lib.hid k4; have K5 := Lib.hid k5; have K6 := Lib.hid k6; have K7 := Lib.hid k7
  have HT := Lib.hid htt; have HJ := Lib.hid hj
  clear hL k0 k1 k2 k3 k4 k5 k6 k7 htt ha hj hts
  have q1 : decide ((1 : Int) ≤ a) = true := decide_eq_true ht1
  have q2 : decide (a ≤ 9) = true := decide_eq_true ht9
  obtain ⟨hk0, hk1⟩ := hk
  have hm0 : 0 ≤ k % 24 := by omega
  have hm1 : k % 24 < 24 := by omega
  go_enter Tryd.func7, Tryd.ntmps7
  go_wp2_with fail
  ((with_reducible refine HO.out.mono ?_); rintro e w1 ⟨g, off, cap, rfl, hg, hc, hb1⟩)
  have hcx := hc _ HJ.out
  rw [HT.out] at hcx
  clear hc
  go_wp2_with fail
  ((with_reducible refine (KN.out _ hb1).mono ?_); rintro e w2 ⟨rfl, hb2⟩)
  have B2 := Below.next hb1 hb2 (Nat.le_refl _)
  go_wp2_with fail
  ((with_reducible refine (K1.out _ B2).mono ?_); rintro e w3 ⟨rfl, hb3⟩)
  have B3 := Below.next B2 hb3 (Nat.le_refl _)
  go_wp2_with fail
  ((with_reducible refine (K0.out _ B3).mono ?_); rintro e w4 ⟨rfl, hb4⟩)
  have B4 := Below.next B3 hb4 (Nat.le_refl _)
  go_wp2_with fail
  ((with_reducible refine (K2.out _ B4).mono ?_); rintro e w5 ⟨rfl, hb5⟩)
  have B5 := Below.next B4 hb5 (Nat.le_refl _)
  go_wp2_with fail
  ((with_reducible refine (K0.out _ B5).mono ?_); rintro e w6 ⟨rfl, hb6⟩)
  have B6 := Below.next B5 hb6 (Nat.le_refl _)
  go_wp2_with fail
  ((with_reducible refine (K1.out _ B6).mono ?_); rintro e w7 ⟨rfl, hb7⟩)
  have B7 := Below.next B6 hb7 (Nat.le_refl _)
  go_wp2_with fail
  ((with_reducible refine (K3.out _ B7).mono ?_); rintro e w8 ⟨rfl, hb8⟩)
  have B8 := Below.next B7 hb8 (Nat.le_refl _)
  go_wp2_with fail
  ((with_reducible refine (K4.out _ B8).mono ?_); rintro e w9 ⟨rfl, hb9⟩)
  have B9 := Below.next B8 hb9 (Nat.le_refl _)
  go_wp2_with fail
  ((with_reducible refine (K5.out _ B9).mono ?_); rintro e w10 ⟨rfl, hb10⟩)
  have B10 := Below.next B9 hb10 (Nat.le_refl _)
  go_wp2_with fail
  ((with_reducible refine (K6.out _ B10).mono ?_); rintro e w11 ⟨rfl, hb11⟩)
  have B11 := Below.next B10 hb11 (Nat.le_refl _)
  go_wp2_with fail
  ((with_reducible refine (K7.out _ B11).mono ?_); rintro e w12 ⟨rfl, hb12⟩)
  have B12 := Below.next B11 hb12 (Nat.le_refl _)
  go_wp2_with fail
  go_ret
  exact ⟨rfl, B12⟩

set_option maxRecDepth 100000 in
theorem lifted (os : Os) (started : os.Started) (H : Type) (enc : TypeId × Value → H) :
    ReturnsInHanded {} Tryd.checked os 7 .any (fun w args => (Rows.precPipeSpec.pre enc Tryd.prog Tryd.f7 Rows.precPipeRow.domain false w args ∧ laidMetH Tryd.prog pr.laid w) ∧ sizedMet enc Tryd.prog Tryd.f7 (OpenSpec.ofChange Rows.precPipeSpec) false w args) (Rows.precPipeSpec.post enc Tryd.prog Tryd.f7 false true false false) := by
  refine returnsInHanded_of_change_and (C := Tryd.checked) (X := fun w _ => laidMetH Tryd.prog pr.laid w) (fun _ _ _ hh h => h.of_heap hh) law.own started (by kernel_rfl) Tryd.func7
    (ChangeSpec.witness_shaped (enc := enc) (C := Tryd.checked) (os := os) (X := fun w _ => laidMetH Tryd.prog pr.laid w) false (World.laidAll Tryd.prog os pr.laid) #[.int .u8 0] 8 (World.laidAll_os _ _ _) (World.shaped_of_ZipB (by kernel_rfl) (by kernel_rfl)) (by kernel_rfl) (by kernel_rfl) (by kernel_rfl) (pr.laid_met os _)) ?_
  intro W base args ds gs before hval0 hW _ hsize0 hL _
  have hsize : (DataW.weightsEach Tryd.prog (Tryd.f7.params.toList ++ _) (ds ++ gs)).all (· ≤ reachBytes) = true := hsize0
  have hLv := pr.lv_of_laid hL
  have hval : ∀ (j : Nat) t v, Tryd.f7.params[j]? = some t → args[j]? = some v → Value.okWide Tryd.prog W .any base t v := hval0
  have hW' := hW
  obtain ⟨p, q, hA0, hV, rfl, _, _⟩ := hW
  have hA : DataW.TrodAll enc Tryd.prog W 0 (fun _ => true) true Tryd.f7.params.toList args.toList ds p := hA0
  rw [Tryd.params7] at hA hval
  obtain ⟨v0, d0, rfl, rfl, h0⟩ := trodAll_one hA
  obtain ⟨rfl, rfl⟩ := trodVars_none hV
  obtain ⟨x, rfl, rfl, rfl, wx⟩ := open_int Tryd.underlying5 (hval 0 5 v0 rfl rfl) h0
  clear hL
  refine (walk x (law.u8_wf wx) W hLv).mono fun e W' ⟨he, hb⟩ => ⟨_, he, ?_⟩
  exact law.law_post rfl hW' rfl (by kernel_rfl) (by kernel_rfl) hb

/-- PrecPipe, for every input. -/
theorem holds : Rows.PrecPipeSaid :=
  OpenClaim.holds_of_wide 7 Tryd.f7 rfl rfl rfl rfl rfl rfl rfl ⟨rfl, rfl, rfl, rfl, rfl⟩ rfl rfl rfl rfl rfl (by kernel_rfl) Tryd.func7 (by kernel_rfl)
    (of_decide_eq_true (by kernel_rfl)) (by unfold Func.isWrapper; first | (rw [if_pos (by decide +kernel)]; kernel_rfl) | (rw [if_neg (by decide +kernel)]; exact ⟨rfl, rfl⟩))
    (fun os started H enc _ => lifted os started H enc)

/-- The tied card of PrecPipe. -/
theorem card : Rows.PrecPipeCardSaid :=
  Claim7.holds_tied_plain_at .later [] [.widerDeep] true Rows.precPipeCard.stood.harness false
    holds (fun _ h => by cases h) (by kernel_rfl) (fun _ h => by cases h) precPipe_row_tie rfl ⟨rfl, rfl⟩ (by kernel_rfl) rfl
    (fun f fn hf hfn => by
      obtain rfl : f = 7 := Option.some.inj ((show Tryd.prog.funcNamed "subeditor/subeditorlaw06.PrecPipe" = some 7 by kernel_rfl).symm.trans hf) |>.symm
      obtain rfl : fn = Tryd.f7 := (Option.some.inj (Tryd.func7.symm.trans hfn)).symm
      exact ⟨by kernel_rfl, fun j t ht => by
        rw [Tryd.params7] at ht
        have hm := List.mem_toArray.1 (Array.mem_of_getElem? ht)
        have hall : (Tryd.f7.params.toList.all fun u => !Tryd.prog.wantsStandIn u) = true := by kernel_rfl
        rw [show Tryd.f7.params.toList = _ from congrArg Array.toList Tryd.params7] at hall
        exact (show Tryd.prog.wantsStandIn t = false by simpa using List.all_eq_true.1 hall t hm)⟩)
    (by kernel_rfl)
end Go.Proofs.YtimhhdikdinhjaaDoor.precPipe
