/-
  subeditorlaw06.PrecSides: for every input it returns true, and the arguments read as they did. No condition.
-/
import Derived.Test.YtimhhdikdinhjaaDoorPrLaw
import Derived.Test.YtimhhdikdinhjaaDoorCards
import Derived.Test.YtimhhdikdinhjaaDoorTie
import Derived.SevenTiedAt
namespace Go.Proofs.YtimhhdikdinhjaaDoor.precSides
open Go.RowKit Go.ChangeShapes Go.WideShapes Go.ChangeAt Go.ChangeMaps
open pr sx
set_option linter.unusedVariables false

theorem facts : ∀ j, j < 24 → besideOf (txt j) 1 = levelOf (txt j) + (if sideOf (txt j) = 1 then 0 else 1) ∧ besideOf (txt j) 2 = levelOf (txt j) + (if sideOf (txt j) = 2 then 0 else 1) := by decide +kernel
theorem alike : ∀ i, i < 24 → ∀ j, j < 24 → levelOf (txt j) = levelOf (txt i) → sideOf (txt i) = sideOf (txt j) := by decide +kernel
set_option maxRecDepth 100000 in
set_option maxHeartbeats 4000000 in
theorem walk1 (k i : Int) (hk : 0 ≤ k ∧ k ≤ 255) (hi : 0 ≤ i ∧ i ≤ 255) (w : World) (hL : LvAt w) (t u : ByteArray) (a b c d l r : Int) (q : Bool)
    (htk : txt (k % 24).toNat = t) (hti : txt (i % 24).toNat = u) (hts : t.size ≤ 3) (hus : u.size ≤ 3)
    (ha : levelOf t = a) (hb : levelOf u = b) (hc : sideOf t = c) (hd : sideOf u = d) (hl : besideOf t 1 = l) (hr : besideOf t 2 = r)
    (q1 : decide ((1 : Int) ≤ a) = true) (q2 : decide (a ≤ 9) = true) (x y : Int) (hx : wrap64 (l - a) = x) (hy : wrap64 (r - a) = y)
    (q3 : decide ((0 : Int) ≤ x) = true) (q4 : decide (x ≤ 1) = true) (q5 : decide ((0 : Int) ≤ y) = true) (q6 : decide (y ≤ 1) = true) (z : Int) (hz : wrap64 (x + y) = z) (q7 : decide ((1 : Int) ≤ z) = true)
    (p1 p2 : Bool) (q8 : (x == 0) = p1) (q8' : (c == 1) = p1) (q9 : (y == 0) = p2) (q9' : (c == 2) = p2) (hq : (b == a) = q) (hp : q = true → c = d) :
    Calls Tryd.prog 4 #[.int .u8 k, .int .u8 i] w fun e W' => e = .returned (.bool true) ∧ Below w.heap.size w W' := by
  have k0 := fun W (hB : Below w.heap.size w W) => level_calls t (by unfold maxLen; omega) W (hL.own hB)
  have k1 := fun W (hB : Below w.heap.size w W) => level_calls u (by unfold maxLen; omega) W (hL.own hB)
  have k2 := fun W (hB : Below w.heap.size w W) => side_calls t (by unfold maxLen; omega) W (hL.own hB)
  have k3 := fun W (hB : Below w.heap.size w W) => side_calls u (by unfold maxLen; omega) W (hL.own hB)
  have k4 := fun W (hB : Below w.heap.size w W) => left_calls t (by unfold maxLen; omega) W (hL.own hB)
  have k5 := fun W (hB : Below w.heap.size w W) => right_calls t (by unfold maxLen; omega) W (hL.own hB)
  rw [ha] at k0
  rw [hb] at k1
  rw [hc] at k2
  rw [hd] at k3
  rw [hl] at k4
  rw [hr] at k5
  have KN := Lib.hid (fun W (hB : Below w.heap.size w W) => known_calls W (hL.own hB))
  have HO := Lib.hid (opers2_calls w hL)
  have K0 := Lib.hid k0; have K1 := Lib.hid k1; have K2 := Lib.hid k2; have K3 := Lib.hid k3; have K4 := Lib.hid k4; have K5 := Lib.hid k5
  have HT := Lib.hid htk; have HU := Lib.hid hti; have HP := Lib.hid hp
  clear hL k0 k1 k2 k3 k4 k5 htk hti ha hb hc hd hl hr hts hus hp
  have HJ := Lib.hid (show (k % 24).toNat < 24 by omega)
  have HI := Lib.hid (show (i % 24).toNat < 24 by omega)
  obtain ⟨hk0, hk1⟩ := hk
  obtain ⟨hi0, hi1⟩ := hi
  have hm0 : 0 ≤ k % 24 := by omega
  have hm1 : k % 24 < 24 := by omega
  have hn0 : 0 ≤ i % 24 := by omega
  have hn1 : i % 24 < 24 := by omega
  cases q with
  | false =>
    go_enter Tryd.func4, Tryd.ntmps4
    go_wp2_with fail
    ((with_reducible refine HO.out.mono ?_); rintro e w1 ⟨g, off, cap, rfl, hg, hc, B1⟩)
    have hcx := hc _ HJ.out
    have hcy := hc _ HI.out
    rw [HT.out] at hcx
    rw [HU.out] at hcy
    clear hc
    go_wp2_with fail
    ((with_reducible refine (K0.out _ B1).mono ?_); rintro e w2 ⟨rfl, hb2⟩)
    have B2 := Below.next B1 hb2 (Nat.le_refl _)
    clear hb2
    go_wp2_with fail
    ((with_reducible refine (K4.out _ B2).mono ?_); rintro e w3 ⟨rfl, hb3⟩)
    have B3 := Below.next B2 hb3 (Nat.le_refl _)
    clear hb3
    go_wp2_with fail
    ((with_reducible refine (K5.out _ B3).mono ?_); rintro e w4 ⟨rfl, hb4⟩)
    have B4 := Below.next B3 hb4 (Nat.le_refl _)
    clear hb4
    go_wp2_with fail
    ((with_reducible refine (K1.out _ B4).mono ?_); rintro e w5 ⟨rfl, hb5⟩)
    have B5 := Below.next B4 hb5 (Nat.le_refl _)
    clear hb5
    go_wp2_with fail
    ((with_reducible refine (KN.out _ B5).mono ?_); rintro e w6 ⟨rfl, hb6⟩)
    have B6 := Below.next B5 hb6 (Nat.le_refl _)
    clear hb6
    go_wp2_with fail
    ((with_reducible refine (K2.out _ B6).mono ?_); rintro e w7 ⟨rfl, hb7⟩)
    have B7 := Below.next B6 hb7 (Nat.le_refl _)
    clear hb7
    go_wp2_with fail
    ((with_reducible refine (K2.out _ B7).mono ?_); rintro e w8 ⟨rfl, hb8⟩)
    have B8 := Below.next B7 hb8 (Nat.le_refl _)
    clear hb8
    go_wp2_with fail
    go_ret
    exact ⟨rfl, B8⟩
  | true =>
    obtain rfl := HP.out rfl
    have hcc : (c == c) = true := by simp
    go_enter Tryd.func4, Tryd.ntmps4
    go_wp2_with fail
    ((with_reducible refine HO.out.mono ?_); rintro e w1 ⟨g, off, cap, rfl, hg, hc, B1⟩)
    have hcx := hc _ HJ.out
    have hcy := hc _ HI.out
    rw [HT.out] at hcx
    rw [HU.out] at hcy
    clear hc
    go_wp2_with fail
    ((with_reducible refine (K0.out _ B1).mono ?_); rintro e w2 ⟨rfl, hb2⟩)
    have B2 := Below.next B1 hb2 (Nat.le_refl _)
    clear hb2
    go_wp2_with fail
    ((with_reducible refine (K4.out _ B2).mono ?_); rintro e w3 ⟨rfl, hb3⟩)
    have B3 := Below.next B2 hb3 (Nat.le_refl _)
    clear hb3
    go_wp2_with fail
    ((with_reducible refine (K5.out _ B3).mono ?_); rintro e w4 ⟨rfl, hb4⟩)
    have B4 := Below.next B3 hb4 (Nat.le_refl _)
    clear hb4
    go_wp2_with fail
    ((with_reducible refine (K1.out _ B4).mono ?_); rintro e w5 ⟨rfl, hb5⟩)
    have B5 := Below.next B4 hb5 (Nat.le_refl _)
    clear hb5
    go_wp2_with fail
    ((with_reducible refine (KN.out _ B5).mono ?_); rintro e w6 ⟨rfl, hb6⟩)
    have B6 := Below.next B5 hb6 (Nat.le_refl _)
    clear hb6
    go_wp2_with fail
    ((with_reducible refine (K2.out _ B6).mono ?_); rintro e w7 ⟨rfl, hb7⟩)
    have B7 := Below.next B6 hb7 (Nat.le_refl _)
    clear hb7
    go_wp2_with fail
    ((with_reducible refine (K2.out _ B7).mono ?_); rintro e w8 ⟨rfl, hb8⟩)
    have B8 := Below.next B7 hb8 (Nat.le_refl _)
    clear hb8
    go_wp2_with fail
    ((with_reducible refine (K2.out _ B8).mono ?_); rintro e w9 ⟨rfl, hb9⟩)
    have B9 := Below.next B8 hb9 (Nat.le_refl _)
    clear hb9
    go_wp2_with fail
    ((with_reducible refine (K3.out _ B9).mono ?_); rintro e w10 ⟨rfl, hb10⟩)
    have B10 := Below.next B9 hb10 (Nat.le_refl _)
    clear hb10
    go_wp2_with fail
    go_ret
    exact ⟨rfl, B10⟩
theorem walk (k i : Int) (hk : 0 ≤ k ∧ k ≤ 255) (hi : 0 ≤ i ∧ i ≤ 255) (w : World) (hL : LvAt w) :
    Calls Tryd.prog 4 #[.int .u8 k, .int .u8 i] w fun e W' => e = .returned (.bool true) ∧ Below w.heap.size w W' := by
  have hj : (k % 24).toNat < 24 := by omega
  have hj2 : (i % 24).toNat < 24 := by omega
  obtain ⟨hts, ht1, ht9⟩ := txt_facts _ hj
  obtain ⟨hus, _, _⟩ := txt_facts _ hj2
  obtain ⟨f1, f2⟩ := facts _ hj
  have hal := alike _ hj _ hj2
  have hsb := side_bounds (txt (k % 24).toNat)
  obtain ⟨a, hA⟩ : ∃ a, levelOf (txt (k % 24).toNat) = a := ⟨_, rfl⟩
  obtain ⟨b, hB⟩ : ∃ b, levelOf (txt (i % 24).toNat) = b := ⟨_, rfl⟩
  obtain ⟨c, hS⟩ : ∃ c, sideOf (txt (k % 24).toNat) = c := ⟨_, rfl⟩
  obtain ⟨l, hl⟩ : ∃ l, besideOf (txt (k % 24).toNat) 1 = l := ⟨_, rfl⟩
  obtain ⟨r, hr⟩ : ∃ r, besideOf (txt (k % 24).toNat) 2 = r := ⟨_, rfl⟩
  rw [hA] at ht1 ht9
  rw [hA, hS, hl] at f1
  rw [hA, hS, hr] at f2
  rw [hS] at hsb
  rw [hA, hB, hS] at hal
  have e1 : wrap64 (l - a) = l - a := by rw [IntWalk.wrap64_in]; split at f1 <;> omega
  have e2 : wrap64 (r - a) = r - a := by rw [IntWalk.wrap64_in]; split at f2 <;> omega
  have e3 : wrap64 ((l - a) + (r - a)) = (l - a) + (r - a) := by rw [IntWalk.wrap64_in]; split at f1 <;> split at f2 <;> omega
  refine walk1 k i hk hi w hL _ _ a b c _ l r (b == a) rfl rfl hts hus hA hB hS rfl hl hr (decide_eq_true ht1) (decide_eq_true ht9) (l - a) (r - a) e1 e2
    (decide_eq_true (by split at f1 <;> omega)) (decide_eq_true (by split at f1 <;> omega)) (decide_eq_true (by split at f2 <;> omega)) (decide_eq_true (by split at f2 <;> omega)) _ e3
    (decide_eq_true (by split at f1 <;> split at f2 <;> omega)) (c == 1) (c == 2) ?_ rfl ?_ rfl rfl (fun h => hal (by simpa using h))
  · by_cases h : c = 1
    · rw [if_pos h] at f1
      rw [beq_iff_eq.2 h, beq_iff_eq.2 (show l - a = 0 by omega)]
    · rw [if_neg h] at f1
      rw [beq_eq_false_iff_ne.2 h, beq_eq_false_iff_ne.2 (show l - a ≠ 0 by omega)]
  · by_cases h : c = 2
    · rw [if_pos h] at f2
      rw [beq_iff_eq.2 h, beq_iff_eq.2 (show r - a = 0 by omega)]
    · rw [if_neg h] at f2
      rw [beq_eq_false_iff_ne.2 h, beq_eq_false_iff_ne.2 (show r - a ≠ 0 by omega)]

set_option maxRecDepth 100000 in
theorem lifted (os : Os) (started : os.Started) (H : Type) (enc : TypeId × Value → H) :
    ReturnsInHanded {} Tryd.checked os 4 .any (fun w args => (Rows.precSidesSpec.pre enc Tryd.prog Tryd.f4 Rows.precSidesRow.domain false w args ∧ laidMetH Tryd.prog pr.laid w) ∧ sizedMet enc Tryd.prog Tryd.f4 (OpenSpec.ofChange Rows.precSidesSpec) false w args) (Rows.precSidesSpec.post enc Tryd.prog Tryd.f4 false true false false) := by
  refine returnsInHanded_of_change_and (C := Tryd.checked) (X := fun w _ => laidMetH Tryd.prog pr.laid w) (fun _ _ _ hh h => h.of_heap hh) law.own started (by kernel_rfl) Tryd.func4
    (ChangeSpec.witness_shaped (enc := enc) (C := Tryd.checked) (os := os) (X := fun w _ => laidMetH Tryd.prog pr.laid w) false (World.laidAll Tryd.prog os pr.laid) #[.int .u8 0, .int .u8 0] 8 (World.laidAll_os _ _ _) (World.shaped_of_ZipB (by kernel_rfl) (by kernel_rfl)) (by kernel_rfl) (by kernel_rfl) (by kernel_rfl) (pr.laid_met os _)) ?_
  intro W base args ds gs before hval0 hW _ hsize0 hL _
  have hsize : (DataW.weightsEach Tryd.prog (Tryd.f4.params.toList ++ _) (ds ++ gs)).all (· ≤ reachBytes) = true := hsize0
  have hLv := pr.lv_of_laid hL
  have hval : ∀ (j : Nat) t v, Tryd.f4.params[j]? = some t → args[j]? = some v → Value.okWide Tryd.prog W .any base t v := hval0
  have hW' := hW
  obtain ⟨p, q, hA0, hV, rfl, _, _⟩ := hW
  have hA : DataW.TrodAll enc Tryd.prog W 0 (fun _ => true) true Tryd.f4.params.toList args.toList ds p := hA0
  rw [Tryd.params4] at hA hval
  obtain ⟨v0, v1, d0, d1, p0, p1, rfl, rfl, rfl, h0, h1⟩ := trodAll_two hA
  obtain ⟨rfl, rfl⟩ := trodVars_none hV
  obtain ⟨x, rfl, rfl, rfl, wx⟩ := open_int Tryd.underlying5 (hval 0 5 v0 rfl rfl) h0
  obtain ⟨y, rfl, rfl, rfl, wy⟩ := open_int Tryd.underlying5 (hval 1 5 v1 rfl rfl) h1
  clear hL
  refine (walk x y (law.u8_wf wx) (law.u8_wf wy) W hLv).mono fun e W' ⟨he, hb⟩ => ⟨_, he, ?_⟩
  exact law.law_post rfl hW' rfl (by kernel_rfl) (by kernel_rfl) hb

/-- PrecSides, for every input. -/
theorem holds : Rows.PrecSidesSaid :=
  OpenClaim.holds_of_wide 4 Tryd.f4 rfl rfl rfl rfl rfl rfl rfl ⟨rfl, rfl, rfl, rfl, rfl⟩ rfl rfl rfl rfl rfl (by kernel_rfl) Tryd.func4 (by kernel_rfl)
    (of_decide_eq_true (by kernel_rfl)) (by unfold Func.isWrapper; first | (rw [if_pos (by decide +kernel)]; kernel_rfl) | (rw [if_neg (by decide +kernel)]; exact ⟨rfl, rfl⟩))
    (fun os started H enc _ => lifted os started H enc)

/-- The tied card of PrecSides. -/
theorem card : Rows.PrecSidesCardSaid :=
  Claim7.holds_tied_plain_at .later [] [.widerDeep] true Rows.precSidesCard.stood.harness false
    holds (fun _ h => by cases h) (by kernel_rfl) (fun _ h => by cases h) precSides_row_tie rfl ⟨rfl, rfl⟩ (by kernel_rfl) rfl
    (fun f fn hf hfn => by
      obtain rfl : f = 4 := Option.some.inj ((show Tryd.prog.funcNamed "subeditor/subeditorlaw06.PrecSides" = some 4 by kernel_rfl).symm.trans hf) |>.symm
      obtain rfl : fn = Tryd.f4 := (Option.some.inj (Tryd.func4.symm.trans hfn)).symm
      exact ⟨by kernel_rfl, fun j t ht => by
        rw [Tryd.params4] at ht
        have hm := List.mem_toArray.1 (Array.mem_of_getElem? ht)
        have hall : (Tryd.f4.params.toList.all fun u => !Tryd.prog.wantsStandIn u) = true := by kernel_rfl
        rw [show Tryd.f4.params.toList = _ from congrArg Array.toList Tryd.params4] at hall
        exact (show Tryd.prog.wantsStandIn t = false by simpa using List.all_eq_true.1 hall t hm)⟩)
    (by kernel_rfl)
end Go.Proofs.YtimhhdikdinhjaaDoor.precSides
