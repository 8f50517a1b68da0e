/-
  subeditorlaw06.PrecNone: for every input it returns true, and the arguments read as they did. No condition.
-/
import Derived.Test.YtimhhdikdinhjaaDoorPrLaw
import Derived.Test.YtimhhdikdinhjaaDoorPrRef
import Derived.Test.YtimhhdikdinhjaaDoorCards
import Derived.Test.YtimhhdikdinhjaaDoorTie
import Derived.SevenTiedAt
namespace Go.Proofs.YtimhhdikdinhjaaDoor.precNone
open Go.RowKit Go.ChangeShapes Go.WideShapes Go.ChangeAt Go.ChangeMaps
open pr sx
set_option linter.unusedVariables false

/-- The text is among the first k. -/
def among (s : ByteArray) (k : Nat) : Bool := ((List.range k).any fun j => decide (txt j = s))
theorem among_snoc (s : ByteArray) (k : Nat) : among s (k + 1) = (among s k || decide (txt k = s)) := by simp [among, List.range_succ]
theorem among_all (s : ByteArray) : among s 24 = isOp s := by
  rw [Bool.eq_iff_iff]
  unfold among isOp
  rw [List.any_eq_true]
  constructor
  · rintro ⟨j, hj, h⟩
    have hj := List.mem_range.1 hj
    have hs := of_decide_eq_true h
    have h1 := txt_all j hj
    obtain ⟨o, ho, e⟩ := Option.map_eq_some_iff.1 h1
    have h2 := grade_of (List.mem_of_getElem? ho)
    rw [e, hs] at h2
    rw [h2]; rfl
  · intro h
    cases hg : gradeOf s with
    | none => rw [hg] at h; cases h
    | some p =>
      obtain ⟨j, hj, e⟩ := List.mem_iff_getElem.1 (grade_mem hg)
      have hl : j < 24 := by rw [← ops_len]; exact hj
      have h1 := txt_all j hl
      rw [List.getElem?_eq_getElem hj, e] at h1
      simp only [Option.map_some, Option.some.injEq] at h1
      exact ⟨j, List.mem_range.2 hl, decide_eq_true h1.symm⟩
theorem beside_none {s : ByteArray} (d : Int) (h : isOp s = false) : levelOf s = 0 ∧ sideOf s = 0 ∧ besideOf s d = 0 := by
  have hg : gradeOf s = none := by unfold isOp at h; cases hg : gradeOf s with | none => rfl | some p => rw [hg] at h; cases h
  have h1 : levelOf s = 0 := by unfold levelOf; rw [hg]; rfl
  have h2 : sideOf s = 0 := by unfold sideOf; rw [hg]; rfl
  refine ⟨h1, h2, ?_⟩
  unfold besideOf
  rw [h, h1]; rfl
set_option maxRecDepth 100000 in
set_option maxHeartbeats 4000000 in
theorem walk1 (s : ByteArray) (hs : s.size ≤ 140737488351232) (k : Int) (hk : 0 ≤ k ∧ k ≤ 255) (w : World) (hL : LvAt w) (a : Int) (u : ByteArray) (is : Bool) (q p3 p13 : Bool)
    (ha : levelOf s = a) (his : isOp s = is) (hai : decide (0 < a) = is) (hu : textOf (k % 15) s = u) (hq : (u.toList == ([] : List UInt8)) = q) (h3 : (k % 15 == 3) = p3) (h13 : (k % 15 == 13) = p13)
    (hc : is = false → q = true) (hc2 : q = false → is = true ∧ (p3 || p13) = true) :
    Calls Tryd.prog 6 #[.string s, .int .u8 k] w fun e W' => e = .returned (.bool true) ∧ Below w.heap.size w W' := by
  have k0 := fun W (hB : Below w.heap.size w W) => level_calls s (by unfold maxLen; omega) W (hL.own hB)
  have k1 := fun W (hB : Below w.heap.size w W) => of_calls (k % 15) s hs W (hL.own hB)
  have k2 := fun W (hB : Below w.heap.size w W) => side_calls s (by unfold maxLen; omega) W (hL.own hB)
  have k4 := fun W (hB : Below w.heap.size w W) => left_calls s (by unfold maxLen; omega) W (hL.own hB)
  have k5 := fun W (hB : Below w.heap.size w W) => right_calls s (by unfold maxLen; omega) W (hL.own hB)
  rw [ha] at k0
  rw [hu] at k1
  have hno := fun h => beside_none (s := s) 1 h
  have hno2 := fun h => beside_none (s := s) 2 h
  have hall := among_all s
  rw [his] at hno hno2 hall
  have HNO := Lib.hid hno; have HNO2 := Lib.hid hno2; have HALL := Lib.hid hall
  have KN := Lib.hid (fun W (hB : Below w.heap.size w W) => known_calls W (hL.own hB))
  have HO := Lib.hid (opers2_calls w hL)
  have K0 := Lib.hid k0; have K1 := Lib.hid k1; have K2 := Lib.hid k2; have K4 := Lib.hid k4; have K5 := Lib.hid k5
  have HC := Lib.hid hc; have HC2 := Lib.hid hc2
  clear hL k0 k1 k2 k4 k5 hu his ha hc hc2 hno hno2 hall
  obtain ⟨hk0, hk1⟩ := hk
  have hm0 : 0 ≤ k % 15 := by omega
  have hm1 : k % 15 < 15 := by omega
  go_enter Tryd.func6, Tryd.ntmps6
  go_wp2_with fail
  ((with_reducible refine HO.out.mono ?_); rintro e w1 ⟨g, off, cap, rfl, hg, hcl, B1⟩)
  have HCL := Lib.hid hcl; have HB := Lib.hid B1
  clear hcl B1
  go_wp2_with fail
  go_loopw [6, 7] (fun b i wr => ∃ m : Nat, m ≤ 24 ∧ i = .int .i64 (m : Int) ∧ b = .bool (among s m) ∧ wr = w1) (fun _ i _ => 24 - (intOf i).toNat)
  case atStart => exact ⟨0, Nat.zero_le _, rfl, rfl, rfl⟩
  case round =>
    obtain ⟨m, hm, rfl, rfl, rfl⟩ := hrel
    by_cases hlt : m < 24
    · have hlt1 : (m : Int) < 24 := by omega
      have c1 := HCL.out m hlt
      have hsn := among_snoc s m
      have hql := eq_list (txt m) s
      obtain ⟨t, ht⟩ : ∃ t, txt m = t := ⟨_, rfl⟩
      rw [ht] at c1 hsn hql
      have HL := Lib.hid hlt
      cases hb : among s m with
      | true =>
        rw [hb] at hsn
        have HS := Lib.hid hsn
        clear ht hlt hsn hb hql
        go_wp2_with fail
        go_roundw
        case rel => exact ⟨m + 1, by have := HL.out; omega, by go_num, by rw [HS.out]; rfl, trivial⟩
        case measure => have := HL.out; simp [intOf]; omega
      | false =>
        rw [hb] at hsn
        by_cases he : t = s
        · rw [decide_eq_true he] at hql hsn
          have HS := Lib.hid hsn
          clear ht hlt hsn hb he
          go_wp2_with fail
          go_roundw
          case rel => exact ⟨m + 1, by have := HL.out; omega, by go_num, by rw [HS.out]; rfl, trivial⟩
          case measure => have := HL.out; simp [intOf]; omega
        · rw [decide_eq_false he] at hql hsn
          have HS := Lib.hid hsn
          clear ht hlt hsn hb he
          go_wp2_with fail
          go_roundw
          case rel => exact ⟨m + 1, by have := HL.out; omega, by go_num, by rw [HS.out]; rfl, trivial⟩
          case measure => have := HL.out; simp [intOf]; omega
    · obtain rfl : m = 24 := by omega
      rw [HALL.out]
      have hge : decide (((24 : Nat) : Int) < 24) = false := by decide
      have B1 := HB.out
      cases is with
      | false =>
        obtain rfl := HC.out rfl
        have k4 := K4.out; have k5 := K5.out; have k2 := K2.out
        rw [(HNO.out rfl).2.2] at k4
        rw [(HNO2.out rfl).2.2] at k5
        rw [(HNO.out rfl).2.1] at k2
        have J4 := Lib.hid k4; have J5 := Lib.hid k5; have J2 := Lib.hid k2
        clear k4 k5 k2
        go_wp2_with fail
        ((with_reducible refine (KN.out _ B1).mono ?_); rintro e w2 ⟨rfl, hb2⟩)
        have B2 := Below.next B1 hb2 (Nat.le_refl _)
        clear hb2
        go_wp2_with fail
        ((with_reducible refine (K0.out _ B2).mono ?_); rintro e w3 ⟨rfl, hb3⟩)
        have B3 := Below.next B2 hb3 (Nat.le_refl _)
        clear hb3
        go_wp2_with fail
        ((with_reducible refine (J2.out _ B3).mono ?_); rintro e w4 ⟨rfl, hb4⟩)
        have B4 := Below.next B3 hb4 (Nat.le_refl _)
        clear hb4
        go_wp2_with fail
        ((with_reducible refine (J4.out _ B4).mono ?_); rintro e w5 ⟨rfl, hb5⟩)
        have B5 := Below.next B4 hb5 (Nat.le_refl _)
        clear hb5
        go_wp2_with fail
        ((with_reducible refine (J5.out _ B5).mono ?_); rintro e w6 ⟨rfl, hb6⟩)
        have B6 := Below.next B5 hb6 (Nat.le_refl _)
        clear hb6
        go_wp2_with fail
        ((with_reducible refine (K1.out _ B6).mono ?_); rintro e w7 ⟨rfl, hb7⟩)
        have B7 := Below.next B6 hb7 (Nat.le_refl _)
        clear hb7
        go_wp2_with fail
        go_ret
        exact ⟨rfl, B7⟩
      | true =>
        cases q with
        | true =>
          go_wp2_with fail
          ((with_reducible refine (KN.out _ B1).mono ?_); rintro e w2 ⟨rfl, hb2⟩)
          have B2 := Below.next B1 hb2 (Nat.le_refl _)
          clear hb2
          go_wp2_with fail
          ((with_reducible refine (K0.out _ B2).mono ?_); rintro e w3 ⟨rfl, hb3⟩)
          have B3 := Below.next B2 hb3 (Nat.le_refl _)
          clear hb3
          go_wp2_with fail
          ((with_reducible refine (K1.out _ B3).mono ?_); rintro e w4 ⟨rfl, hb4⟩)
          have B4 := Below.next B3 hb4 (Nat.le_refl _)
          clear hb4
          go_wp2_with fail
          go_ret
          exact ⟨rfl, B4⟩
        | false =>
          have h3 := (HC2.out rfl).2
          cases p3 with
          | true =>
            go_wp2_with fail
            ((with_reducible refine (KN.out _ B1).mono ?_); rintro e w2 ⟨rfl, hb2⟩)
            have B2 := Below.next B1 hb2 (Nat.le_refl _)
            clear hb2
            go_wp2_with fail
            ((with_reducible refine (K0.out _ B2).mono ?_); rintro e w3 ⟨rfl, hb3⟩)
            have B3 := Below.next B2 hb3 (Nat.le_refl _)
            clear hb3
            go_wp2_with fail
            ((with_reducible refine (K1.out _ B3).mono ?_); rintro e w4 ⟨rfl, hb4⟩)
            have B4 := Below.next B3 hb4 (Nat.le_refl _)
            clear hb4
            go_wp2_with fail
            go_ret
            exact ⟨rfl, B4⟩
          | false =>
            cases p13 with
            | true =>
              go_wp2_with fail
              ((with_reducible refine (KN.out _ B1).mono ?_); rintro e w2 ⟨rfl, hb2⟩)
              have B2 := Below.next B1 hb2 (Nat.le_refl _)
              clear hb2
              go_wp2_with fail
              ((with_reducible refine (K0.out _ B2).mono ?_); rintro e w3 ⟨rfl, hb3⟩)
              have B3 := Below.next B2 hb3 (Nat.le_refl _)
              clear hb3
              go_wp2_with fail
              ((with_reducible refine (K1.out _ B3).mono ?_); rintro e w4 ⟨rfl, hb4⟩)
              have B4 := Below.next B3 hb4 (Nat.le_refl _)
              clear hb4
              go_wp2_with fail
              go_ret
              exact ⟨rfl, B4⟩
            | false => exact absurd h3 (by simp)
theorem walk (s : ByteArray) (hs : s.size ≤ 140737488351232) (k : Int) (hk : 0 ≤ k ∧ k ≤ 255) (w : World) (hL : LvAt w) :
    Calls Tryd.prog 6 #[.string s, .int .u8 k] w fun e W' => e = .returned (.bool true) ∧ Below w.heap.size w W' := by
  have hlo := level_isOp s
  have hbd := level_bounds s
  refine walk1 s hs k hk w hL _ _ _ _ _ _ rfl rfl hlo.symm rfl rfl rfl rfl (fun h => ?_) (fun h => ?_)
  · rw [hlo] at h
    have h0 : levelOf s = 0 := by have := of_decide_eq_false h; omega
    unfold textOf
    rw [h0]; simp
  · unfold textOf at h
    by_cases hc : isKind (k % 15) = true ∧ levelOf s ≠ 0
    · refine ⟨by rw [hlo, decide_eq_true_eq]; have := hc.2; omega, ?_⟩
      have := hc.1
      unfold isKind at this
      simp only [Bool.or_eq_true, decide_eq_true_eq] at this
      simp only [Bool.or_eq_true, beq_iff_eq]
      exact this.symm
    · rw [if_neg hc] at h
      simp at h

set_option maxRecDepth 100000 in
theorem lifted (os : Os) (started : os.Started) (H : Type) (enc : TypeId × Value → H) :
    ReturnsInHanded {} Tryd.checked os 6 .any (fun w args => (Rows.precNoneSpec.pre enc Tryd.prog Tryd.f6 Rows.precNoneRow.domain false w args ∧ laidMetH Tryd.prog pr.laid w) ∧ sizedMet enc Tryd.prog Tryd.f6 (OpenSpec.ofChange Rows.precNoneSpec) false w args) (Rows.precNoneSpec.post enc Tryd.prog Tryd.f6 false true false false) := by
  refine returnsInHanded_of_change_and (C := Tryd.checked) (X := fun w _ => laidMetH Tryd.prog pr.laid w) (fun _ _ _ hh h => h.of_heap hh) law.own started (by kernel_rfl) Tryd.func6
    (ChangeSpec.witness_shaped (enc := enc) (C := Tryd.checked) (os := os) (X := fun w _ => laidMetH Tryd.prog pr.laid w) false (World.laidAll Tryd.prog os pr.laid) #[.string ⟨#[]⟩, .int .u8 0] 8 (World.laidAll_os _ _ _) (World.shaped_of_ZipB (by kernel_rfl) (by kernel_rfl)) (by kernel_rfl) (by kernel_rfl) (by kernel_rfl) (pr.laid_met os _)) ?_
  intro W base args ds gs before hval0 hW _ hsize0 hL _
  have hsize : (DataW.weightsEach Tryd.prog (Tryd.f6.params.toList ++ _) (ds ++ gs)).all (· ≤ reachBytes) = true := hsize0
  have hLv := pr.lv_of_laid hL
  have hval : ∀ (j : Nat) t v, Tryd.f6.params[j]? = some t → args[j]? = some v → Value.okWide Tryd.prog W .any base t v := hval0
  have hW' := hW
  obtain ⟨p, q, hA0, hV, rfl, _, _⟩ := hW
  have hA : DataW.TrodAll enc Tryd.prog W 0 (fun _ => true) true Tryd.f6.params.toList args.toList ds p := hA0
  rw [Tryd.params6] at hA hval
  obtain ⟨v0, v1, d0, d1, p0, p1, rfl, rfl, rfl, h0, h1⟩ := trodAll_two hA
  obtain ⟨rfl, rfl⟩ := trodVars_none hV
  obtain ⟨s, rfl, rfl, rfl, ws⟩ := open_string Tryd.underlying9 (hval 0 9 v0 rfl rfl) h0
  obtain ⟨y, rfl, rfl, rfl, wy⟩ := open_int Tryd.underlying5 (hval 1 5 v1 rfl rfl) h1
  have hss := sized_string hsize (j := 0) (t := 9) rfl rfl
  rw [Array.length_toList] at hss
  clear hL
  refine (walk s (by have h1 : s.size ≤ reachBytes := hss; have : reachBytes ≤ 140737488351232 := (by decide); omega) y (law.u8_wf wy) W hLv).mono fun e W' ⟨he, hb⟩ => ⟨_, he, ?_⟩
  exact law.law_post rfl hW' rfl (by kernel_rfl) (by kernel_rfl) hb

/-- PrecNone, for every input. -/
theorem holds : Rows.PrecNoneSaid :=
  OpenClaim.holds_of_wide 6 Tryd.f6 rfl rfl rfl rfl rfl rfl rfl ⟨rfl, rfl, rfl, rfl, rfl⟩ rfl rfl rfl rfl rfl (by kernel_rfl) Tryd.func6 (by kernel_rfl)
    (of_decide_eq_true (by kernel_rfl)) (by unfold Func.isWrapper; first | (rw [if_pos (by decide +kernel)]; kernel_rfl) | (rw [if_neg (by decide +kernel)]; exact ⟨rfl, rfl⟩))
    (fun os started H enc _ => lifted os started H enc)

/-- The tied card of PrecNone. -/
theorem card : Rows.PrecNoneCardSaid :=
  Claim7.holds_tied_plain_at .later [] [.widerDeep] true Rows.precNoneCard.stood.harness false
    holds (fun _ h => by cases h) (by kernel_rfl) (fun _ h => by cases h) precNone_row_tie rfl ⟨rfl, rfl⟩ (by kernel_rfl) rfl
    (fun f fn hf hfn => by
      obtain rfl : f = 6 := Option.some.inj ((show Tryd.prog.funcNamed "subeditor/subeditorlaw06.PrecNone" = some 6 by kernel_rfl).symm.trans hf) |>.symm
      obtain rfl : fn = Tryd.f6 := (Option.some.inj (Tryd.func6.symm.trans hfn)).symm
      exact ⟨by kernel_rfl, fun j t ht => by
        rw [Tryd.params6] at ht
        have hm := List.mem_toArray.1 (Array.mem_of_getElem? ht)
        have hall : (Tryd.f6.params.toList.all fun u => !Tryd.prog.wantsStandIn u) = true := by kernel_rfl
        rw [show Tryd.f6.params.toList = _ from congrArg Array.toList Tryd.params6] at hall
        exact (show Tryd.prog.wantsStandIn t = false by simpa using List.all_eq_true.1 hall t hm)⟩)
    (by kernel_rfl)
end Go.Proofs.YtimhhdikdinhjaaDoor.precNone
