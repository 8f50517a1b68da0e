/-
  subeditorref03: Letter, Digit, Blank, hex, simple, digits, Word: their contracts.
-/
import Derived.Test.YtmoamfcaokefiaaGreatDoorSgClass
namespace Go.Proofs.YtmoamfcaokefiaaGreatDoor.sg
open Go.RowKit Go.Shelf
set_option linter.unusedVariables false

set_option maxHeartbeats 1000000 in
theorem rletter_calls (c : Int) (w : World) : Calls Tryz.prog 75 #[.int .u8 c] w fun e w' => e = .returned (.bool (Sg.cL c)) ∧ w = w' := by
  go_enter Tryz.func75, Tryz.ntmps75
  go_wp2
  all_goals go_ret
  all_goals refine ⟨congrArg (fun b => Ending.returned (Value.bool b)) (?_ : _ = Sg.cL c), rfl⟩
  all_goals rw [Bool.eq_iff_iff]
  all_goals simp [Sg.cL]
  all_goals omega
set_option maxHeartbeats 1000000 in
theorem rdigit_calls (c : Int) (w : World) : Calls Tryz.prog 88 #[.int .u8 c] w fun e w' => e = .returned (.bool (Sg.cD c)) ∧ w = w' := by
  go_enter Tryz.func88, Tryz.ntmps88
  go_wp2
  all_goals go_ret
  all_goals refine ⟨congrArg (fun b => Ending.returned (Value.bool b)) (?_ : _ = Sg.cD c), rfl⟩
  all_goals rw [Bool.eq_iff_iff]
  all_goals simp [Sg.cD]
  all_goals omega
set_option maxHeartbeats 1000000 in
theorem rblank_calls (c : Int) (w : World) : Calls Tryz.prog 71 #[.int .u8 c] w fun e w' => e = .returned (.bool (Sg.cB c)) ∧ w = w' := by
  go_enter Tryz.func71, Tryz.ntmps71
  go_wp2
  all_goals go_ret
  all_goals refine ⟨congrArg (fun b => Ending.returned (Value.bool b)) (?_ : _ = Sg.cB c), rfl⟩
  all_goals rw [Bool.eq_iff_iff]
  all_goals simp [Sg.cB]
  all_goals omega

set_option maxHeartbeats 1000000 in
theorem hex_calls (c : Int) (w : World) : Calls Tryz.prog 86 #[.int .u8 c] w fun e w' => e = .returned (.bool (Sg.cH c)) ∧ w = w' := by
  go_enter Tryz.func86, Tryz.ntmps86
  cases hd : Sg.cD c with
  | true =>
    go_wp2_with fail
    ((with_reducible refine (rdigit_calls c _).mono ?_); rintro e w1 ⟨rfl, rfl⟩)
    go_wp2_with fail
    go_ret
    exact ⟨by simp [Sg.cH, hd], rfl⟩
  | false =>
    go_wp2_with fail
    ((with_reducible refine (rdigit_calls c _).mono ?_); rintro e w1 ⟨rfl, rfl⟩)
    go_wp2_with fail
    all_goals go_ret
    all_goals refine ⟨congrArg (fun b => Ending.returned (Value.bool b)) (?_ : _ = Sg.cH c), rfl⟩
    all_goals rw [Bool.eq_iff_iff]
    all_goals simp [Sg.cH, hd]
    all_goals omega

theorem at_get (p : Int → Bool) (s : ByteArray) {m : Nat} (h : m < s.size) : Sg.at' p s.data.toList m = p ((s[m]'h).toNat : Int) := by
  have e : s.data.toList.getD m 0 = s[m]'h := by
    have e2 : s.data.toList.getD m 0 = s.data.toList[m]'(by rw [lst_len]; exact h) := by simp [List.getD, h]
    rw [e2]; rfl
  unfold Sg.at'
  rw [e, lst_len, decide_eq_true h, Bool.true_and]
theorem at_none (p : Int → Bool) (s : ByteArray) {m : Nat} (h : ¬ m < s.size) : Sg.at' p s.data.toList m = false := by
  unfold Sg.at'
  rw [lst_len, decide_eq_false h, Bool.false_and]
theorem run_more {p : Int → Bool} {s : ByteArray} {m : Nat} (h : m < s.size) (hr : Sg.run p (s.data.toList.take m) = m) (hp : p ((s[m]'h).toNat : Int) = true) : Sg.run p (s.data.toList.take (m + 1)) = m + 1 := by
  have hv := at_get p s h
  rw [hp] at hv
  unfold Sg.at' at hv
  rw [Bool.and_eq_true] at hv
  exact Sg.run_snoc (by rw [lst_len]; exact h) hr hv.2
theorem run_less {p : Int → Bool} {s : ByteArray} {m : Nat} (hr : Sg.run p (s.data.toList.take m) = m) (hp : ∀ h : m < s.size, p ((s[m]'h).toNat : Int) = false) : Sg.run p s.data.toList = m := by
  refine Sg.run_eq hr ?_
  rcases Nat.lt_or_ge m s.size with h | h
  · rw [Sg.drop_head (by rw [lst_len]; exact h)]
    refine Sg.stop_cons ?_ _
    have hv := at_get p s h
    rw [hp h] at hv
    unfold Sg.at' at hv
    rw [lst_len, decide_eq_true h, Bool.true_and] at hv
    exact hv
  · rw [List.drop_eq_nil_of_le (by rw [lst_len]; exact h)]
    exact Sg.stop_nil p

theorem empty_eq (s : ByteArray) (h : s.size = 0) : s = ⟨#[]⟩ := by
  have hl : s.data.toList = [] := List.length_eq_zero_iff.1 (by rw [lst_len]; exact h)
  cases s; simp at hl; subst hl; rfl
theorem ne_empty (s : ByteArray) (h : 0 < s.size) : s.toList.isEmpty = false := by
  rw [Lib.toList_data]
  cases hl : s.data.toList with
  | nil => rw [← lst_len, hl] at h; exact absurd h (by decide)
  | cons a r => rfl

set_option maxHeartbeats 1000000 in
theorem digits_calls (s : ByteArray) (hs : s.size ≤ 140737488351232) (w : World) :
    Calls Tryz.prog 89 #[.string s] w fun e w' => e = .returned (.int .i64 (Sg.run Sg.cD s.data.toList : Nat)) ∧ w = w' := by
  go_enter Tryz.func89, Tryz.ntmps89
  go_wp2_with fail
  go_loopw [3] (fun k wr => ∃ m : Nat, k = .int .i64 (m : Int) ∧ m ≤ s.size ∧ Sg.run Sg.cD (s.data.toList.take m) = m ∧ wr = w) (fun k _ => s.size - (intOf k).toNat)
  case atStart => exact ⟨0, rfl, Nat.zero_le _, rfl, rfl⟩
  case round =>
    obtain ⟨m, rfl, hm, hr, rfl⟩ := hrel
    by_cases h : m < s.size
    · cases hd : Sg.cD ((s[m]'h).toNat : Int) with
      | true =>
        have HR := Lib.hid (run_more h hr hd)
        have hc := rdigit_calls ((s[m]'h).toNat : Int) wr
        rw [hd] at hc
        clear hr hd
        go_wp2_with fail
        ((with_reducible refine hc.mono ?_); rintro e w1 ⟨rfl, rfl⟩)
        go_wp2_with fail
        go_roundw
        case rel => exact ⟨m + 1, by go_num, by omega, HR.out, trivial⟩
        case measure => simp [intOf]; omega
      | false =>
        have HF := Lib.hid (run_less hr (fun _ => hd))
        have hc := rdigit_calls ((s[m]'h).toNat : Int) wr
        rw [hd] at hc
        clear hr hd
        go_wp2_with fail
        ((with_reducible refine hc.mono ?_); rintro e w1 ⟨rfl, rfl⟩)
        go_wp2_with fail
        go_ret
        exact ⟨by rw [HF.out]; rfl, rfl⟩
    · have HF := Lib.hid (run_less hr (fun h' => absurd h' h))
      clear hr
      go_wp2_with fail
      go_ret
      exact ⟨by rw [HF.out]; rfl, rfl⟩

set_option maxHeartbeats 2000000 in
theorem rsimple_calls (s : ByteArray) (hs : s.size ≤ 140737488351232) (w : World) :
    Calls Tryz.prog 87 #[.string s] w fun e w' => e = .returned (.int .i64 (Sg.simple s.data.toList : Nat)) ∧ w = w' := by
  rcases Nat.eq_zero_or_pos s.size with h0 | h0
  · obtain rfl := empty_eq s h0
    go_enter Tryz.func87, Tryz.ntmps87
    go_wp2_with fail
    go_ret
    exact ⟨rfl, rfl⟩
  · have hne := ne_empty s h0
    have hc := rletter_calls ((s[0]'h0).toNat : Int) w
    cases hd : Sg.cL ((s[0]'h0).toNat : Int) with
    | false =>
      rw [hd] at hc
      have hv : Sg.simple s.data.toList = 0 := by unfold Sg.simple; rw [at_get _ s h0, hd]; rfl
      have HV := Lib.hid hv
      clear hv hd
      go_enter Tryz.func87, Tryz.ntmps87
      go_wp2_with fail
      ((with_reducible refine hc.mono ?_); rintro e w1 ⟨rfl, rfl⟩)
      go_wp2_with fail
      go_ret
      exact ⟨by rw [HV.out]; rfl, rfl⟩
    | true =>
      rw [hd] at hc
      have hv : Sg.simple s.data.toList = Sg.run Sg.cW s.data.toList := by unfold Sg.simple; rw [at_get _ s h0, hd]; rfl
      have HV := Lib.hid hv
      have h1 : Sg.run Sg.cW (s.data.toList.take 1) = 1 := run_more h0 rfl (Sg.LW0 _ hd)
      clear hv hd
      go_enter Tryz.func87, Tryz.ntmps87
      go_wp2_with fail
      ((with_reducible refine hc.mono ?_); rintro e w1 ⟨rfl, rfl⟩)
      go_wp2_with fail
      go_loopw [3] (fun k wr => ∃ m : Nat, k = .int .i64 (m : Int) ∧ m ≤ s.size ∧ Sg.run Sg.cW (s.data.toList.take m) = m ∧ wr = w) (fun k _ => s.size - (intOf k).toNat)
      case atStart => exact ⟨1, rfl, h0, h1, rfl⟩
      case round =>
        obtain ⟨m, rfl, hm, hr, rfl⟩ := hrel
        by_cases h : m < s.size
        · have hl := rletter_calls ((s[m]'h).toNat : Int) wr
          have hg := rdigit_calls ((s[m]'h).toNat : Int) wr
          cases hL : Sg.cL ((s[m]'h).toNat : Int) with
          | true =>
            rw [hL] at hl
            have HR := Lib.hid (run_more (p := Sg.cW) h hr (by simp [Sg.cW, hL]))
            clear hr hL
            go_wp2_with fail
            ((with_reducible refine hl.mono ?_); rintro e w1 ⟨rfl, rfl⟩)
            go_wp2_with fail
            go_roundw
            case rel => exact ⟨m + 1, by go_num, by omega, HR.out, trivial⟩
            case measure => simp [intOf]; omega
          | false =>
            rw [hL] at hl
            cases hD : Sg.cD ((s[m]'h).toNat : Int) with
            | true =>
              rw [hD] at hg
              have HR := Lib.hid (run_more (p := Sg.cW) h hr (by simp [Sg.cW, hD]))
              clear hr hL hD
              go_wp2_with fail
              ((with_reducible refine hl.mono ?_); rintro e w1 ⟨rfl, rfl⟩)
              go_wp2_with fail
              ((with_reducible refine hg.mono ?_); rintro e w1 ⟨rfl, rfl⟩)
              go_wp2_with fail
              go_roundw
              case rel => exact ⟨m + 1, by go_num, by omega, HR.out, trivial⟩
              case measure => simp [intOf]; omega
            | false =>
              rw [hD] at hg
              have HF := Lib.hid (run_less (p := Sg.cW) hr (fun _ => by simp [Sg.cW, hL, hD]))
              clear hr hL hD
              go_wp2_with fail
              ((with_reducible refine hl.mono ?_); rintro e w1 ⟨rfl, rfl⟩)
              go_wp2_with fail
              ((with_reducible refine hg.mono ?_); rintro e w1 ⟨rfl, rfl⟩)
              go_wp2_with fail
              go_ret
              exact ⟨by rw [HV.out, HF.out]; rfl, rfl⟩
        · have HF := Lib.hid (run_less hr (fun h' => absurd h' h))
          clear hr
          go_wp2_with fail
          go_ret
          exact ⟨by rw [HV.out, HF.out]; rfl, rfl⟩
end Go.Proofs.YtmoamfcaokefiaaGreatDoor.sg
