/-
  sign: Letter, Digit, Blank, inName; a class of bytes: at, run: their contracts.
-/
import Derived.WalkKit
import Derived.Lib.Hide
import Derived.Shelf.Abstract
import Derived.Test.YtmoamfcaokefiaaGreatDoorChecked
import Derived.Test.YtmoamfcaokefiaaGreatDoorSgSpec
namespace Go.Proofs.YtmoamfcaokefiaaGreatDoor.sg
open Go.RowKit Go.Shelf
set_option linter.unusedVariables false

set_option maxHeartbeats 1000000 in
theorem letter_calls (c : Int) (w : World) : Calls Tryz.prog 120 #[.int .u8 c] w fun e w' => e = .returned (.bool (Sg.cL c)) ∧ w = w' := by
  go_enter Tryz.func120, Tryz.ntmps120
  go_wp2
  all_goals go_ret
  all_goals refine ⟨congrArg (fun b => Ending.returned (Value.bool b)) (?_ : _ = Sg.cL c), rfl⟩
  all_goals rw [Bool.eq_iff_iff]
  all_goals simp [Sg.cL]
  all_goals omega

set_option maxHeartbeats 1000000 in
theorem digit_calls (c : Int) (w : World) : Calls Tryz.prog 121 #[.int .u8 c] w fun e w' => e = .returned (.bool (Sg.cD c)) ∧ w = w' := by
  go_enter Tryz.func121, Tryz.ntmps121
  go_wp2
  all_goals go_ret
  all_goals refine ⟨congrArg (fun b => Ending.returned (Value.bool b)) (?_ : _ = Sg.cD c), rfl⟩
  all_goals rw [Bool.eq_iff_iff]
  all_goals simp [Sg.cD]
  all_goals omega
set_option maxHeartbeats 1000000 in
theorem blank_calls (c : Int) (w : World) : Calls Tryz.prog 99 #[.int .u8 c] w fun e w' => e = .returned (.bool (Sg.cB c)) ∧ w = w' := by
  go_enter Tryz.func99, Tryz.ntmps99
  go_wp2
  all_goals go_ret
  all_goals refine ⟨congrArg (fun b => Ending.returned (Value.bool b)) (?_ : _ = Sg.cB c), rfl⟩
  all_goals rw [Bool.eq_iff_iff]
  all_goals simp [Sg.cB]
  all_goals omega
set_option maxHeartbeats 1000000 in
theorem inName_calls (c : Int) (w : World) : Calls Tryz.prog 131 #[.int .u8 c] w fun e w' => e = .returned (.bool (Sg.cW c)) ∧ w = w' := by
  go_enter Tryz.func131, Tryz.ntmps131
  cases hl : Sg.cL c with
  | true =>
    go_wp2_with fail
    ((with_reducible refine (letter_calls c _).mono ?_); rintro e w1 ⟨rfl, rfl⟩)
    go_wp2_with fail
    go_ret
    exact ⟨by simp [Sg.cW, hl], rfl⟩
  | false =>
    go_wp2_with fail
    ((with_reducible refine (letter_calls c _).mono ?_); rintro e w1 ⟨rfl, rfl⟩)
    go_wp2_with fail
    ((with_reducible refine (digit_calls c _).mono ?_); rintro e w1 ⟨rfl, rfl⟩)
    go_wp2_with fail
    go_ret
    exact ⟨by simp [Sg.cW, hl], rfl⟩

theorem lst_len (s : ByteArray) : s.data.toList.length = s.size := by rw [Array.length_toList]; rfl

set_option maxHeartbeats 1000000 in
theorem at_calls (g : Nat) (lb : Array Value) (p : Int → Bool) (s : ByteArray) (k : Int) (h0 : 0 ≤ k) (w : World)
    (hen : ∀ args w, (callFunc g args).run Tryz.prog w = .ok (.enter g args) w)
    (hg : ∀ c : Int, 0 ≤ c → c ≤ 255 → Calls Tryz.prog g (#[.int .u8 c] ++ lb) w fun e w' => e = .returned (.bool (p c)) ∧ w = w') :
    Calls Tryz.prog 130 #[.func (.func g) #[] lb, .string s, .int .i64 k] w fun e w' => e = .returned (.bool (Sg.at' p s.data.toList k.toNat)) ∧ w = w' := by
  go_enter Tryz.func130, Tryz.ntmps130
  by_cases hk : k < (s.size : Int)
  · have hlt : k.toNat < s.size := by omega
    have hb : (s[k.toNat]'hlt).toNat < 256 := (s[k.toNat]'hlt).toNat_lt
    have hv : Sg.at' p s.data.toList k.toNat = p ((s[k.toNat]'hlt).toNat : Int) := by
      have e : s.data.toList.getD k.toNat 0 = s[k.toNat]'hlt := by
        have e2 : s.data.toList.getD k.toNat 0 = s.data.toList[k.toNat]'(by rw [lst_len]; exact hlt) := by simp [List.getD, hlt]
        rw [e2]; rfl
      unfold Sg.at'
      rw [e, lst_len, decide_eq_true hlt, Bool.true_and]
    have HV := Lib.hid hv
    have hc := hg ((s[k.toNat]'hlt).toNat : Int) (by omega) (by omega)
    clear hv
    go_wp2
    refine hc.mono ?_
    rintro e w' ⟨rfl, rfl⟩
    go_wp2
    go_ret
    exact ⟨by rw [HV.out]; rfl, rfl⟩
  · have hge : (s.size : Int) ≤ k := by omega
    have hv : Sg.at' p s.data.toList k.toNat = false := by
      unfold Sg.at'
      rw [lst_len, decide_eq_false (by omega), Bool.false_and]
    have HV := Lib.hid hv
    clear hv
    go_wp2
    go_ret
    exact ⟨by rw [HV.out]; rfl, rfl⟩

set_option maxHeartbeats 2000000 in
theorem run_calls (g : Nat) (lb : Array Value) (p : Int → Bool) (s : ByteArray) (hs : s.size ≤ 140737488351232) (w : World)
    (hen : ∀ args w, (callFunc g args).run Tryz.prog w = .ok (.enter g args) w)
    (hg : ∀ c : Int, 0 ≤ c → c ≤ 255 → Calls Tryz.prog g (#[.int .u8 c] ++ lb) w fun e w' => e = .returned (.bool (p c)) ∧ w = w') :
    Calls Tryz.prog 132 #[.func (.func g) #[] lb, .string s] w fun e w' => e = .returned (.int .i64 (Sg.run p s.data.toList : Nat)) ∧ w = w' := by
  go_enter Tryz.func132, Tryz.ntmps132
  go_wp2_with fail
  go_loopw [5] (fun k wr => ∃ m : Nat, k = .int .i64 (m : Int) ∧ m ≤ s.size ∧ Sg.run p (s.data.toList.take m) = m ∧ wr = w) (fun k _ => s.size - (intOf k).toNat)
  case atStart => exact ⟨0, rfl, Nat.zero_le _, rfl, rfl⟩
  case round =>
    obtain ⟨m, rfl, hm, hr, rfl⟩ := hrel
    have hat := at_calls g lb p s (m : Int) (by omega) wr hen hg
    cases hv : Sg.at' p s.data.toList (m : Int).toNat with
    | true =>
      rw [hv] at hat
      have hv2 : Sg.at' p s.data.toList m = true := hv
      have hlt : m < s.size := by unfold Sg.at' at hv2; rw [Bool.and_eq_true, decide_eq_true_eq, lst_len] at hv2; exact hv2.1
      have hr2 : Sg.run p (s.data.toList.take (m + 1)) = m + 1 := Sg.run_snoc (by rw [lst_len]; exact hlt) hr (by unfold Sg.at' at hv2; rw [Bool.and_eq_true] at hv2; exact hv2.2)
      have HR := Lib.hid hr2
      clear hv hv2 hr hr2
      go_wp2_with fail
      ((with_reducible refine hat.mono ?_); rintro e w1 ⟨rfl, rfl⟩)
      go_wp2_with fail
      go_roundw
      case rel => exact ⟨m + 1, by go_num, by omega, HR.out, trivial⟩
      case measure => simp [intOf]; omega
    | false =>
      rw [hv] at hat
      have hv2 : Sg.at' p s.data.toList m = false := hv
      have hf : Sg.run p s.data.toList = m := by
        refine Sg.run_eq hr ?_
        rcases Nat.lt_or_ge m s.size with h | h
        · rw [Sg.drop_head (by rw [lst_len]; exact h)]
          refine Sg.stop_cons ?_ _
          unfold Sg.at' at hv2
          rw [lst_len, decide_eq_true h, Bool.true_and] at hv2
          exact hv2
        · rw [List.drop_eq_nil_of_le (by rw [lst_len]; exact h)]
          exact Sg.stop_nil p
      have HF := Lib.hid hf
      clear hv hv2 hr hf
      go_wp2_with fail
      ((with_reducible refine hat.mono ?_); rintro e w1 ⟨rfl, rfl⟩)
      go_wp2_with fail
      go_ret
      exact ⟨by rw [HF.out]; rfl, rfl⟩

theorem enL : ∀ args w, (callFunc 120 args).run Tryz.prog w = .ok (.enter 120 args) w := enters_of Tryz.func120 (by kernel_rfl) rfl
theorem enD : ∀ args w, (callFunc 121 args).run Tryz.prog w = .ok (.enter 121 args) w := enters_of Tryz.func121 (by kernel_rfl) rfl
theorem enW : ∀ args w, (callFunc 131 args).run Tryz.prog w = .ok (.enter 131 args) w := enters_of Tryz.func131 (by kernel_rfl) rfl
theorem enOf : ∀ args w, (callFunc 146 args).run Tryz.prog w = .ok (.enter 146 args) w := enters_of Tryz.func146 (by kernel_rfl) rfl
end Go.Proofs.YtmoamfcaokefiaaGreatDoor.sg
