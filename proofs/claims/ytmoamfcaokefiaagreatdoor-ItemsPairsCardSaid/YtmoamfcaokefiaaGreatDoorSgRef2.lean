/-
  subeditorref03: Word, Number: their contracts.
-/
import Derived.Test.YtmoamfcaokefiaaGreatDoorSgRef1
import Derived.Test.YtmoamfcaokefiaaGreatDoorSgFns3
namespace Go.Proofs.YtmoamfcaokefiaaGreatDoor.sg
open Go.RowKit Go.Shelf
set_option linter.unusedVariables false

/-- The document's loop: one step more. -/
theorem pre_two_take (s : ByteArray) (a : Nat) : ((s.extract a (a + 2)).toList == [58, 58]) = Lib.hasPrefix (s.data.toList.drop a) [58, 58] := by
  rw [Lib.toList_data, Lib.extract_data, ← Lib.hasPrefix_of_take]
  have e : a + 2 - a = [58, 58].length := by simp
  rw [e]
  by_cases h : ([58, 58] : List UInt8).length ≤ (s.data.toList.drop a).length
  · rw [decide_eq_true h, Bool.true_and, Bool.eq_iff_iff, beq_iff_eq, beq_iff_eq]; exact Iff.rfl
  · rw [decide_eq_false h, Bool.false_and, beq_eq_false_iff_ne]
    intro e2
    have := congrArg List.length e2
    rw [List.length_take] at this
    omega

theorem further_small {l : List UInt8} (h : l.length ≤ 2) : Sg.further l = 0 := by
  unfold Sg.further
  split
  · have : l.drop 2 = [] := List.drop_eq_nil_of_le h
    rw [this]; rfl
  · rfl

/-- Between two rounds of the document's Word. -/
def RW (s : ByteArray) (b f : Nat) : Prop := (b = 0 ∧ Sg.word s.data.toList = 0) ∨ (0 < b ∧ b ≤ s.size ∧ s.size ≤ f + b ∧ Sg.word s.data.toList = b + Sg.tail f (s.data.toList.drop b))
theorem RW.start (s : ByteArray) : RW s (Sg.simple s.data.toList) s.size := by
  have hsl := Sg.simple_le s.data.toList
  rw [lst_len] at hsl
  by_cases h : Sg.simple s.data.toList = 0
  · left
    refine ⟨h, ?_⟩
    unfold Sg.word; rw [if_pos h]
  · right
    refine ⟨by omega, hsl, by omega, ?_⟩
    unfold Sg.word; rw [if_neg h, lst_len]
theorem RW.fin {s : ByteArray} {b f : Nat} (h : RW s b f) (h0 : Sg.further (s.data.toList.drop b) = 0) : Sg.word s.data.toList = b := by
  rcases h with ⟨rfl, h⟩ | ⟨_, _, _, h⟩
  · exact h
  · rw [h]
    cases f with
    | zero => rfl
    | succ f =>
      rw [show Sg.tail (f + 1) (s.data.toList.drop b) = (if Sg.further (s.data.toList.drop b) = 0 then 0 else Sg.further (s.data.toList.drop b) + Sg.tail f ((s.data.toList.drop b).drop (Sg.further (s.data.toList.drop b)))) from rfl, if_pos h0]; rfl
theorem RW.step {s : ByteArray} {b f m : Nat} (h : RW s b f) (hb : 0 < b) (hm : Sg.further (s.data.toList.drop b) = m) (h0 : m ≠ 0) : b + m ≤ s.size ∧ RW s (b + m) (f - 1) := by
  have hfl := Sg.further_le (s.data.toList.drop b)
  rw [List.length_drop, lst_len, hm] at hfl
  rcases h with ⟨rfl, h⟩ | ⟨_, h1, h2, h⟩
  · omega
  · cases f with
    | zero => omega
    | succ f =>
      rw [show Sg.tail (f + 1) (s.data.toList.drop b) = (if Sg.further (s.data.toList.drop b) = 0 then 0 else Sg.further (s.data.toList.drop b) + Sg.tail f ((s.data.toList.drop b).drop (Sg.further (s.data.toList.drop b)))) from rfl, hm, if_neg h0, List.drop_drop] at h
      exact ⟨by omega, .inr ⟨by omega, by omega, by omega, by rw [h, Nat.add_sub_cancel]; omega⟩⟩

set_option maxRecDepth 100000 in
set_option maxHeartbeats 4000000 in
theorem rword_calls (s : ByteArray) (hs : s.size ≤ 140737488351232) (w : World) :
    Calls Tryz.prog 74 #[.string s] w fun e w' => e = .returned (.int .i64 (Sg.word s.data.toList : Nat)) ∧ w = w' := by
  have hsm := rsimple_calls s hs w
  have hst := RW.start s
  obtain ⟨k0, hk0⟩ : ∃ k, Sg.simple s.data.toList = k := ⟨_, rfl⟩
  rw [hk0] at hsm hst
  have HST := Lib.hid hst
  clear hk0 hst
  go_enter Tryz.func74, Tryz.ntmps74
  go_wp2_with fail
  ((with_reducible refine hsm.mono ?_); rintro e w1 ⟨rfl, rfl⟩)
  go_wp2_with fail
  go_loopw [3] (fun n wr => ∃ (b f : Nat), n = .int .i64 (b : Int) ∧ RW s b f ∧ wr = w) (fun n _ => s.size + 1 - (intOf n).toNat)
  case atStart => exact ⟨k0, s.size, rfl, HST.out, rfl⟩
  case round =>
    obtain ⟨b, f, rfl, hR, rfl⟩ := hrel
    have HR := Lib.hid hR
    by_cases h0 : b = 0
    · have hw : Sg.word s.data.toList = 0 := by
        rcases hR with ⟨_, h⟩ | ⟨h, _⟩
        · exact h
        · omega
      have HV := Lib.hid hw
      subst h0
      clear hR hw
      go_wp2_with fail
      go_ret
      exact ⟨by rw [HV.out]; rfl, rfl⟩
    · have hbs : b ≤ s.size := by
        rcases hR with ⟨h, _⟩ | ⟨_, h, _⟩
        · omega
        · exact h
      clear hR
      have t0 : decide ((0 : Int) < (b : Int)) = true := decide_eq_true (by omega)
      have t0' : decide (0 < b) = true := decide_eq_true (by omega)
      obtain ⟨c, hc⟩ : ∃ c, b + 2 = c := ⟨_, rfl⟩
      have w2 : wrap64 ((b : Int) + 2) = (c : Int) := by rw [IntWalk.wrap64_in _ (by omega)]; omega
      have w2' : IntKind.i64.wrap ((b : Int) + 2) = (c : Int) := (IntWalk.i64_left _).trans w2
      have w2n : (b : Int) + 2 = (c : Int) := by omega
      by_cases h1 : c < s.size
      · have t1 : decide ((c : Int) < (s.size : Int)) = true := decide_eq_true (by omega)
        have hpt := pre_two_take s b
        rw [hc] at hpt
        have l1 : (b : Int) ≤ (c : Int) := by omega
        have l2 : (c : Int) ≤ (s.size : Int) := by omega
        cases hp : Lib.hasPrefix (s.data.toList.drop b) [58, 58] with
        | false =>
          rw [hp] at hpt
          have HV := Lib.hid (HR.out.fin (by unfold Sg.further; rw [hp]; rfl))
          clear hp
          go_wp2_with fail
          go_ret
          exact ⟨by rw [HV.out]; rfl, rfl⟩
        | true =>
          rw [hp] at hpt
          have hsc := rsimple_calls (s.extract c s.size) (ext_size _ _ hs) wr
          rw [extract_drop] at hsc
          have hfu : Sg.further (s.data.toList.drop b) = if Sg.simple (s.data.toList.drop c) = 0 then 0 else 2 + Sg.simple (s.data.toList.drop c) := by
            unfold Sg.further; rw [hp, if_pos rfl, List.drop_drop, hc]
          have hkl := Sg.simple_le (s.data.toList.drop c)
          rw [List.length_drop, lst_len] at hkl
          obtain ⟨k, hk⟩ : ∃ k, Sg.simple (s.data.toList.drop c) = k := ⟨_, rfl⟩
          rw [hk] at hsc hfu hkl
          clear hp hk
          by_cases hk0 : k = 0
          · have HV := Lib.hid (HR.out.fin (by rw [hfu, if_pos hk0]))
            subst hk0
            clear hfu
            go_wp2_with fail
            ((with_reducible refine hsc.mono ?_); rintro e w1 ⟨rfl, rfl⟩)
            go_wp2_with fail
            go_ret
            exact ⟨by rw [HV.out]; rfl, rfl⟩
          · rw [if_neg hk0] at hfu
            have hst := HR.out.step (by omega) hfu (by omega)
            have HS := Lib.hid hst
            have t2 : decide ((0 : Int) < (k : Int)) = true := decide_eq_true (by omega)
            have t2' : decide (0 < k) = true := decide_eq_true (by omega)
            have w3 : wrap64 (2 + (k : Int)) = ((2 + k : Nat) : Int) := by rw [IntWalk.wrap64_in _ (by omega)]; omega
            have w3' : IntKind.i64.wrap (2 + (k : Int)) = ((2 + k : Nat) : Int) := (IntWalk.i64_left _).trans w3
            have w4 : wrap64 ((b : Int) + ((2 + k : Nat) : Int)) = ((b + (2 + k) : Nat) : Int) := by rw [IntWalk.wrap64_in _ (by omega)]; omega
            have w4' : IntKind.i64.wrap ((b : Int) + ((2 + k : Nat) : Int)) = ((b + (2 + k) : Nat) : Int) := (IntWalk.i64_left _).trans w4
            clear hfu hst
            go_wp2_with fail
            ((with_reducible refine hsc.mono ?_); rintro e w1 ⟨rfl, rfl⟩)
            go_wp2_with fail
            ((with_reducible refine hsc.mono ?_); rintro e w1 ⟨rfl, rfl⟩)
            go_wp2_with fail
            go_roundw
            case rel => exact ⟨b + (2 + k), f - 1, by go_num, HS.out.2, trivial⟩
            case measure => simp [intOf]; have := HS.out.1; omega
      · have t1 : decide ((c : Int) < (s.size : Int)) = false := decide_eq_false (by omega)
        have HV := Lib.hid (HR.out.fin (further_small (by rw [List.length_drop, lst_len]; omega)))
        go_wp2_with fail
        go_ret
        exact ⟨by rw [HV.out]; rfl, rfl⟩
end Go.Proofs.YtmoamfcaokefiaaGreatDoor.sg
