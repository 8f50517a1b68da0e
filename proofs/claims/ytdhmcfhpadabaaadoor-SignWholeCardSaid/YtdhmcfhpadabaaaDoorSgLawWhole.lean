/-
  subeditorlaw03.SignWhole: for every input it returns true, and the arguments read as they did. No condition.
-/
import Derived.Test.YtdhmcfhpadabaaaDoorSgHelp
import Derived.Test.YtdhmcfhpadabaaaDoorCards
import Derived.Test.YtdhmcfhpadabaaaDoorTie
import Derived.SevenTiedAt
namespace Go.Proofs.YtdhmcfhpadabaaaDoor.signWhole
open Go.RowKit Go.ChangeShapes Go.WideShapes Go.ChangeAt Go.ChangeMaps
open sg
set_option linter.unusedVariables false


set_option maxRecDepth 100000 in
set_option maxHeartbeats 4000000 in
theorem walk (v : Value) (bs : List Int) (w : World) (hv : law.BytesAt w v bs) (hw : OpsAt w) :
    Calls Tryd.prog 4 #[v] w fun e W' => e = .returned (.bool true) ∧ Below w.heap.size w W' := by
  have hf := front_calls v bs w hv
  have hs := frontF_size bs
  obtain ⟨s, hse⟩ : ∃ s, frontF bs = s := ⟨_, rfl⟩
  rw [hse] at hf hs
  clear hse hv
  have hnl := Sg.number_le s.data.toList
  have hwl := Sg.word_le s.data.toList
  have hel := Sg.escape_le s.data.toList
  have hol := Sg.oper_le s.data.toList
  rw [lst_len] at hnl hwl hel hol
  have b0 : Sg.brk [] := .inl rfl
  have b1 : Sg.brk ([32] ++ s.data.toList) := .inr ⟨_, rfl⟩
  have n1 := Sg.number_cut (l := s.data.toList) b0
  have n2 := Sg.number_cut (l := s.data.toList) b1
  have w1 := Sg.word_cut (l := s.data.toList) b0
  have w2 := Sg.word_cut (l := s.data.toList) b1
  have e1 := Sg.escape_cut s.data.toList
  have o1 := Sg.oper_cut s.data.toList
  rw [List.append_nil] at n1 w1
  rw [← List.append_assoc] at n2 w2
  obtain ⟨N, hN⟩ : ∃ N, Sg.number s.data.toList = N := ⟨_, rfl⟩
  obtain ⟨D, hD⟩ : ∃ D, Sg.word s.data.toList = D := ⟨_, rfl⟩
  obtain ⟨E, hE⟩ : ∃ E, Sg.escape s.data.toList = E := ⟨_, rfl⟩
  obtain ⟨O, hO⟩ : ∃ O, Sg.oper s.data.toList = O := ⟨_, rfl⟩
  rw [hN] at n1 n2 hnl
  rw [hD] at w1 w2 hwl
  rw [hE] at e1 hel
  rw [hO] at o1 hol
  have hs0 : s.size ≤ 140737488351232 := by omega
  have hsx : ∀ k, (s.extract 0 k).size ≤ 36 := fun k => by rw [ByteArray.size_extract]; omega
  have hsy : ∀ k, (s.extract 0 k ++ ⟨#[32]⟩).size ≤ 37 := fun k => by rw [ByteArray.size_append]; have := hsx k; show _ + 1 ≤ 37; omega
  have hsz : ∀ k, (s.extract 0 k ++ ⟨#[32]⟩ ++ s).size ≤ 73 := fun k => by rw [ByteArray.size_append]; have := hsy k; omega
  have c1 := Lib.hid (fun w => number_is s hs0 N hN w)
  have c2 := Lib.hid (fun w => word_is s hs0 D hD w)
  have c3 := Lib.hid (fun w => escape_is s hs0 E hE w)
  have c4 := Lib.hid (fun w hw => oper_is s O hO w hw)
  have d1 := Lib.hid (fun w => number_is (s.extract 0 N) (by have := hsx N; omega) N (by rw [extract_take]; exact n1) w)
  have d2 := Lib.hid (fun w => word_is (s.extract 0 D) (by have := hsx D; omega) D (by rw [extract_take]; exact w1) w)
  have d3 := Lib.hid (fun w => escape_is (s.extract 0 E) (by have := hsx E; omega) E (by rw [extract_take]; exact e1) w)
  have d4 := Lib.hid (fun w hw => oper_is (s.extract 0 O) O (by rw [extract_take]; exact o1) w hw)
  have d5 := Lib.hid (fun w => word_is (s.extract 0 D ++ ⟨#[32]⟩ ++ s) (by have := hsz D; omega) D (by rw [append_data, append_data, extract_take]; exact w2) w)
  have d6 := Lib.hid (fun w => number_is (s.extract 0 N ++ ⟨#[32]⟩ ++ s) (by have := hsz N; omega) N (by rw [append_data, append_data, extract_take]; exact n2) w)
  have HF := Lib.hid hf; have HW := Lib.hid hw
  have q1 : (N : Int) ≤ (s.size : Int) := by omega
  have q2 : (D : Int) ≤ (s.size : Int) := by omega
  have q3 : (E : Int) ≤ (s.size : Int) := by omega
  have q4 : (O : Int) ≤ (s.size : Int) := by omega
  have s1 : ¬ (9223372036854775807 < (s.extract 0 D).size + (⟨#[32]⟩ : ByteArray).size) := by have := hsx D; show ¬ (9223372036854775807 < _ + 1); omega
  have s2 : ¬ (9223372036854775807 < (s.extract 0 D ++ ⟨#[32]⟩).size + s.size) := by have := hsy D; omega
  have s3 : ¬ (9223372036854775807 < (s.extract 0 N).size + (⟨#[32]⟩ : ByteArray).size) := by have := hsx N; show ¬ (9223372036854775807 < _ + 1); omega
  have s4 : ¬ (9223372036854775807 < (s.extract 0 N ++ ⟨#[32]⟩).size + s.size) := by have := hsy N; omega
  clear hf hw hN hD hE hO n1 n2 w1 w2 e1 o1 b0 b1 hsx hsy hsz hnl hwl hel hol
  go_enter Tryd.func4, Tryd.ntmps4
  go_wp2_with fail
  ((with_reducible refine HF.out.mono ?_); rintro e w1 ⟨rfl, hb1⟩)
  go_wp2_with fail
  ((with_reducible refine (c1.out _).mono ?_); rintro e w2 ⟨rfl, hb2⟩)
  go_wp2_with fail
  ((with_reducible refine (c2.out _).mono ?_); rintro e w3 ⟨rfl, rfl⟩)
  go_wp2_with fail
  ((with_reducible refine (c3.out _).mono ?_); rintro e w4 ⟨rfl, hb4⟩)
  go_wp2_with fail
  ((with_reducible refine (c4.out _ (((HW.out.own hb1).own hb2).own hb4)).mono ?_); rintro e w5 ⟨rfl, hb5⟩)
  go_wp2_with fail
  ((with_reducible refine (known_calls _ ((((HW.out.own hb1).own hb2).own hb4).own hb5)).mono ?_); rintro e w6 ⟨rfl, hb6⟩)
  go_wp2_with fail
  ((with_reducible refine (d1.out _).mono ?_); rintro e w7 ⟨rfl, hb7⟩)
  go_wp2_with fail
  ((with_reducible refine (d2.out _).mono ?_); rintro e w8 ⟨rfl, rfl⟩)
  go_wp2_with fail
  ((with_reducible refine (d3.out _).mono ?_); rintro e w9 ⟨rfl, hb9⟩)
  go_wp2_with fail
  ((with_reducible refine (d4.out _ (((((((HW.out.own hb1).own hb2).own hb4).own hb5).own hb6).own hb7).own hb9)).mono ?_); rintro e w10 ⟨rfl, hb10⟩)
  go_wp2_with fail
  ((with_reducible refine (d5.out _).mono ?_); rintro e w11 ⟨rfl, rfl⟩)
  go_wp2_with fail
  ((with_reducible refine (d6.out _).mono ?_); rintro e w12 ⟨rfl, hb12⟩)
  go_wp2_with fail
  go_ret
  exact ⟨rfl, Below.next (Below.next (Below.next (Below.next (Below.next (Below.next (Below.next (Below.next hb1 hb2 (Nat.le_refl _)) hb4 (Nat.le_refl _)) hb5 (Nat.le_refl _)) hb6 (Nat.le_refl _)) hb7 (Nat.le_refl _)) hb9 (Nat.le_refl _)) hb10 (Nat.le_refl _)) hb12 (Nat.le_refl _)⟩

set_option maxRecDepth 100000 in
theorem door_met (os : Os) (args : Array Value) : laidMetH Tryd.prog laid ((World.doorLaid Tryd.prog 14 os).forCall (fun _ _ => 0) ⟨#[], args, []⟩).memory :=
  laidMetH_of_parts3 (fuel := 8) (laidMet_of_run' 8 (by kernel_rfl) (by kernel_rfl)) (by kernel_rfl) (by kernel_rfl)

set_option maxRecDepth 100000 in
theorem lifted (os : Os) (started : os.Started) (H : Type) (enc : TypeId × Value → H) :
    ReturnsInHanded {} Tryd.checked os 4 .any (fun w args => (Rows.signWholeSpec.pre enc Tryd.prog Tryd.f4 Rows.signWholeRow.domain false w args ∧ laidMetH Tryd.prog laid w) ∧ sizedMet enc Tryd.prog Tryd.f4 (OpenSpec.ofChange Rows.signWholeSpec) false w args) (Rows.signWholeSpec.post enc Tryd.prog Tryd.f4 false true false false) := by
  refine returnsInHanded_of_change_and (C := Tryd.checked) (X := fun w _ => laidMetH Tryd.prog laid w) (fun _ _ _ hh h => h.of_heap hh) law.own started (by kernel_rfl) Tryd.func4
    (ChangeSpec.witness_shaped (enc := enc) (C := Tryd.checked) (os := os) (X := fun w _ => laidMetH Tryd.prog laid w) false (World.doorLaid Tryd.prog 14 os) #[.slice none 0 0] 8 rfl (World.shaped_of_RefB (by kernel_rfl) (by kernel_rfl)) (by kernel_rfl) (by kernel_rfl) (by kernel_rfl) (door_met os _)) ?_
  intro W base args ds gs before hval0 hW _ hsize0 hL _
  have hsize : (DataW.weightsEach Tryd.prog (Tryd.f4.params.toList ++ _) (ds ++ gs)).all (· ≤ reachBytes) = true := hsize0
  have hOps := ops_of_laid hL
  have hval : ∀ (j : Nat) t v, Tryd.f4.params[j]? = some t → args[j]? = some v → Value.okWide Tryd.prog W .any base t v := hval0
  have hW' := hW
  obtain ⟨p, q, hA0, hV, rfl, _, _⟩ := hW
  have hA : DataW.TrodAll enc Tryd.prog W 0 (fun _ => true) true Tryd.f4.params.toList args.toList ds p := hA0
  rw [Tryd.params4] at hA hval
  obtain ⟨v0, d0, rfl, rfl, h0⟩ := trodAll_one hA
  obtain ⟨rfl, rfl⟩ := trodVars_none hV
  obtain ⟨bs, hbs⟩ := law.open_bytes (hval 0 22 v0 rfl rfl) h0
  clear hL
  refine (walk v0 bs W hbs hOps).mono fun e W' ⟨he, hb⟩ => ⟨_, he, ?_⟩
  exact law.law_post rfl hW' rfl (by kernel_rfl) (by kernel_rfl) hb

/-- SignWhole, for every input. -/
theorem holds : Rows.SignWholeSaid :=
  OpenClaim.holds_of_wide 4 Tryd.f4 rfl rfl rfl rfl rfl rfl rfl ⟨rfl, rfl, rfl, rfl, rfl⟩ rfl rfl rfl rfl rfl (by kernel_rfl) Tryd.func4 (by kernel_rfl)
    (of_decide_eq_true (by kernel_rfl)) (by unfold Func.isWrapper; first | (rw [if_pos (by decide +kernel)]; kernel_rfl) | (rw [if_neg (by decide +kernel)]; exact ⟨rfl, rfl⟩))
    (fun os started H enc _ => lifted os started H enc)

/-- The tied card of SignWhole. -/
theorem card : Rows.SignWholeCardSaid :=
  Claim7.holds_tied_plain_at .later [] [.data] true Rows.signWholeCard.stood.harness false
    holds (fun _ h => by cases h) (by kernel_rfl) (fun _ h => by cases h) signWhole_row_tie rfl ⟨rfl, rfl⟩ (by kernel_rfl) rfl
    (fun f fn hf hfn => by
      obtain rfl : f = 4 := Option.some.inj ((show Tryd.prog.funcNamed "subeditor/subeditorlaw03.SignWhole" = some 4 by kernel_rfl).symm.trans hf) |>.symm
      obtain rfl : fn = Tryd.f4 := (Option.some.inj (Tryd.func4.symm.trans hfn)).symm
      exact ⟨by kernel_rfl, fun j t ht => by
        rw [Tryd.params4] at ht
        have hm := List.mem_toArray.1 (Array.mem_of_getElem? ht)
        have hall : (Tryd.f4.params.toList.all fun u => !Tryd.prog.wantsStandIn u) = true := by kernel_rfl
        rw [show Tryd.f4.params.toList = _ from congrArg Array.toList Tryd.params4] at hall
        exact (show Tryd.prog.wantsStandIn t = false by simpa using List.all_eq_true.1 hall t hm)⟩)
    (by kernel_rfl)
end Go.Proofs.YtdhmcfhpadabaaaDoor.signWhole
