/-
  subeditorlaw03.SignOpers: for every input it returns true, and the arguments read as they did. No condition.
-/
import Derived.Test.YtdhmcfhpadabaaaDoorSgKnown
import Derived.Test.YtdhmcfhpadabaaaDoorCards
import Derived.Test.YtdhmcfhpadabaaaDoorTie
import Derived.SevenTiedAt
namespace Go.Proofs.YtdhmcfhpadabaaaDoor.signOpers
open Go.RowKit Go.ChangeShapes Go.WideShapes Go.ChangeAt Go.ChangeMaps
open sg
set_option linter.unusedVariables false

def opsA : Array Value := #[.string ⟨#[63, 47, 47]⟩, .string ⟨#[47, 47, 61]⟩, .string ⟨#[33, 61]⟩, .string ⟨#[61, 61]⟩, .string ⟨#[60, 61]⟩, .string ⟨#[62, 61]⟩, .string ⟨#[124, 61]⟩, .string ⟨#[43, 61]⟩, .string ⟨#[45, 61]⟩, .string ⟨#[42, 61]⟩, .string ⟨#[47, 61]⟩, .string ⟨#[37, 61]⟩, .string ⟨#[47, 47]⟩, .string ⟨#[46, 46]⟩, .string ⟨#[46]⟩, .string ⟨#[91]⟩, .string ⟨#[93]⟩, .string ⟨#[40]⟩, .string ⟨#[41]⟩, .string ⟨#[123]⟩, .string ⟨#[125]⟩, .string ⟨#[44]⟩, .string ⟨#[58]⟩, .string ⟨#[59]⟩, .string ⟨#[61]⟩, .string ⟨#[124]⟩, .string ⟨#[43]⟩, .string ⟨#[45]⟩, .string ⟨#[42]⟩, .string ⟨#[47]⟩, .string ⟨#[37]⟩, .string ⟨#[60]⟩, .string ⟨#[62]⟩, .string ⟨#[63]⟩]
theorem opsA_eq : opsA = opsL.toArray := rfl
def opB (m : Nat) : ByteArray := ⟨(Sg.opers.getD m []).toArray⟩
theorem opB_data (m : Nat) : (opB m).data.toList = Sg.opers.getD m [] := by simp [opB]
theorem opsA_at {m : Nat} (h : m < 34) : opsA[m]? = some (.string (opB m)) := by rw [opsA_eq]; exact opsL_at h

theorem facts : ∀ o ∈ Sg.opers, 1 ≤ o.length ∧ o.length ≤ 3 ∧ Sg.oper o = o.length ∧ Sg.oper (o ++ [32]) = o.length ∧ Sg.oper (o ++ [97]) = o.length ∧ Sg.oper ([97] ++ o) = 0 ∧ (Sg.oper (o.take 1) = 1 ∨ o = [33, 61]) := by decide +kernel
theorem facts_at {m : Nat} (h : m < 34) : 1 ≤ (Sg.opers.getD m []).length ∧ (Sg.opers.getD m []).length ≤ 3 ∧ Sg.oper (Sg.opers.getD m []) = (Sg.opers.getD m []).length ∧ Sg.oper (Sg.opers.getD m [] ++ [32]) = (Sg.opers.getD m []).length ∧ Sg.oper (Sg.opers.getD m [] ++ [97]) = (Sg.opers.getD m []).length ∧ Sg.oper ([97] ++ Sg.opers.getD m []) = 0 ∧ (Sg.oper ((Sg.opers.getD m []).take 1) = 1 ∨ Sg.opers.getD m [] = [33, 61]) := by
  refine facts _ ?_
  have hl : m < Sg.opers.length := h
  rw [List.getD, List.getElem?_eq_getElem hl]
  exact List.getElem_mem hl

theorem extract_take (s : ByteArray) (k : Nat) : (s.extract 0 k).data.toList = s.data.toList.take k := by rw [Lib.extract_data]; simp
theorem append_data (a b : ByteArray) : (a ++ b).data.toList = a.data.toList ++ b.data.toList := by rw [ByteArray.data_append, Array.toList_append]

theorem oper_is (s : ByteArray) (r : Nat) (h : Sg.oper s.data.toList = r) (w : World) (hw : OpsAt w) :
    Calls Tryd.prog 22 #[.string s] w fun e W' => e = .returned (.int .i64 (r : Int)) ∧ Below w.heap.size w W' := by
  rw [← h]; exact oper_calls s w hw

set_option maxRecDepth 100000 in
set_option maxHeartbeats 4000000 in
theorem walk (k : Int) (h0 : 0 ≤ k) (h1 : k ≤ 255) (w : World) (hw : OpsAt w) :
    Calls Tryd.prog 8 #[.int .u8 k] w fun e W' => e = .returned (.bool true) ∧ Below w.heap.size w W' := by
  have hm : (k % 34).toNat < 34 := by omega
  have hf := facts_at hm
  have hcell : (w.alloc (.cells opsA 9)).cell? ⟨w.heap.size, (k % 34).toNat, none⟩ = some (.string (opB (k % 34).toNat)) := by rw [cells_new]; exact opsA_at hm
  rw [← opB_data] at hf
  obtain ⟨o, ho⟩ : ∃ o, opB (k % 34).toNat = o := ⟨_, rfl⟩
  rw [ho] at hf hcell
  clear ho
  obtain ⟨f1, f2, f3, f4, f5, f6, f7⟩ := hf
  rw [lst_len] at f1 f2 f3 f4 f5
  unfold opsA at hcell
  have hq0 : 0 ≤ k % 34 := by omega
  have hq1 : k % 34 < 34 := by omega
  have hw1 : OpsAt (w.alloc (.cells opsA 9)) := hw.own ((Below.refl _ w).alloc (Nat.le_refl _) _)
  have hb0 : Below w.heap.size w (w.alloc (.cells opsA 9)) := (Below.refl _ w).alloc (Nat.le_refl _) _
  unfold opsA at hw1 hb0
  have c1 := fun w hw => oper_is (o.extract 0 1) _ rfl w hw
  have e1 : Sg.oper (o.extract 0 1).data.toList = Sg.oper (o.data.toList.take 1) := by rw [extract_take]
  have c2 := fun w hw => oper_is o _ f3 w hw
  have c3 := fun w hw => oper_is (o ++ ⟨#[32]⟩) o.size (by rw [append_data]; exact f4) w hw
  have c4 := fun w hw => oper_is (o ++ ⟨#[97]⟩) o.size (by rw [append_data]; exact f5) w hw
  have c5 := fun w hw => oper_is (⟨#[97]⟩ ++ o) 0 (by rw [append_data]; exact f6) w hw
  rw [e1] at c1
  have C2 := Lib.hid c2; have C3 := Lib.hid c3; have C4 := Lib.hid c4; have C5 := Lib.hid c5
  have s1 : (1 : Int) ≤ (o.size : Int) := by omega
  have s2 : ¬ (9223372036854775807 < o.size + (⟨#[32]⟩ : ByteArray).size) := by show ¬ (9223372036854775807 < o.size + 1); omega
  have s3 : ¬ (9223372036854775807 < o.size + (⟨#[97]⟩ : ByteArray).size) := by show ¬ (9223372036854775807 < o.size + 1); omega
  have s4 : ¬ (9223372036854775807 < (⟨#[97]⟩ : ByteArray).size + o.size) := by show ¬ (9223372036854775807 < 1 + o.size); omega
  have HW := Lib.hid hw1; have HB := Lib.hid hb0
  clear hw1 hw hb0 c2 c3 c4 c5 f3 f4 f5 f6 e1 hm
  by_cases ht : Sg.oper (o.data.toList.take 1) = 1
  · rw [ht] at c1
    have C1 := Lib.hid c1
    clear c1 f7 ht
    go_enter Tryd.func8, Tryd.ntmps8
    go_wp2_with fail
    ((with_reducible refine (C1.out _ HW.out).mono ?_); rintro e w1 ⟨rfl, hb1⟩)
    go_wp2_with fail
    ((with_reducible refine (known_calls _ (HW.out.own hb1)).mono ?_); rintro e w2 ⟨rfl, hb2⟩)
    go_wp2_with fail
    ((with_reducible refine (C2.out _ ((HW.out.own hb1).own hb2)).mono ?_); rintro e w3 ⟨rfl, hb3⟩)
    go_wp2_with fail
    ((with_reducible refine (C3.out _ (((HW.out.own hb1).own hb2).own hb3)).mono ?_); rintro e w4 ⟨rfl, hb4⟩)
    go_wp2_with fail
    ((with_reducible refine (C4.out _ ((((HW.out.own hb1).own hb2).own hb3).own hb4)).mono ?_); rintro e w5 ⟨rfl, hb5⟩)
    go_wp2_with fail
    ((with_reducible refine (C5.out _ (((((HW.out.own hb1).own hb2).own hb3).own hb4).own hb5)).mono ?_); rintro e w6 ⟨rfl, hb6⟩)
    go_wp2_with fail
    go_ret
    exact ⟨rfl, Below.next (Below.next (Below.next (Below.next (Below.next (Below.next HB.out hb1 (Nat.le_refl _)) hb2 (Nat.le_refl _)) hb3 (Nat.le_refl _)) hb4 (Nat.le_refl _)) hb5 (Nat.le_refl _)) hb6 (Nat.le_refl _)⟩
  · have ho := f7.resolve_left ht
    obtain rfl : o = ⟨#[33, 61]⟩ := by
      have := Lib.mk_data o
      rw [← this, ho]
    have e0 : Sg.oper ((⟨#[33, 61]⟩ : ByteArray).data.toList.take 1) = 0 := by decide +kernel
    rw [e0] at c1
    have C1 := Lib.hid c1
    clear c1 f7 ht ho e0
    go_enter Tryd.func8, Tryd.ntmps8
    go_wp2_with fail
    ((with_reducible refine (C1.out _ HW.out).mono ?_); rintro e w1 ⟨rfl, hb1⟩)
    go_wp2_with fail
    ((with_reducible refine (known_calls _ (HW.out.own hb1)).mono ?_); rintro e w2 ⟨rfl, hb2⟩)
    go_wp2_with fail
    ((with_reducible refine (C2.out _ ((HW.out.own hb1).own hb2)).mono ?_); rintro e w3 ⟨rfl, hb3⟩)
    go_wp2_with fail
    ((with_reducible refine (C3.out _ (((HW.out.own hb1).own hb2).own hb3)).mono ?_); rintro e w4 ⟨rfl, hb4⟩)
    go_wp2_with fail
    ((with_reducible refine (C4.out _ ((((HW.out.own hb1).own hb2).own hb3).own hb4)).mono ?_); rintro e w5 ⟨rfl, hb5⟩)
    go_wp2_with fail
    ((with_reducible refine (C5.out _ (((((HW.out.own hb1).own hb2).own hb3).own hb4).own hb5)).mono ?_); rintro e w6 ⟨rfl, hb6⟩)
    go_wp2_with fail
    go_ret
    exact ⟨rfl, Below.next (Below.next (Below.next (Below.next (Below.next (Below.next HB.out hb1 (Nat.le_refl _)) hb2 (Nat.le_refl _)) hb3 (Nat.le_refl _)) hb4 (Nat.le_refl _)) hb5 (Nat.le_refl _)) hb6 (Nat.le_refl _)⟩

set_option maxRecDepth 100000 in
theorem door_met (os : Os) (args : Array Value) : laidMetH Tryd.prog laid ((World.doorLaid Tryd.prog 14 os).forCall (fun _ _ => 0) ⟨#[], args, []⟩).memory :=
  laidMetH_of_parts3 (fuel := 8) (laidMet_of_run' 8 (by kernel_rfl) (by kernel_rfl)) (by kernel_rfl) (by kernel_rfl)

set_option maxRecDepth 100000 in
theorem lifted (os : Os) (started : os.Started) (H : Type) (enc : TypeId × Value → H) :
    ReturnsInHanded {} Tryd.checked os 8 .any (fun w args => (Rows.signOpersSpec.pre enc Tryd.prog Tryd.f8 Rows.signOpersRow.domain false w args ∧ laidMetH Tryd.prog laid w) ∧ sizedMet enc Tryd.prog Tryd.f8 (OpenSpec.ofChange Rows.signOpersSpec) false w args) (Rows.signOpersSpec.post enc Tryd.prog Tryd.f8 false true false false) := by
  refine returnsInHanded_of_change_and (C := Tryd.checked) (X := fun w _ => laidMetH Tryd.prog laid w) (fun _ _ _ hh h => h.of_heap hh) law.own started (by kernel_rfl) Tryd.func8
    (ChangeSpec.witness_shaped (enc := enc) (C := Tryd.checked) (os := os) (X := fun w _ => laidMetH Tryd.prog laid w) false (World.doorLaid Tryd.prog 14 os) #[.int .u8 0] 8 rfl (World.shaped_of_RefB (by kernel_rfl) (by kernel_rfl)) (by kernel_rfl) (by kernel_rfl) (by kernel_rfl) (door_met os _)) ?_
  intro W base args ds gs before hval0 hW _ hsize0 hL _
  have hsize : (DataW.weightsEach Tryd.prog (Tryd.f8.params.toList ++ _) (ds ++ gs)).all (· ≤ reachBytes) = true := hsize0
  have hOps := ops_of_laid hL
  have hval : ∀ (j : Nat) t v, Tryd.f8.params[j]? = some t → args[j]? = some v → Value.okWide Tryd.prog W .any base t v := hval0
  have hW' := hW
  obtain ⟨p, q, hA0, hV, rfl, _, _⟩ := hW
  have hA : DataW.TrodAll enc Tryd.prog W 0 (fun _ => true) true Tryd.f8.params.toList args.toList ds p := hA0
  rw [Tryd.params8] at hA hval
  obtain ⟨v0, d0, rfl, rfl, h0⟩ := trodAll_one hA
  obtain ⟨rfl, rfl⟩ := trodVars_none hV
  obtain ⟨x, rfl, rfl, rfl, wx⟩ := open_int Tryd.underlying5 (hval 0 5 v0 rfl rfl) h0
  have hx := law.u8_wf wx
  clear hL
  refine (walk x hx.1 hx.2 W hOps).mono fun e W' ⟨he, hb⟩ => ⟨_, he, ?_⟩
  exact law.law_post rfl hW' rfl (by kernel_rfl) (by kernel_rfl) hb

/-- SignOpers, for every input. -/
theorem holds : Rows.SignOpersSaid :=
  OpenClaim.holds_of_wide 8 Tryd.f8 rfl rfl rfl rfl rfl rfl rfl ⟨rfl, rfl, rfl, rfl, rfl⟩ rfl rfl rfl rfl rfl (by kernel_rfl) Tryd.func8 (by kernel_rfl)
    (of_decide_eq_true (by kernel_rfl)) (by unfold Func.isWrapper; first | (rw [if_pos (by decide +kernel)]; kernel_rfl) | (rw [if_neg (by decide +kernel)]; exact ⟨rfl, rfl⟩))
    (fun os started H enc _ => lifted os started H enc)

/-- The tied card of SignOpers. -/
theorem card : Rows.SignOpersCardSaid :=
  Claim7.holds_tied_plain_at .later [] [.data] true Rows.signOpersCard.stood.harness false
    holds (fun _ h => by cases h) (by kernel_rfl) (fun _ h => by cases h) signOpers_row_tie rfl ⟨rfl, rfl⟩ (by kernel_rfl) rfl
    (fun f fn hf hfn => by
      obtain rfl : f = 8 := Option.some.inj ((show Tryd.prog.funcNamed "subeditor/subeditorlaw03.SignOpers" = some 8 by kernel_rfl).symm.trans hf) |>.symm
      obtain rfl : fn = Tryd.f8 := (Option.some.inj (Tryd.func8.symm.trans hfn)).symm
      exact ⟨by kernel_rfl, fun j t ht => by
        rw [Tryd.params8] at ht
        have hm := List.mem_toArray.1 (Array.mem_of_getElem? ht)
        have hall : (Tryd.f8.params.toList.all fun u => !Tryd.prog.wantsStandIn u) = true := by kernel_rfl
        rw [show Tryd.f8.params.toList = _ from congrArg Array.toList Tryd.params8] at hall
        exact (show Tryd.prog.wantsStandIn t = false by simpa using List.all_eq_true.1 hall t hm)⟩)
    (by kernel_rfl)
end Go.Proofs.YtdhmcfhpadabaaaDoor.signOpers
