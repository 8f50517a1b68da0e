/-
  subeditorlaw03.SignAsks: for every input it returns true, and the arguments read as they did. No condition.
-/
import Derived.Test.YtdhmcfhpadabaaaDoorSgRef3
import Derived.Test.YtdhmcfhpadabaaaDoorSgRef5
import Derived.Test.YtdhmcfhpadabaaaDoorSgHelp
import Derived.Test.YtdhmcfhpadabaaaDoorCards
import Derived.Test.YtdhmcfhpadabaaaDoorTie
import Derived.SevenTiedAt
namespace Go.Proofs.YtdhmcfhpadabaaaDoor.signAsks
open Go.RowKit Go.ChangeShapes Go.WideShapes Go.ChangeAt Go.ChangeMaps
open sg
set_option linter.unusedVariables false


set_option maxRecDepth 100000 in
set_option maxHeartbeats 4000000 in
theorem asks_calls (s : ByteArray) (hs : s.size ≤ 100000) (w : World) (hw : OpsAt w) :
    Calls Tryd.prog 18 #[.string s] w fun e W' => e = .returned (.bool true) ∧ Below w.heap.size w W' := by
  have hs0 : s.size ≤ 140737488351232 := by omega
  have a1 := fun w => word_calls s hs0 w
  have b1 := fun w => rword_calls s hs0 w
  have a2 := fun w => number_calls s hs0 w
  have b2 := fun w => rnumber_calls s hs0 w
  have a3 := fun w hw => oper_calls s w hw
  have b3 := fun w => roper_calls s hs0 w
  have a4 := fun w => escape_calls s hs0 w
  have b4 := fun w => rescape_calls s hs0 w
  have a5 := fun w => plain_calls s hs0 w
  have b5 := fun w => rplain_calls s hs0 w
  have a6 := fun w => key_calls s hs0 w
  have b6 := fun w => rkey_calls s w
  obtain ⟨v1, e1⟩ : ∃ v, Sg.word s.data.toList = v := ⟨_, rfl⟩
  obtain ⟨v2, e2⟩ : ∃ v, Sg.number s.data.toList = v := ⟨_, rfl⟩
  obtain ⟨v3, e3⟩ : ∃ v, Sg.oper s.data.toList = v := ⟨_, rfl⟩
  obtain ⟨v4, e4⟩ : ∃ v, Sg.escape s.data.toList = v := ⟨_, rfl⟩
  obtain ⟨v5, e5⟩ : ∃ v, Sg.plain s.data.toList = v := ⟨_, rfl⟩
  obtain ⟨v6, e6⟩ : ∃ v, Sg.key s.data.toList = v := ⟨_, rfl⟩
  simp only [e1] at a1 b1
  simp only [e2] at a2 b2
  simp only [e3] at a3 b3
  simp only [e4] at a4 b4
  simp only [e5] at a5 b5
  simp only [e6] at a6 b6
  have a1 := Lib.hid a1; have b1 := Lib.hid b1; have a2 := Lib.hid a2; have b2 := Lib.hid b2; have a3 := Lib.hid a3; have b3 := Lib.hid b3
  have a4 := Lib.hid a4; have b4 := Lib.hid b4; have a5 := Lib.hid a5; have b5 := Lib.hid b5; have a6 := Lib.hid a6; have b6 := Lib.hid b6
  have HW := Lib.hid hw
  clear hw e1 e2 e3 e4 e5 e6
  go_enter Tryd.func18, Tryd.ntmps18
  go_wp2_with fail
  ((with_reducible refine (a1.out _).mono ?_); rintro e x1 ⟨rfl, rfl⟩)
  go_wp2_with fail
  ((with_reducible refine (b1.out _).mono ?_); rintro e x2 ⟨rfl, rfl⟩)
  go_wp2_with fail
  ((with_reducible refine (a2.out _).mono ?_); rintro e x3 ⟨rfl, h3⟩)
  go_wp2_with fail
  ((with_reducible refine (b2.out _).mono ?_); rintro e x4 ⟨rfl, rfl⟩)
  go_wp2_with fail
  ((with_reducible refine (a3.out _ (HW.out.own h3)).mono ?_); rintro e x5 ⟨rfl, h5⟩)
  go_wp2_with fail
  ((with_reducible refine (b3.out _).mono ?_); rintro e x6 ⟨rfl, h6⟩)
  go_wp2_with fail
  ((with_reducible refine (a4.out _).mono ?_); rintro e x7 ⟨rfl, h7⟩)
  go_wp2_with fail
  ((with_reducible refine (b4.out _).mono ?_); rintro e x8 ⟨rfl, h8⟩)
  go_wp2_with fail
  ((with_reducible refine (a5.out _).mono ?_); rintro e x9 ⟨rfl, h9⟩)
  go_wp2_with fail
  ((with_reducible refine (b5.out _).mono ?_); rintro e x10 ⟨rfl, h10⟩)
  go_wp2_with fail
  ((with_reducible refine (a6.out _).mono ?_); rintro e x11 ⟨rfl, h11⟩)
  go_wp2_with fail
  ((with_reducible refine (b6.out _).mono ?_); rintro e x12 ⟨rfl, h12⟩)
  go_wp2_with fail
  go_ret
  exact ⟨rfl, Below.next (Below.next (Below.next (Below.next (Below.next (Below.next (Below.next (Below.next (h3) h5 (Nat.le_refl _)) h6 (Nat.le_refl _)) h7 (Nat.le_refl _)) h8 (Nat.le_refl _)) h9 (Nat.le_refl _)) h10 (Nat.le_refl _)) h11 (Nat.le_refl _)) h12 (Nat.le_refl _)⟩

set_option maxRecDepth 100000 in
set_option maxHeartbeats 4000000 in
theorem walk_long (s : ByteArray) (hl : 200 < s.size) (v : Value) (b : Int) (w : World) (hw : OpsAt w) :
    Calls Tryd.prog 3 #[.string s, v, .int .u8 b] w fun e W' => e = .returned (.bool true) ∧ Below w.heap.size w W' := by
  have t1 : decide ((200 : Int) < (s.size : Int)) = true := decide_eq_true (by omega)
  have t1n : decide (200 < s.size) = true := decide_eq_true hl
  have HW := Lib.hid hw
  clear hw hl
  go_enter Tryd.func3, Tryd.ntmps3
  go_wp2_with fail
  ((with_reducible refine (known_calls _ HW.out).mono ?_); rintro e x1 ⟨rfl, h1⟩)
  go_wp2_with fail
  go_ret
  exact ⟨rfl, h1⟩

set_option maxRecDepth 100000 in
set_option maxHeartbeats 8000000 in
theorem walk_short (s : ByteArray) (hl : s.size ≤ 200) (v : Value) (bs : List Int) (b : Int) (w : World) (hv : law.BytesAt w v bs) (hw : OpsAt w) :
    Calls Tryd.prog 3 #[.string s, v, .int .u8 b] w fun e W' => e = .returned (.bool true) ∧ Below w.heap.size w W' := by
  have t1 : decide ((200 : Int) < (s.size : Int)) = false := decide_eq_false (by omega)
  have t1n : decide (200 < s.size) = false := decide_eq_false (by omega)
  have hf := fun W (hB : Below w.heap.size w W) => front_calls v bs W (hv.below hB)
  obtain ⟨t, hte⟩ : ∃ t, frontF bs = t := ⟨_, rfl⟩
  have hts := frontF_size bs
  rw [hte] at hf hts
  have HF := Lib.hid hf
  have c1 := fun w => letter_calls b w
  have d1 := fun w => rletter_calls b w
  have c2 := fun w => digit_calls b w
  have d2 := fun w => rdigit_calls b w
  have c3 := fun w => blank_calls b w
  have d3 := fun w => rblank_calls b w
  obtain ⟨v1, e1⟩ : ∃ v, Sg.cL b = v := ⟨_, rfl⟩
  obtain ⟨v2, e2⟩ : ∃ v, Sg.cD b = v := ⟨_, rfl⟩
  obtain ⟨v3, e3⟩ : ∃ v, Sg.cB b = v := ⟨_, rfl⟩
  simp only [e1] at c1 d1
  simp only [e2] at c2 d2
  simp only [e3] at c3 d3
  have C1 := Lib.hid c1; have D1 := Lib.hid d1; have C2 := Lib.hid c2; have D2 := Lib.hid d2; have C3 := Lib.hid c3; have D3 := Lib.hid d3
  have k0 := Lib.hid (fun w hw => asks_calls (s) (by omega) w hw)
  have k1 := Lib.hid (fun w hw => asks_calls (t) (by omega) w hw)
  have k2 := Lib.hid (fun w hw => asks_calls (⟨#[49]⟩ ++ t) (by rw [ByteArray.size_append]; have : (⟨#[49]⟩ : ByteArray).size = 1 := rfl; omega) w hw)
  have u2 : ¬ (9223372036854775807 < (⟨#[49]⟩ : ByteArray).size + t.size) := by have : (⟨#[49]⟩ : ByteArray).size = 1 := rfl; omega
  have k3 := Lib.hid (fun w hw => asks_calls (⟨#[46]⟩ ++ t) (by rw [ByteArray.size_append]; have : (⟨#[46]⟩ : ByteArray).size = 1 := rfl; omega) w hw)
  have u3 : ¬ (9223372036854775807 < (⟨#[46]⟩ : ByteArray).size + t.size) := by have : (⟨#[46]⟩ : ByteArray).size = 1 := rfl; omega
  have k4 := Lib.hid (fun w hw => asks_calls (⟨#[92]⟩ ++ t) (by rw [ByteArray.size_append]; have : (⟨#[92]⟩ : ByteArray).size = 1 := rfl; omega) w hw)
  have u4 : ¬ (9223372036854775807 < (⟨#[92]⟩ : ByteArray).size + t.size) := by have : (⟨#[92]⟩ : ByteArray).size = 1 := rfl; omega
  have k5 := Lib.hid (fun w hw => asks_calls (⟨#[97]⟩ ++ t) (by rw [ByteArray.size_append]; have : (⟨#[97]⟩ : ByteArray).size = 1 := rfl; omega) w hw)
  have u5 : ¬ (9223372036854775807 < (⟨#[97]⟩ : ByteArray).size + t.size) := by have : (⟨#[97]⟩ : ByteArray).size = 1 := rfl; omega
  have k6 := Lib.hid (fun w hw => asks_calls (⟨#[49, 46]⟩ ++ t) (by rw [ByteArray.size_append]; have : (⟨#[49, 46]⟩ : ByteArray).size = 2 := rfl; omega) w hw)
  have u6 : ¬ (9223372036854775807 < (⟨#[49, 46]⟩ : ByteArray).size + t.size) := by have : (⟨#[49, 46]⟩ : ByteArray).size = 2 := rfl; omega
  have k7 := Lib.hid (fun w hw => asks_calls (⟨#[49, 101]⟩ ++ t) (by rw [ByteArray.size_append]; have : (⟨#[49, 101]⟩ : ByteArray).size = 2 := rfl; omega) w hw)
  have u7 : ¬ (9223372036854775807 < (⟨#[49, 101]⟩ : ByteArray).size + t.size) := by have : (⟨#[49, 101]⟩ : ByteArray).size = 2 := rfl; omega
  have HW := Lib.hid hw
  clear hw hv hf hte c1 d1 c2 d2 c3 d3 e1 e2 e3 hl
  go_enter Tryd.func3, Tryd.ntmps3
  go_wp2_with fail
  ((with_reducible refine (known_calls _ HW.out).mono ?_); rintro e x1 ⟨rfl, h1⟩)
  go_wp2_with fail
  ((with_reducible refine (HF.out _ h1).mono ?_); rintro e x2 ⟨rfl, h2⟩)
  go_wp2_with fail
  ((with_reducible refine (C1.out _).mono ?_); rintro e x3 ⟨rfl, rfl⟩)
  go_wp2_with fail
  ((with_reducible refine (D1.out _).mono ?_); rintro e x4 ⟨rfl, rfl⟩)
  go_wp2_with fail
  ((with_reducible refine (C2.out _).mono ?_); rintro e x5 ⟨rfl, rfl⟩)
  go_wp2_with fail
  ((with_reducible refine (D2.out _).mono ?_); rintro e x6 ⟨rfl, rfl⟩)
  go_wp2_with fail
  ((with_reducible refine (C3.out _).mono ?_); rintro e x7 ⟨rfl, rfl⟩)
  go_wp2_with fail
  ((with_reducible refine (D3.out _).mono ?_); rintro e x8 ⟨rfl, rfl⟩)
  go_wp2_with fail
  ((with_reducible refine (k0.out _ ((HW.out.own h1).own h2)).mono ?_); rintro e x9 ⟨rfl, h9⟩)
  go_wp2_with fail
  ((with_reducible refine (k1.out _ (((HW.out.own h1).own h2).own h9)).mono ?_); rintro e x10 ⟨rfl, h10⟩)
  go_wp2_with fail
  ((with_reducible refine (k2.out _ ((((HW.out.own h1).own h2).own h9).own h10)).mono ?_); rintro e x11 ⟨rfl, h11⟩)
  go_wp2_with fail
  ((with_reducible refine (k3.out _ (((((HW.out.own h1).own h2).own h9).own h10).own h11)).mono ?_); rintro e x12 ⟨rfl, h12⟩)
  go_wp2_with fail
  ((with_reducible refine (k4.out _ ((((((HW.out.own h1).own h2).own h9).own h10).own h11).own h12)).mono ?_); rintro e x13 ⟨rfl, h13⟩)
  go_wp2_with fail
  ((with_reducible refine (k5.out _ (((((((HW.out.own h1).own h2).own h9).own h10).own h11).own h12).own h13)).mono ?_); rintro e x14 ⟨rfl, h14⟩)
  go_wp2_with fail
  ((with_reducible refine (k6.out _ ((((((((HW.out.own h1).own h2).own h9).own h10).own h11).own h12).own h13).own h14)).mono ?_); rintro e x15 ⟨rfl, h15⟩)
  go_wp2_with fail
  ((with_reducible refine (k7.out _ (((((((((HW.out.own h1).own h2).own h9).own h10).own h11).own h12).own h13).own h14).own h15)).mono ?_); rintro e x16 ⟨rfl, h16⟩)
  go_wp2_with fail
  go_ret
  exact ⟨rfl, Below.next (Below.next (Below.next (Below.next (Below.next (Below.next (Below.next (Below.next (Below.next (h1) h2 (Nat.le_refl _)) h9 (Nat.le_refl _)) h10 (Nat.le_refl _)) h11 (Nat.le_refl _)) h12 (Nat.le_refl _)) h13 (Nat.le_refl _)) h14 (Nat.le_refl _)) h15 (Nat.le_refl _)) h16 (Nat.le_refl _)⟩

theorem walk (s : ByteArray) (v : Value) (bs : List Int) (b : Int) (w : World) (hv : law.BytesAt w v bs) (hw : OpsAt w) :
    Calls Tryd.prog 3 #[.string s, v, .int .u8 b] w fun e W' => e = .returned (.bool true) ∧ Below w.heap.size w W' := by
  rcases Nat.lt_or_ge 200 s.size with h | h
  · exact walk_long s h v b w hw
  · exact walk_short s h v bs b w hv hw

set_option maxRecDepth 100000 in
theorem door_met (os : Os) (args : Array Value) : laidMetH Tryd.prog laid ((World.doorLaid Tryd.prog 14 os).forCall (fun _ _ => 0) ⟨#[], args, []⟩).memory :=
  laidMetH_of_parts3 (fuel := 8) (laidMet_of_run' 8 (by kernel_rfl) (by kernel_rfl)) (by kernel_rfl) (by kernel_rfl)

set_option maxRecDepth 100000 in
theorem lifted (os : Os) (started : os.Started) (H : Type) (enc : TypeId × Value → H) :
    ReturnsInHanded {} Tryd.checked os 3 .any (fun w args => (Rows.signAsksSpec.pre enc Tryd.prog Tryd.f3 Rows.signAsksRow.domain false w args ∧ laidMetH Tryd.prog laid w) ∧ sizedMet enc Tryd.prog Tryd.f3 (OpenSpec.ofChange Rows.signAsksSpec) false w args) (Rows.signAsksSpec.post enc Tryd.prog Tryd.f3 false true false false) := by
  refine returnsInHanded_of_change_and (C := Tryd.checked) (X := fun w _ => laidMetH Tryd.prog laid w) (fun _ _ _ hh h => h.of_heap hh) law.own started (by kernel_rfl) Tryd.func3
    (ChangeSpec.witness_shaped (enc := enc) (C := Tryd.checked) (os := os) (X := fun w _ => laidMetH Tryd.prog laid w) false (World.doorLaid Tryd.prog 14 os) #[.string ⟨#[]⟩, .slice none 0 0, .int .u8 0] 8 rfl (World.shaped_of_RefB (by kernel_rfl) (by kernel_rfl)) (by kernel_rfl) (by kernel_rfl) (by kernel_rfl) (door_met os _)) ?_
  intro W base args ds gs before hval0 hW _ hsize0 hL _
  have hsize : (DataW.weightsEach Tryd.prog (Tryd.f3.params.toList ++ _) (ds ++ gs)).all (· ≤ reachBytes) = true := hsize0
  have hOps := ops_of_laid hL
  have hval : ∀ (j : Nat) t v, Tryd.f3.params[j]? = some t → args[j]? = some v → Value.okWide Tryd.prog W .any base t v := hval0
  have hW' := hW
  obtain ⟨p, q, hA0, hV, rfl, _, _⟩ := hW
  have hA : DataW.TrodAll enc Tryd.prog W 0 (fun _ => true) true Tryd.f3.params.toList args.toList ds p := hA0
  rw [Tryd.params3] at hA hval
  obtain ⟨v0, vs0, d0, ds0, p0, q0, hargs, rfl, rfl, h0, r0⟩ := trodAll_cons hA
  obtain ⟨v1, vs1, d1, ds1, p1, q1, rfl, rfl, rfl, h1, r1⟩ := trodAll_cons r0
  obtain ⟨v2, vs2, d2, ds2, p2, q2, rfl, rfl, rfl, h2, r2⟩ := trodAll_cons r1
  obtain ⟨rfl, rfl, rfl⟩ := trodAll_nil r2
  obtain rfl : args = #[v0, v1, v2] := by cases args; simp_all
  obtain ⟨rfl, rfl⟩ := trodVars_none hV
  obtain ⟨s, rfl, rfl, rfl, ws⟩ := open_string Tryd.underlying9 (hval 0 9 v0 rfl rfl) h0
  obtain ⟨bs, hbs⟩ := law.open_bytes (hval 1 22 v1 rfl rfl) h1
  obtain ⟨x, rfl, rfl, rfl, wx⟩ := open_int Tryd.underlying5 (hval 2 5 v2 rfl rfl) h2
  clear hL
  refine (walk s v1 bs x W hbs hOps).mono fun e W' ⟨he, hb⟩ => ⟨_, he, ?_⟩
  exact law.law_post rfl hW' rfl (by kernel_rfl) (by kernel_rfl) hb

/-- SignAsks, for every input. -/
theorem holds : Rows.SignAsksSaid :=
  OpenClaim.holds_of_wide 3 Tryd.f3 rfl rfl rfl rfl rfl rfl rfl ⟨rfl, rfl, rfl, rfl, rfl⟩ rfl rfl rfl rfl rfl (by kernel_rfl) Tryd.func3 (by kernel_rfl)
    (of_decide_eq_true (by kernel_rfl)) (by unfold Func.isWrapper; first | (rw [if_pos (by decide +kernel)]; kernel_rfl) | (rw [if_neg (by decide +kernel)]; exact ⟨rfl, rfl⟩))
    (fun os started H enc _ => lifted os started H enc)

/-- The tied card of SignAsks. -/
theorem card : Rows.SignAsksCardSaid :=
  Claim7.holds_tied_plain_at .later [] [.data] true Rows.signAsksCard.stood.harness false
    holds (fun _ h => by cases h) (by kernel_rfl) (fun _ h => by cases h) signAsks_row_tie rfl ⟨rfl, rfl⟩ (by kernel_rfl) rfl
    (fun f fn hf hfn => by
      obtain rfl : f = 3 := Option.some.inj ((show Tryd.prog.funcNamed "subeditor/subeditorlaw03.SignAsks" = some 3 by kernel_rfl).symm.trans hf) |>.symm
      obtain rfl : fn = Tryd.f3 := (Option.some.inj (Tryd.func3.symm.trans hfn)).symm
      exact ⟨by kernel_rfl, fun j t ht => by
        rw [Tryd.params3] at ht
        have hm := List.mem_toArray.1 (Array.mem_of_getElem? ht)
        have hall : (Tryd.f3.params.toList.all fun u => !Tryd.prog.wantsStandIn u) = true := by kernel_rfl
        rw [show Tryd.f3.params.toList = _ from congrArg Array.toList Tryd.params3] at hall
        exact (show Tryd.prog.wantsStandIn t = false by simpa using List.all_eq_true.1 hall t hm)⟩)
    (by kernel_rfl)
end Go.Proofs.YtdhmcfhpadabaaaDoor.signAsks
