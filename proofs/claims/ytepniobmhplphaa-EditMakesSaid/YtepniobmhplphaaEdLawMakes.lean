/-
  subeditorlaw02.EditMakes: for every input it returns true, and the arguments read as they did. No condition.
-/
import Derived.Test.YtepniobmhplphaaEdMakes
import Derived.Test.YtepniobmhplphaaEdOpen
namespace Go.Proofs.Ytepniobmhplphaa.editMakes
open Go.RowKit Go.ChangeShapes Go.WideShapes Go.ChangeAt Go.ChangeMaps
open ed
set_option linter.unusedVariables false


theorem drew_bel {w w' : World} (h : ∃ nq, w' = w.drewN nq) : Below w.heap.size w w' := by obtain ⟨nq, rfl⟩ := h; exact bel_drewN (Below.refl _ _) _
theorem heavy_at (v : Value) (es : List Ed) (b : Bool) (hb : heavyF es = b) (w : World) (hes : EdsAt w.heap.size w v es) :
    Calls Try.prog 11 #[v] w fun e W' => e = .returned (.bool b) ∧ Below w.heap.size w W' := by
  subst hb
  exact (heavy_calls v es _ w hes).mono fun e W' ⟨he, hd⟩ => ⟨he, drew_bel hd⟩
theorem right_at (v : Value) (es : List Ed) (A : Int) (w : World) (hes : EdsAt w.heap.size w v es) :
    Calls Try.prog 15 #[v, .int .i64 A] w fun e W' => e = .returned (.bool (rightF es A)) ∧ Below w.heap.size w W' := right_calls v es A w hes _ rfl
theorem refRight_at (v : Value) (es : List Ed) (A : Int) (w : World) (hes : EdsAt w.heap.size w v es) :
    Calls Try.prog 16 #[v, .int .i64 A] w fun e W' => e = .returned (.bool (rightF es A)) ∧ Below w.heap.size w W' :=
  (refRight_calls v es A _ w hes).mono fun e W' ⟨he, hd⟩ => ⟨he, drew_bel hd⟩
theorem refShift_at (v : Value) (es : List Ed) (A : Int) (w : World) (hes : EdsAt w.heap.size w v es) :
    Calls Try.prog 18 #[v, .int .i64 A] w fun e W' => e = .returned (.int .i64 (rshG A 0 es)) ∧ Below w.heap.size w W' :=
  (refShift_calls v es A _ w hes).mono fun e W' ⟨he, hd⟩ => ⟨he, drew_bel hd⟩

set_option maxRecDepth 100000 in
set_option maxHeartbeats 4000000 in
theorem walk (s : ByteArray) (v : Value) (es : List Ed) (hz : ∀ e ∈ es, e.x.size ≤ 140737488355328) (n at' : Int) (hn : -9223372036854775808 ≤ n ∧ n ≤ 9223372036854775807) (ha : -9223372036854775808 ≤ at' ∧ at' ≤ 9223372036854775807)
    (c : Value) (bs : List Int) (k : Int) (hk : 0 ≤ k ∧ k ≤ 255) (w : World) (hes : EdsAt w.heap.size w v es) (hv : law.BytesAt w c bs) :
    Calls Try.prog 3 #[.string s, v, .int .i64 n, .int .i64 at', c, .int .u8 k] w fun e w' => e = .returned (.bool true) ∧ Below w.heap.size w w' := by
  by_cases h300 : (300 : Int) < (s.size : Int)
  · have t0 : decide ((300 : Int) < (s.size : Int)) = true := decide_eq_true h300
    clear hv hes
    go_enter Try.func3, Try.ntmps3
    go_wp2_with fail
    ((with_reducible refine (known_calls _).mono ?_); rintro e w1 ⟨rfl, hb1⟩)
    go_wp2_with fail
    go_ret
    exact ⟨rfl, hb1⟩
  · have t0 : decide ((300 : Int) < (s.size : Int)) = false := decide_eq_false h300
    cases hh : heavyF es with
    | true =>
      have HV := Lib.hid (heavy_at v es true hh w hes)
      clear hv hes hh
      go_enter Try.func3, Try.ntmps3
      go_wp2_with fail
      ((with_reducible refine HV.out.mono ?_); rintro e w1 ⟨rfl, hb1⟩)
      go_wp2_with fail
      ((with_reducible refine (known_calls _).mono ?_); rintro e w2 ⟨rfl, hb2⟩)
      go_wp2_with fail
      go_ret
      exact ⟨rfl, Below.step hb1 hb2⟩
    | false =>
      have HHV := Lib.hid (heavy_at v es false hh w hes)
      have hle : rightF es s.size = true → sumX es ≤ 300 := fun hr => heavy_light hh (by unfold rightF at hr; rw [Bool.and_eq_true] at hr; exact of_decide_eq_true hr.1) hz
      have HMS := Lib.hid (fun v w (h : EdsAt w.heap.size w v es) => makes_calls s (by omega) es hle v w h)
      have HRS := Lib.hid (fun A v w (h : EdsAt w.heap.size w v es) => right_at v es A w h)
      have HQS := Lib.hid (fun A v w (h : EdsAt w.heap.size w v es) => refRight_at v es A w h)
      have HED := Lib.hid (fun w' (h : law.BytesAt w' c bs) => edits_calls c bs s.size (by omega) w' h)
      have hsm := edsF_small bs (s.size : Int) (by omega)
      have hln := edsF_length bs (s.size : Int)
      generalize edsF bs (s.size : Int) = ms at hsm hln HED
      have hsx := sumX_small ms hsm
      have HMM := Lib.hid (fun v w (h : EdsAt w.heap.size w v ms) => makes_calls s (by omega) ms (fun _ => by omega) v w h)
      have HRM := Lib.hid (fun A v w (h : EdsAt w.heap.size w v ms) => right_at v ms A w h)
      have HQM := Lib.hid (fun A v w (h : EdsAt w.heap.size w v ms) => refRight_at v ms A w h)
      have HV := Lib.hid hv
      cases hr : rightF ms s.size with
      | false =>
        have HQX := Lib.hid (fun v w (h : EdsAt w.heap.size w v ms) => (by have := refRight_at v ms s.size w h; rw [hr] at this; exact this : Calls Try.prog 16 #[v, .int .i64 s.size] w fun e W' => e = .returned (.bool false) ∧ Below w.heap.size w W'))
        clear hv hh hz hle hsm hln hsx hr
        go_enter Try.func3, Try.ntmps3
        go_wp2_with fail
        ((with_reducible refine HHV.out.mono ?_); rintro e w1 ⟨rfl, hb1⟩)
        have hl1 := hes.next hb1
        go_wp2_with fail
        ((with_reducible refine (known_calls _).mono ?_); rintro e w2 ⟨rfl, hb2⟩)
        have hl2 := hl1.next hb2
        go_wp2_with fail
        ((with_reducible refine (HED.out _ (HV.out.below (Below.step hb1 hb2))).mono ?_); rintro e w3 ⟨m, rfl, hm3, hb3⟩)
        have hl3 := hl2.next hb3
        go_wp2_with fail
        ((with_reducible refine (HMS.out _ _ hl3).mono ?_); rintro e w4 ⟨rfl, hb4⟩)
        have hl4 := hl3.next hb4
        have hm4 := hm3.next hb4
        go_wp2_with fail
        ((with_reducible refine (HMM.out _ _ hm4).mono ?_); rintro e w5 ⟨rfl, hb5⟩)
        have hl5 := hl4.next hb5
        have hm5 := hm4.next hb5
        go_wp2_with fail
        ((with_reducible refine (HRS.out _ _ _ hl5).mono ?_); rintro e w6 ⟨rfl, hb6⟩)
        have hl6 := hl5.next hb6
        have hm6 := hm5.next hb6
        go_wp2_with fail
        ((with_reducible refine (HQS.out _ _ _ hl6).mono ?_); rintro e w7 ⟨rfl, hb7⟩)
        have hm7 := hm6.next hb7
        go_wp2_with fail
        ((with_reducible refine (HRM.out _ _ _ hm7).mono ?_); rintro e w8 ⟨rfl, hb8⟩)
        have hm8 := hm7.next hb8
        go_wp2_with fail
        ((with_reducible refine (HQM.out _ _ _ hm8).mono ?_); rintro e w9 ⟨rfl, hb9⟩)
        have hm9 := hm8.next hb9
        go_wp2_with fail
        ((with_reducible refine (HQX.out _ _ hm9).mono ?_); rintro e w10 ⟨rfl, hb10⟩)
        go_wp2_with fail
        go_ret
        exact ⟨rfl, Below.step (Below.step (Below.step (Below.step (Below.step (Below.step (Below.step (Below.step (Below.step hb1 hb2) hb3) hb4) hb5) hb6) hb7) hb8) hb9) hb10⟩
      | true =>
        have HQX := Lib.hid (fun v w (h : EdsAt w.heap.size w v ms) => (by have := refRight_at v ms s.size w h; rw [hr] at this; exact this : Calls Try.prog 16 #[v, .int .i64 s.size] w fun e W' => e = .returned (.bool true) ∧ Below w.heap.size w W'))
        have hrG : rightG (-1) 0 s.size ms = true := by unfold rightF at hr; rw [Bool.and_eq_true] at hr; exact hr.2
        have HSM := Lib.hid (fun A v w (h : EdsAt w.heap.size w v ms) => shift_calls v ms A w h (rshG A 0 ms) (rsh_shift A _ _ _ 0 ms hrG).symm)
        have HTM := Lib.hid (fun A v w (h : EdsAt w.heap.size w v ms) => refShift_at v ms A w h)
        clear hv hh hz hle hsm hln hsx hr hrG
        go_enter Try.func3, Try.ntmps3
        go_wp2_with fail
        ((with_reducible refine HHV.out.mono ?_); rintro e w1 ⟨rfl, hb1⟩)
        have hl1 := hes.next hb1
        go_wp2_with fail
        ((with_reducible refine (known_calls _).mono ?_); rintro e w2 ⟨rfl, hb2⟩)
        have hl2 := hl1.next hb2
        go_wp2_with fail
        ((with_reducible refine (HED.out _ (HV.out.below (Below.step hb1 hb2))).mono ?_); rintro e w3 ⟨m, rfl, hm3, hb3⟩)
        have hl3 := hl2.next hb3
        go_wp2_with fail
        ((with_reducible refine (HMS.out _ _ hl3).mono ?_); rintro e w4 ⟨rfl, hb4⟩)
        have hl4 := hl3.next hb4
        have hm4 := hm3.next hb4
        go_wp2_with fail
        ((with_reducible refine (HMM.out _ _ hm4).mono ?_); rintro e w5 ⟨rfl, hb5⟩)
        have hl5 := hl4.next hb5
        have hm5 := hm4.next hb5
        go_wp2_with fail
        ((with_reducible refine (HRS.out _ _ _ hl5).mono ?_); rintro e w6 ⟨rfl, hb6⟩)
        have hl6 := hl5.next hb6
        have hm6 := hm5.next hb6
        go_wp2_with fail
        ((with_reducible refine (HQS.out _ _ _ hl6).mono ?_); rintro e w7 ⟨rfl, hb7⟩)
        have hm7 := hm6.next hb7
        go_wp2_with fail
        ((with_reducible refine (HRM.out _ _ _ hm7).mono ?_); rintro e w8 ⟨rfl, hb8⟩)
        have hm8 := hm7.next hb8
        go_wp2_with fail
        ((with_reducible refine (HQM.out _ _ _ hm8).mono ?_); rintro e w9 ⟨rfl, hb9⟩)
        have hm9 := hm8.next hb9
        go_wp2_with fail
        ((with_reducible refine (HQX.out _ _ hm9).mono ?_); rintro e w10 ⟨rfl, hb10⟩)
        have hm10 := hm9.next hb10
        go_wp2_with fail
        ((with_reducible refine (HSM.out _ _ _ hm10).mono ?_); rintro e w11 ⟨rfl, hb11⟩)
        have hm11 := hm10.next hb11
        go_wp2_with fail
        ((with_reducible refine (HTM.out _ _ _ hm11).mono ?_); rintro e w12 ⟨rfl, hb12⟩)
        have hm12 := hm11.next hb12
        go_wp2_with fail
        ((with_reducible refine (HSM.out _ _ _ hm12).mono ?_); rintro e w13 ⟨rfl, hb13⟩)
        have hm13 := hm12.next hb13
        go_wp2_with fail
        ((with_reducible refine (HTM.out _ _ _ hm13).mono ?_); rintro e w14 ⟨rfl, hb14⟩)
        go_wp2_with fail
        go_ret
        exact ⟨rfl, Below.step (Below.step (Below.step (Below.step (Below.step (Below.step (Below.step (Below.step (Below.step (Below.step (Below.step (Below.step (Below.step hb1 hb2) hb3) hb4) hb5) hb6) hb7) hb8) hb9) hb10) hb11) hb12) hb13) hb14⟩

set_option maxRecDepth 100000 in
theorem lifted (os : Os) (started : os.Started) (H : Type) (enc : TypeId × Value → H) :
    ReturnsInHanded {} Try.checked os 3 .any (Rows.editMakesSpec.pre6 enc Try.prog Try.f3 Rows.editMakesRow.domain false) (Rows.editMakesSpec.post enc Try.prog Try.f3 false true false false) := by
  refine returnsInHanded_of_change_sized (C := Try.checked) law.own started (by kernel_rfl) Try.func3
    (ChangeSpec.witness6 (enc := enc) (C := Try.checked) false ⟨#[], #[.string ⟨#[]⟩, .slice none 0 0, .int .i64 0, .int .i64 0, .slice none 0 0, .int .u8 0], []⟩ 8 (by kernel_rfl) (by kernel_rfl) (by kernel_rfl) (by kernel_rfl)) ?_
  intro W base args ds gs before hval0 hW _ hsize0 _
  have hsize : (DataW.weightsEach Try.prog (Try.f3.params.toList ++ _) (ds ++ gs)).all (· ≤ reachBytes) = true := hsize0
  have hval : ∀ (j : Nat) t v, Try.f3.params[j]? = some t → args[j]? = some v → Value.okWide Try.prog W .any base t v := hval0
  have hW' := hW
  obtain ⟨p, q, hA0, hV, rfl, _, _⟩ := hW
  have hA : DataW.TrodAll enc Try.prog W 0 (fun _ => true) true Try.f3.params.toList args.toList ds p := hA0
  rw [Try.params3] at hA hval hsize
  obtain ⟨v0, vs0, d0, ds0, p0, q0, hargs, rfl, rfl, h0, r0⟩ := trodAll_cons hA
  obtain ⟨v1, vs1, d1, ds1, p1, q1, rfl, rfl, rfl, h1, r1⟩ := trodAll_cons r0
  obtain ⟨v2, vs2, d2, ds2, p2, q2, rfl, rfl, rfl, h2, r2⟩ := trodAll_cons r1
  obtain ⟨v3, vs3, d3, ds3, p3, q3, rfl, rfl, rfl, h3, r3⟩ := trodAll_cons r2
  obtain ⟨v4, vs4, d4, ds4, p4, q4, rfl, rfl, rfl, h4, r4⟩ := trodAll_cons r3
  obtain ⟨v5, vs5, d5, ds5, p5, q5, rfl, rfl, rfl, h5, r5⟩ := trodAll_cons r4
  obtain ⟨rfl, rfl, rfl⟩ := trodAll_nil r5
  obtain rfl : args = #[v0, v1, v2, v3, v4, v5] := by cases args; simp_all
  obtain ⟨rfl, rfl⟩ := trodVars_none hV
  obtain ⟨s, rfl, rfl, rfl, _⟩ := open_string Try.underlying9 (hval 0 9 v0 rfl rfl) h0
  obtain ⟨es, hes, hzz⟩ := open_eds (hval 1 22 v1 rfl rfl) h1
  obtain ⟨n, rfl, rfl, rfl, hn⟩ := open_int Try.underlying3 (hval 2 3 v2 rfl rfl) h2
  obtain ⟨at', rfl, rfl, rfl, ha⟩ := open_int Try.underlying3 (hval 3 3 v3 rfl rfl) h3
  obtain ⟨bs, hbs⟩ := law.open_bytes (hval 4 23 v4 rfl rfl) h4
  obtain ⟨k, rfl, rfl, rfl, hk⟩ := open_int Try.underlying5 (hval 5 5 v5 rfl rfl) h5
  have hz : ∀ e ∈ es, e.x.size ≤ 140737488355328 := fun e he => Nat.le_trans (hzz (List.all_eq_true.2 fun m hm => List.all_eq_true.1 hsize m (DataW.weights_mem_each (j := 1) (t := 22) rfl rfl m hm)) e he) (by decide)
  refine (walk s v1 es hz n at' (law.i64_wf hn) (law.i64_wf ha) v4 bs k (law.u8_wf hk) W hes hbs).mono fun e W' ⟨he, hb⟩ => ⟨_, he, ?_⟩
  exact law.law_post rfl hW' rfl (by kernel_rfl) (by kernel_rfl) hb

/-- EditMakes, for every input. -/
theorem holds : Rows.EditMakesSaid :=
  OpenClaim.holds_of_wide 3 Try.f3 rfl rfl rfl rfl rfl rfl rfl ⟨rfl, rfl, rfl, rfl, rfl⟩ rfl rfl rfl rfl rfl (by kernel_rfl) Try.func3 (by kernel_rfl)
    (of_decide_eq_true (by kernel_rfl)) (by unfold Func.isWrapper; first | (rw [if_pos (by decide +kernel)]; kernel_rfl) | (rw [if_neg (by decide +kernel)]; exact ⟨rfl, rfl⟩))
    (fun os started H enc _ => lifted os started H enc)
end Go.Proofs.Ytepniobmhplphaa.editMakes
