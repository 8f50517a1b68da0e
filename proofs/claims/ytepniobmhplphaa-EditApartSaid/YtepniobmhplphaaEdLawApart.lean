/-
  subeditorlaw02.EditApart: for every input it returns true, and the arguments read as they did. No condition.
-/
import Derived.Test.YtepniobmhplphaaEdMath2
import Derived.Test.YtepniobmhplphaaEdIn
namespace Go.Proofs.Ytepniobmhplphaa.editApart
open Go.RowKit Go.ChangeShapes Go.WideShapes Go.ChangeAt Go.ChangeMaps
open ed
set_option linter.unusedVariables false


theorem apply_at (s : ByteArray) (v : Value) (es : List Ed) (w : World) (hes : EdsAt w.heap.size w v es) (hsum : s.size + sumX es ≤ 140737488355328) (x : ByteArray) (f : Int) (hr : applyR s es = (x, f)) :
    Calls Try.prog 23 #[.string s, v] w fun e W' => e = .returned (.tuple #[.string x, .int .u16 f]) ∧ Below w.heap.size w W' := by
  have h := apply_calls s v es w hes hsum
  rw [hr] at h
  exact h

set_option maxRecDepth 100000 in
set_option maxHeartbeats 4000000 in
theorem walk (s : ByteArray) (v : Value) (bs : List Int) (w : World) (hv : law.BytesAt w v bs) :
    Calls Try.prog 9 #[.string s, v] w fun e w' => e = .returned (.bool true) ∧ Below w.heap.size w w' := by
  by_cases h200 : (200 : Int) < (s.size : Int)
  · have t0 : decide ((200 : Int) < (s.size : Int)) = true := decide_eq_true h200
    clear hv
    go_enter Try.func9, Try.ntmps9
    go_wp2_with fail
    ((with_reducible refine (known_calls _).mono ?_); rintro e w1 ⟨rfl, hb1⟩)
    go_wp2_with fail
    go_ret
    exact ⟨rfl, hb1⟩
  · have t0 : decide ((200 : Int) < (s.size : Int)) = false := decide_eq_false h200
    have HED := Lib.hid (edits_calls v bs s.size (by omega) w hv)
    have hsm := edsF_small bs (s.size : Int) (by omega)
    have hln := edsF_length bs (s.size : Int)
    generalize edsF bs (s.size : Int) = es at hsm hln HED
    have hsx := sumX_small es hsm
    clear hv
    by_cases hr : rightF es s.size = true
    · have hap : applyR s es = (⟨(madeAll s es).toArray⟩, 0) := by unfold applyR; rw [if_pos hr]
      have hrG : rightG (-1) 0 s.size es = true := by unfold rightF at hr; rw [Bool.and_eq_true] at hr; exact hr.2
      have hlen := madeAll_len s es hrG
      have hend := shift_end s es hrG hsm (by omega) (by omega)
      obtain ⟨f0, f1, f2, f3⟩ := made_front s es hrG
      obtain ⟨T, hT⟩ : ∃ T : ByteArray, (⟨(madeAll s es).toArray⟩ : ByteArray) = T := ⟨_, rfl⟩
      have hTl : T.data.toList = madeAll s es := by rw [← hT]
      rw [← hTl] at hlen f2 f3
      rw [hT] at hap
      rw [size_toList] at hlen f2
      have HAP := Lib.hid (fun v w (h : EdsAt w.heap.size w v es) => apply_at s v es w h (by omega) T 0 hap)
      have HSH := Lib.hid (fun v w (h : EdsAt w.heap.size w v es) => shift_calls v es s.size w h (T.size : Int) (by rw [hend, hlen]))
      obtain ⟨F, hF⟩ : ∃ F : Nat, firstF s es = (F : Int) := ⟨(firstF s es).toNat, by omega⟩
      rw [hF] at f1 f2 f3
      rw [Int.toNat_natCast] at f3
      have hex : T.extract 0 F = s.extract 0 F := ba_ext (by rw [ext_toList, ext_toList, f3])
      have hsg := sumG_small es hsm
      have HS := Lib.hid hsm; have HL := Lib.hid hlen; have HX := Lib.hid hex; have HFF := Lib.hid hF; have HSG := Lib.hid hsg; have HTF := Lib.hid f2
      clear hT hTl hap hrG hlen hend f0 f3 hex hr hsm hF hsg f2
      go_enter Try.func9, Try.ntmps9
      go_wp2_with fail
      ((with_reducible refine HED.out.mono ?_); rintro e w1 ⟨u, rfl, hu, hb1⟩)
      go_wp2_with fail
      ((with_reducible refine (HAP.out _ _ hu).mono ?_); rintro e w2 ⟨rfl, hb2⟩)
      have hu2 := hu.next hb2
      have HU := Lib.hid hu2
      obtain ⟨ao, cap, rfl, hmax, hcells⟩ := hu2
      have HC := Lib.hid hcells
      have hB2 := Below.step hb1 hb2
      clear hu hcells hb1 hb2
      go_wp2_with fail
      go_loopw [8, 9] (fun a i wr => ∃ k nq : Nat, i = .int .i64 (k : Int) ∧ a = .int .i64 (sumG (es.take k)) ∧ k ≤ es.length ∧ wr = w2.drewN nq) (fun _ i _ => es.length - (intOf i).toNat)
      case atStart => exact ⟨0, 0, rfl, rfl, Nat.zero_le _, rfl⟩
      case round =>
        obtain ⟨k, nq, rfl, rfl, hk, rfl⟩ := hrel
        by_cases hlt : k < es.length
        · have hltI : (k : Int) < (es.length : Int) := by omega
          have h0I : (0 : Int) ≤ (k : Int) := by omega
          obtain ⟨e, hel⟩ : ∃ e, es[k]? = some e := ⟨es[k], by simp [hlt]⟩
          obtain ⟨g, o, rfl, _, c0, c1, c2⟩ := HC.out k e hel
          have hse := HS.out e (List.mem_of_getElem? hel)
          obtain ⟨q1, q2, q3, q4⟩ := hse
          have htk := sumG_small (es.take k) (fun x hx => HS.out x (List.mem_of_mem_take hx))
          have htl : (es.take k).length = k := by rw [List.length_take]; omega
          rw [htl] at htk
          have hsn : sumG (es.take (k + 1)) = sumG (es.take k) + growI e := by rw [List.take_add_one, hel, sumG_append]; simp [sumG]
          have HSN := Lib.hid hsn
          generalize sumG (es.take k) = M at htk HSN
          have w1 : wrap64 (e.t - e.f) = e.t - e.f := IntWalk.wrap64_in _ (by omega)
          have w2 : wrap64 ((e.x.size : Int) - (e.t - e.f)) = (e.x.size : Int) - (e.t - e.f) := IntWalk.wrap64_in _ (by omega)
          have w3 : wrap64 (M + ((e.x.size : Int) - (e.t - e.f))) = M + ((e.x.size : Int) - (e.t - e.f)) := IntWalk.wrap64_in _ (by omega)
          clear hel hsn htl
          go_wp2_with fail
          go_quiet (fail)
          rename_i nq2
          rw [World.drewN_drewN]
          go_wp2_with fail
          go_roundw
          case rel => exact ⟨k + 1, _, by go_num, by rw [HSN.out]; rfl, by omega, rfl⟩
          case measure => simp [intOf]; omega
        · have hkl : k = es.length := by omega
          subst hkl
          rw [List.take_length]
          have hge : decide ((es.length : Int) < (es.length : Int)) = false := by simp
          have hu3 := HU.out.next (Below.step (Below.refl _ w2) (bel_drewN (Below.refl _ w2) nq))
          obtain ⟨W3, hW3⟩ : ∃ W3, w2.drewN nq = W3 := ⟨_, rfl⟩
          rw [hW3] at hu3 ⊢
          have hB3 : Below w.heap.size w W3 := by rw [← hW3]; exact bel_drewN hB2 nq
          have HU3 := Lib.hid hu3; have HB3 := Lib.hid hB3
          have hl := HL.out
          obtain ⟨M, hM⟩ : ∃ M, sumG es = M := ⟨_, rfl⟩
          have hsg := HSG.out
          rw [hM] at hl hsg ⊢
          have w5 : wrap64 ((s.size : Int) + M) = (T.size : Int) := by rw [IntWalk.wrap64_in _ (by omega)]; omega
          have w6 : IntKind.i64.wrap ((s.size : Int) + M) = (T.size : Int) := (IntWalk.i64_left _).trans w5
          have t6 : ((T.size : Int) == (s.size : Int) + M) = true := by rw [beq_iff_eq]; omega
          have hFT : (F : Int) ≤ (T.size : Int) := HTF.out
          have hFs : (F : Int) ≤ (s.size : Int) := f1
          have hFF := HFF.out
          have hXX := HX.out
          have hin : ∀ y : In W3, EdsAt y.u.heap.size y.u (.slice ao es.length cap) es := fun y => HU3.out.next y.h
          have HIN := Lib.hid hin
          have HSH2 := Lib.hid HSH.out
          clear hW3 hl hu3 hB3 hlt hk hin hM hsg HSG HL HS HED HAP HU HC HX HFF HTF HSH f1 hsx hln hmax
          cases es with
          | nil =>
            have hFn : F = s.size := by have : (s.size : Int) = (F : Int) := hFF; omega
            subst hFn
            clear hFF
            simp only [List.length_nil] at HIN ⊢
            go_wp2_with fail
            refine ed.wp_region_in (by kernel_rfl) (by kernel_rfl) ?_
            repeat (go_big_quiet_step (first | (go_at_call 12; refine ed.Calls.in_of (known_calls _)) | (go_at_call 17; refine ed.Calls.in_of (HSH2.out _ _ (HIN.out _)))))
            with_reducible refine wpQuiet_nil ?_
            rintro _ ⟨y, rfl⟩
            go_wp2_with fail
            go_ret
            exact ⟨rfl, Below.next HB3.out y.h (Nat.le_refl _)⟩
          | cons e r =>
            obtain ⟨g, o, hao, _, c0, c1, c2⟩ := (show ∃ g o, ao = some ⟨g, o, none⟩ ∧ _ from by
              obtain ⟨ao', cap', hv', _, hc'⟩ := HU3.out
              cases hv'
              exact hc' 0 e rfl)
            subst hao
            simp only [Nat.zero_mul, Nat.add_zero] at c0 c1 c2
            have hef : e.f = (F : Int) := hFF
            rw [hef] at c0
            have hpos : (0 : Int) < ((e :: r).length : Int) := by simp only [List.length_cons]; omega
            have hposd : decide ((0 : Int) < ((e :: r).length : Int)) = true := decide_eq_true hpos
            generalize (e :: r).length = L at HIN hpos hposd ⊢
            clear hFF hef c1 c2
            go_wp2_with fail
            refine ed.wp_region_in (by kernel_rfl) (by kernel_rfl) ?_
            repeat (go_big_quiet_step (first | (go_at_call 12; refine ed.Calls.in_of (known_calls _)) | (go_at_call 17; refine ed.Calls.in_of (HSH2.out _ _ (HIN.out _)))))
            with_reducible refine wpQuiet_nil ?_
            rintro _ ⟨y, rfl⟩
            go_wp2_with fail
            go_ret
            exact ⟨rfl, Below.next HB3.out y.h (Nat.le_refl _)⟩
    · have hap : applyR s es = (⟨#[]⟩, 1) := by unfold applyR; rw [if_neg hr]
      have HAP := Lib.hid (fun v w (h : EdsAt w.heap.size w v es) => apply_at s v es w h (by omega) ⟨#[]⟩ 1 hap)
      clear hap hr hsm
      go_enter Try.func9, Try.ntmps9
      go_wp2_with fail
      ((with_reducible refine HED.out.mono ?_); rintro e w1 ⟨u, rfl, hu, hb1⟩)
      go_wp2_with fail
      ((with_reducible refine (HAP.out _ _ hu).mono ?_); rintro e w2 ⟨rfl, hb2⟩)
      clear hu
      go_wp2_with fail
      ((with_reducible refine (known_calls _).mono ?_); rintro e w3 ⟨rfl, hb3⟩)
      go_wp2_with fail
      go_ret
      exact ⟨rfl, Below.step (Below.step hb1 hb2) hb3⟩

set_option maxRecDepth 100000 in
theorem lifted (os : Os) (started : os.Started) (H : Type) (enc : TypeId × Value → H) :
    ReturnsInHanded {} Try.checked os 9 .any (Rows.editApartSpec.pre6 enc Try.prog Try.f9 Rows.editApartRow.domain false) (Rows.editApartSpec.post enc Try.prog Try.f9 false true false false) := by
  refine returnsInHanded_of_change (C := Try.checked) law.own started (by kernel_rfl) Try.func9
    (ChangeSpec.witness6 (enc := enc) (C := Try.checked) false ⟨#[], #[.string ⟨#[]⟩, .slice none 0 0], []⟩ 8 (by kernel_rfl) (by kernel_rfl) (by kernel_rfl) (by kernel_rfl)) ?_
  intro W base args ds gs before hval0 hW _ _
  have hval : ∀ (j : Nat) t v, Try.f9.params[j]? = some t → args[j]? = some v → Value.okWide Try.prog W .any base t v := hval0
  have hW' := hW
  obtain ⟨p, q, hA0, hV, rfl, _, _⟩ := hW
  have hA : DataW.TrodAll enc Try.prog W 0 (fun _ => true) true Try.f9.params.toList args.toList ds p := hA0
  rw [Try.params9] at hA hval
  obtain ⟨v0, v1, d0, d1, p0, p1, rfl, rfl, rfl, h0, h1⟩ := trodAll_two hA
  obtain ⟨rfl, rfl⟩ := trodVars_none hV
  obtain ⟨s, rfl, rfl, rfl, _⟩ := open_string Try.underlying9 (hval 0 9 v0 rfl rfl) h0
  obtain ⟨bs, hbs⟩ := law.open_bytes (hval 1 23 v1 rfl rfl) h1
  refine (walk s v1 bs W hbs).mono fun e W' ⟨he, hb⟩ => ⟨_, he, ?_⟩
  exact law.law_post rfl hW' rfl (by kernel_rfl) (by kernel_rfl) hb

/-- EditApart, for every input. -/
theorem holds : Rows.EditApartSaid :=
  OpenClaim.holds_of_wide 9 Try.f9 rfl rfl rfl rfl rfl rfl rfl ⟨rfl, rfl, rfl, rfl, rfl⟩ rfl rfl rfl rfl rfl (by kernel_rfl) Try.func9 (by kernel_rfl)
    (of_decide_eq_true (by kernel_rfl)) (by unfold Func.isWrapper; first | (rw [if_pos (by decide +kernel)]; kernel_rfl) | (rw [if_neg (by decide +kernel)]; exact ⟨rfl, rfl⟩))
    (fun os started H enc _ => lifted os started H enc)
end Go.Proofs.Ytepniobmhplphaa.editApart
