/-
  subeditorlaw02.EditDiffs: for every input it returns true, and the arguments read as they did. No condition.
-/
import Derived.Test.YtepniobmhplphaaEdRef2
import Derived.SizedLaws
namespace Go.Proofs.Ytepniobmhplphaa.editDiffs
open Go.RowKit Go.ChangeShapes Go.WideShapes Go.ChangeAt Go.ChangeMaps
open ed
set_option linter.unusedVariables false


theorem drew_bel {w w' : World} (h : ∃ nq, w' = w.drewN nq) : Below w.heap.size w w' := by obtain ⟨nq, rfl⟩ := h; exact bel_drewN (Below.refl _ _) _
theorem applyR_size (s : ByteArray) (es : List Ed) : (applyR s es).1.size ≤ s.size + sumX es := by
  unfold applyR
  split
  · rename_i hr
    have hrG : rightG (-1) 0 s.size es = true := by unfold rightF at hr; rw [Bool.and_eq_true] at hr; exact hr.2
    have h1 := madeL_len s (-1) 0 s.size es hrG (by omega)
    have h2 := right_bd (-1) 0 s.size es hrG (by omega) (by omega)
    have h3 := piece_size s (lastT 0 es) s.size
    show (madeAll s es).toArray.size ≤ _
    unfold madeAll
    rw [List.size_toArray, List.length_append, size_toList]
    omega
  · show 0 ≤ _
    omega

set_option maxRecDepth 100000 in
set_option maxHeartbeats 4000000 in
theorem walk (a b : ByteArray) (ha : a.size ≤ reachBytes) (hb : b.size ≤ reachBytes) (v : Value) (bs : List Int) (w : World) (hv : law.BytesAt w v bs) :
    Calls Try.prog 4 #[.string a, .string b, v] w fun e w' => e = .returned (.bool true) ∧ Below w.heap.size w w' := by
  unfold reachBytes at ha hb
  by_cases h400 : (400 : Int) < (a.size : Int) + b.size
  · have t0 : decide ((400 : Int) < (a.size : Int) + b.size) = true := decide_eq_true h400
    clear hv
    go_enter Try.func4, Try.ntmps4
    go_wp2_with fail
    ((with_reducible refine (known_calls _).mono ?_); rintro e w1 ⟨rfl, hb1⟩)
    go_wp2_with fail
    go_ret
    exact ⟨rfl, hb1⟩
  · have t0 : decide ((400 : Int) < (a.size : Int) + b.size) = false := decide_eq_false h400
    have hsm := edsF_small bs (a.size : Int) (by omega)
    have hln := edsF_length bs (a.size : Int)
    have HED := Lib.hid (fun w' (h : law.BytesAt w' v bs) => edits_calls v bs a.size (by omega) w' h)
    generalize edsF bs (a.size : Int) = es at hsm hln HED
    have hsx := sumX_small es hsm
    have hsz := applyR_size a es
    have HAP := Lib.hid (fun v w (h : EdsAt w.heap.size w v es) => refApply_calls a v es w.heap.size w h (by omega))
    generalize applyR a es = r at hsz HAP
    obtain ⟨t, f⟩ := r
    have hsz' : t.size ≤ a.size + sumX es := hsz
    have HD1 := Lib.hid (diff_calls a b (by omega) (by omega))
    have HD2 := Lib.hid (refDiff_calls a b (by omega) (by omega))
    have HD3 := Lib.hid (diff_calls a t (by omega) (by omega))
    have HD4 := Lib.hid (refDiff_calls a t (by omega) (by omega))
    have HV := Lib.hid hv
    clear hv hsm hsz
    go_enter Try.func4, Try.ntmps4
    go_wp2_with fail
    ((with_reducible refine (known_calls _).mono ?_); rintro e w1 ⟨rfl, hb1⟩)
    go_wp2_with fail
    ((with_reducible refine (HED.out _ (HV.out.below hb1)).mono ?_); rintro e w2 ⟨u, rfl, hu, hb2⟩)
    go_wp2_with fail
    ((with_reducible refine (HAP.out _ _ hu).mono ?_); rintro e w3 ⟨rfl, hb3⟩)
    replace hb3 := drew_bel hb3
    clear hu
    go_wp2_with fail
    ((with_reducible refine (HD1.out _).mono ?_); rintro e w4 ⟨v1, rfl, hv1, hb4⟩)
    go_wp2_with fail
    ((with_reducible refine (HD2.out _).mono ?_); rintro e w5 ⟨v2, rfl, hv2, hb5⟩)
    go_wp2_with fail
    ((with_reducible refine (refSame_calls v1 v2 _ _ _ _ (hv1.next hb5) hv2).mono ?_); rintro e w6 ⟨rfl, hb6⟩)
    replace hb6 := drew_bel hb6
    clear hv1 hv2
    go_wp2_with fail
    ((with_reducible refine (HD3.out _).mono ?_); rintro e w7 ⟨v3, rfl, hv3, hb7⟩)
    go_wp2_with fail
    ((with_reducible refine (HD4.out _).mono ?_); rintro e w8 ⟨v4, rfl, hv4, hb8⟩)
    go_wp2_with fail
    ((with_reducible refine (refSame_calls v3 v4 _ _ _ _ (hv3.next hb8) hv4).mono ?_); rintro e w9 ⟨rfl, hb9⟩)
    replace hb9 := drew_bel hb9
    clear hv3 hv4
    go_wp2_with fail
    go_ret
    exact ⟨rfl, Below.step (Below.step (Below.step (Below.step (Below.step (Below.step (Below.step (Below.step hb1 hb2) hb3) hb4) hb5) hb6) hb7) hb8) hb9⟩

set_option maxRecDepth 100000 in
theorem lifted (os : Os) (started : os.Started) (H : Type) (enc : TypeId × Value → H) :
    ReturnsInHanded {} Try.checked os 4 .any (Rows.editDiffsSpec.pre6 enc Try.prog Try.f4 Rows.editDiffsRow.domain false) (Rows.editDiffsSpec.post enc Try.prog Try.f4 false true false false) := by
  refine returnsInHanded_of_change_sized (C := Try.checked) law.own started (by kernel_rfl) Try.func4
    (ChangeSpec.witness6 (enc := enc) (C := Try.checked) false ⟨#[], #[.string ⟨#[]⟩, .string ⟨#[]⟩, .slice none 0 0], []⟩ 8 (by kernel_rfl) (by kernel_rfl) (by kernel_rfl) (by kernel_rfl)) ?_
  intro W base args ds gs before hval0 hW _ hsize0 _
  have hsize : (DataW.weightsEach Try.prog (Try.f4.params.toList ++ _) (ds ++ gs)).all (· ≤ reachBytes) = true := hsize0
  have hval : ∀ (j : Nat) t v, Try.f4.params[j]? = some t → args[j]? = some v → Value.okWide Try.prog W .any base t v := hval0
  have hW' := hW
  obtain ⟨p, q, hA0, hV, rfl, _, _⟩ := hW
  have hA : DataW.TrodAll enc Try.prog W 0 (fun _ => true) true Try.f4.params.toList args.toList ds p := hA0
  rw [Try.params4] at hA hval hsize
  obtain ⟨v0, vs0, d0, ds0, p0, q0, hargs, rfl, rfl, h0, r0⟩ := trodAll_cons hA
  obtain ⟨v1, vs1, d1, ds1, p1, q1, rfl, rfl, rfl, h1, r1⟩ := trodAll_cons r0
  obtain ⟨v2, vs2, d2, ds2, p2, q2, rfl, rfl, rfl, h2, r2⟩ := trodAll_cons r1
  obtain ⟨rfl, rfl, rfl⟩ := trodAll_nil r2
  obtain rfl : args = #[v0, v1, v2] := by cases args; simp_all
  obtain ⟨rfl, rfl⟩ := trodVars_none hV
  obtain ⟨a, rfl, rfl, rfl, _⟩ := open_string Try.underlying9 (hval 0 9 v0 rfl rfl) h0
  obtain ⟨b, rfl, rfl, rfl, _⟩ := open_string Try.underlying9 (hval 1 9 v1 rfl rfl) h1
  obtain ⟨bs, hbs⟩ := law.open_bytes (hval 2 23 v2 rfl rfl) h2
  have ha := sized_string hsize (j := 0) (t := 9) rfl rfl
  have hb := sized_string hsize (j := 1) (t := 9) rfl rfl
  rw [size_toList] at ha hb
  refine (walk a b ha hb v2 bs W hbs).mono fun e W' ⟨he, hb⟩ => ⟨_, he, ?_⟩
  exact law.law_post rfl hW' rfl (by kernel_rfl) (by kernel_rfl) hb

/-- EditDiffs, for every input. -/
theorem holds : Rows.EditDiffsSaid :=
  OpenClaim.holds_of_wide 4 Try.f4 rfl rfl rfl rfl rfl rfl rfl ⟨rfl, rfl, rfl, rfl, rfl⟩ rfl rfl rfl rfl rfl (by kernel_rfl) Try.func4 (by kernel_rfl)
    (of_decide_eq_true (by kernel_rfl)) (by unfold Func.isWrapper; first | (rw [if_pos (by decide +kernel)]; kernel_rfl) | (rw [if_neg (by decide +kernel)]; exact ⟨rfl, rfl⟩))
    (fun os started H enc _ => lifted os started H enc)
end Go.Proofs.Ytepniobmhplphaa.editDiffs
