/-
  subeditorlaw02.EditDiff: for every input it returns true, and the arguments read as they did. No condition.
-/
import Derived.Test.YtepniobmhplphaaEdMath
import Derived.SizedLaws
import Derived.Test.YtepniobmhplphaaEdIn
namespace Go.Proofs.Ytepniobmhplphaa.editDiff
open Go.RowKit Go.ChangeShapes Go.WideShapes Go.ChangeAt Go.ChangeMaps
open ed
set_option linter.unusedVariables false


theorem putX_size (c : Int) : (putX c).size ≤ 4 := by unfold putX; rw [ByteArray.size_extract]; have : xyzw.size = 4 := rfl; omega
theorem sumX_edsL (n : Int) : ∀ k bs at', sumX (edsL n k bs at') ≤ 4 * k
  | 0, _, _ => by simp [edsL, sumX]
  | k + 1, [], _ => by simp [edsL, sumX]
  | k + 1, [_], _ => by simp [edsL, sumX]
  | k + 1, [_, _], _ => by simp [edsL, sumX]
  | k + 1, a :: b :: c :: r, at' => by
    simp only [edsL]
    split
    · simp [sumX]
    · have := sumX_edsL n k r (nextAt (at' + a % 4) (at' + a % 4 + b % 4) c)
      have := putX_size c
      simp only [sumX]; omega
theorem sumX_edsF (bs : List Int) (n : Int) : sumX (edsF bs n) ≤ 40 := sumX_edsL n 10 bs 0
theorem sumX_diff (a b : ByteArray) : sumX (diffF a b) ≤ b.size := by
  unfold diffF
  split
  · simp [sumX]
  · simp only [sumX, ByteArray.size_extract]; omega
theorem toList_ne {a b : ByteArray} (h : ¬ a = b) : (a.toList == b.toList) = false := by
  rw [beq_eq_false_iff_ne, Lib.toList_data, Lib.toList_data]
  intro e
  exact h (ba_ext e)

abbrev S4 (N : Nat) (W0 : World) (g o g' o' : Nat) (f t f' t' : Int) (u : World) : Prop :=
  (u.cell? ⟨g, o, none⟩ = some (.int .i64 f) ∧ u.cell? ⟨g, o + 1, none⟩ = some (.int .i64 t) ∧
  u.cell? ⟨g', o', none⟩ = some (.int .i64 f') ∧ u.cell? ⟨g', o' + 1, none⟩ = some (.int .i64 t')) ∧ Below N W0 u
theorem S4.step {N : Nat} {W0 : World} {g o g' o' : Nat} {f t f' t' : Int} {u u' : World} (h : S4 N W0 g o g' o' f t f' t' u) (hb : Below u.heap.size u u') (hN : N ≤ W0.heap.size) : S4 N W0 g o g' o' f t f' t' u' := by
  obtain ⟨⟨h1, h2, h4, h5⟩, hB⟩ := h
  have lt : ∀ (p : Addr) v, u.cell? p = some v → u'.cell? p = some v := fun p v hp => (hb.cell (World.block_lt_of_cell? u p hp)).trans hp
  exact ⟨⟨lt _ _ h1, lt _ _ h2, lt _ _ h4, lt _ _ h5⟩, hB.trans (hb.mono (Nat.le_trans hN hB.size))⟩

theorem EdsAt.pick {N : Nat} {W : World} {v : Value} {e : Ed} (h : EdsAt N W v [e]) : ∃ g o cap, v = .slice (some ⟨g, o, none⟩) 1 cap ∧ W.cell? ⟨g, o, none⟩ = some (.int .i64 e.f) ∧ W.cell? ⟨g, o + 1, none⟩ = some (.int .i64 e.t) ∧ W.cell? ⟨g, o + 2, none⟩ = some (.string e.x) := by
  obtain ⟨ao, cap, rfl, _, hc⟩ := h
  obtain ⟨g, o, rfl, hg, d0, d1, d2⟩ := hc 0 _ rfl
  simp only [Nat.zero_mul, Nat.add_zero] at d0 d1 d2
  exact ⟨g, o, cap, rfl, d0, d1, d2⟩

theorem apply_at (s : ByteArray) (v : Value) (es : List Ed) (w : World) (hes : EdsAt w.heap.size w v es) (hsum : s.size + sumX es ≤ 140737488355328) (x : ByteArray) (f : Int) (hr : applyR s es = (x, f)) :
    Calls Try.prog 23 #[.string s, v] w fun e W' => e = .returned (.tuple #[.string x, .int .u16 f]) ∧ Below w.heap.size w W' := by
  have h := apply_calls s v es w hes hsum
  rw [hr] at h
  exact h

set_option maxRecDepth 100000 in
set_option maxHeartbeats 4000000 in
theorem walk_same (a : ByteArray) (ha : a.size ≤ reachBytes) (v : Value) (bs : List Int) (w : World) (hv : law.BytesAt w v bs) (h200 : ¬ (200 : Int) < (a.size : Int) + a.size) :
    Calls Try.prog 6 #[.string a, .string a, v] w fun e w' => e = .returned (.bool true) ∧ Below w.heap.size w w' := by
  unfold reachBytes at ha
  have t0 : decide ((200 : Int) < (a.size : Int) + a.size) = false := decide_eq_false h200
  have hap : applyR a [] = (a, 0) := by have := apply_diff a a; unfold diffF at this; rwa [if_pos rfl] at this
  have HAP := Lib.hid (fun w => apply_at a (.slice none 0 0) [] w (EdsAt.nil _ _) (by simp [sumX]; omega) a 0 hap)
  have HED := Lib.hid (fun w' (h : law.BytesAt w' v bs) => edits_calls v bs a.size (by omega) w' h)
  have HV := Lib.hid hv
  have hn1 : (((edsF bs (a.size : Int)).length : Int) != 1) = true ∨ (((edsF bs (a.size : Int)).length : Int) != 1) = false := by cases (((edsF bs (a.size : Int)).length : Int) != 1) <;> simp
  clear hap hv
  go_enter Try.func6, Try.ntmps6
  go_wp2_with fail
  ((with_reducible refine (diff_same _ _).mono ?_); rintro e w1 ⟨rfl, hb1⟩)
  go_wp2_with fail
  ((with_reducible refine (HAP.out _).mono ?_); rintro e w2 ⟨rfl, hb2⟩)
  go_wp2_with fail
  ((with_reducible refine (HED.out _ (HV.out.below (Below.step hb1 hb2))).mono ?_); rintro e w3 ⟨u, rfl, hu, hb3⟩)
  obtain ⟨ao, cap, rfl, _, _⟩ := hu
  rcases hn1 with hn1 | hn1
  all_goals
    go_wp2_with fail
    ((with_reducible refine (known_calls _).mono ?_); rintro e w4 ⟨rfl, hb4⟩)
    go_wp2_with fail
    go_ret
    exact ⟨rfl, Below.step (Below.step (Below.step hb1 hb2) hb3) hb4⟩

set_option maxRecDepth 100000 in
set_option maxHeartbeats 4000000 in
theorem walk_few (a b : ByteArray) (ha : a.size ≤ reachBytes) (hb : b.size ≤ reachBytes) (v : Value) (bs : List Int) (w : World) (hv : law.BytesAt w v bs) (h200 : ¬ (200 : Int) < (a.size : Int) + b.size) (hne : ¬ a = b) (hm : ¬ (edsF bs (a.size : Int)).length = 1) :
    Calls Try.prog 6 #[.string a, .string b, v] w fun e w' => e = .returned (.bool true) ∧ Below w.heap.size w w' := by
  unfold reachBytes at ha hb
  have t0 : decide ((200 : Int) < (a.size : Int) + b.size) = false := decide_eq_false h200
  have hsx := sumX_diff a b
  have hdl := diff_empty a b
  have HD := Lib.hid (diff_calls a b (by omega) (by omega))
  have HAP := Lib.hid (fun v w (h : EdsAt w.heap.size w v (diffF a b)) => apply_at a v (diffF a b) w h (by omega) b 0 (apply_diff a b))
  obtain ⟨l, hl⟩ : ∃ l, diffF a b = [l] := by unfold diffF; rw [if_neg hne]; exact ⟨_, rfl⟩
  rw [hl] at HD HAP
  have HED := Lib.hid (fun w' (h : law.BytesAt w' v bs) => edits_calls v bs a.size (by omega) w' h)
  have HV := Lib.hid hv
  have hn1 : (((edsF bs (a.size : Int)).length : Int) != 1) = true := by rw [bne_iff_ne]; omega
  clear hv hsx hdl hl hm
  go_enter Try.func6, Try.ntmps6
  go_wp2_with fail
  ((with_reducible refine (HD.out _).mono ?_); rintro e w1 ⟨v1, rfl, hv1, hb1⟩)
  go_wp2_with fail
  ((with_reducible refine (HAP.out _ _ hv1).mono ?_); rintro e w2 ⟨rfl, hb2⟩)
  obtain ⟨ao, cap, rfl, _, _⟩ := hv1
  go_wp2_with fail
  ((with_reducible refine (HED.out _ (HV.out.below (Below.step hb1 hb2))).mono ?_); rintro e w3 ⟨u, rfl, hu, hb3⟩)
  obtain ⟨ao, cap, rfl, _, _⟩ := hu
  go_wp2_with fail
  ((with_reducible refine (known_calls _).mono ?_); rintro e w4 ⟨rfl, hb4⟩)
  go_wp2_with fail
  go_ret
  exact ⟨rfl, Below.step (Below.step (Below.step hb1 hb2) hb3) hb4⟩

set_option maxRecDepth 100000 in
set_option maxHeartbeats 4000000 in
theorem walk_one (a b : ByteArray) (ha : a.size ≤ reachBytes) (hb : b.size ≤ reachBytes) (v : Value) (bs : List Int) (w : World) (hv : law.BytesAt w v bs) (h200 : ¬ (200 : Int) < (a.size : Int) + b.size) (hne : ¬ a = b) (e : Ed) (hm : edsF bs (a.size : Int) = [e]) :
    Calls Try.prog 6 #[.string a, .string b, v] w fun e w' => e = .returned (.bool true) ∧ Below w.heap.size w w' := by
  unfold reachBytes at ha hb
  have t0 : decide ((200 : Int) < (a.size : Int) + b.size) = false := decide_eq_false h200
  have hsx := sumX_diff a b
  have hse := sumX_edsF bs (a.size : Int)
  rw [hm] at hse
  have HD := Lib.hid (diff_calls a b (by omega) (by omega))
  have HAP := Lib.hid (fun v w (h : EdsAt w.heap.size w v (diffF a b)) => apply_at a v (diffF a b) w h (by omega) b 0 (apply_diff a b))
  obtain ⟨l, hl⟩ : ∃ l, diffF a b = [l] := by unfold diffF; rw [if_neg hne]; exact ⟨_, rfl⟩
  have hbd : 0 ≤ l.t - l.f ∧ l.t - l.f ≤ 200 ∧ -1000 ≤ l.f ∧ l.f ≤ 1000 := by
    have hle := backF_le a b
    unfold diffF at hl
    rw [if_neg hne] at hl
    injection hl with h1 _
    subst h1
    simp only
    omega
  have hbe : 0 ≤ e.t - e.f ∧ e.t - e.f ≤ 3 ∧ 0 ≤ e.f ∧ e.f ≤ 3 := by
    unfold edsF at hm
    match bs, hm with
    | [], hm => simp [edsL] at hm
    | [_], hm => simp [edsL] at hm
    | [_, _], hm => simp [edsL] at hm
    | x :: y :: z :: r, hm =>
      simp only [edsL] at hm
      split at hm
      · cases hm
      · injection hm with h1 _
        subst h1
        simp only
        omega
  have hleast := diff_least a b e l
  rw [hl] at HD HAP
  have HED := Lib.hid (fun w' (h : law.BytesAt w' v bs) => edits_calls v bs a.size (by omega) w' h)
  rw [hm] at HED
  obtain ⟨⟨x, f⟩, hxf⟩ : ∃ r, applyR a [e] = r := ⟨_, rfl⟩
  have HAP2 := Lib.hid (fun v w (h : EdsAt w.heap.size w v [e]) => apply_at a v [e] w h (by omega) x f hxf)
  have hf01 : f = 0 ∨ f = 1 := by
    unfold applyR at hxf
    split at hxf
    · injection hxf with _ h; exact .inl h.symm
    · injection hxf with _ h; exact .inr h.symm
  have HL := Lib.hid hleast; have HXF := Lib.hid hxf; have HLL := Lib.hid hl; have HBD := Lib.hid hbd; have HBE := Lib.hid hbe
  have HV := Lib.hid hv
  clear hv hsx hl hm hleast hxf hbd hbe hse
  go_enter Try.func6, Try.ntmps6
  go_wp2_with fail
  ((with_reducible refine (HD.out _).mono ?_); rintro e w1 ⟨v1, rfl, hv1, hb1⟩)
  go_wp2_with fail
  ((with_reducible refine (HAP.out _ _ hv1).mono ?_); rintro e w2 ⟨rfl, hb2⟩)
  obtain ⟨g, o, cap, rfl, _, _, _⟩ := EdsAt.pick hv1
  have hv2 := hv1.next hb2
  go_wp2_with fail
  ((with_reducible refine (HED.out _ (HV.out.below (Below.step hb1 hb2))).mono ?_); rintro e w3 ⟨u, rfl, hu, hb3⟩)
  obtain ⟨g', o', cap', rfl, _, _, _⟩ := EdsAt.pick hu
  go_wp2_with fail
  ((with_reducible refine (HAP2.out _ _ hu).mono ?_); rintro e w4 ⟨rfl, hb4⟩)
  obtain ⟨_, _, _, hs1, d0, d1, _⟩ := EdsAt.pick ((hv2.next hb3).next hb4)
  obtain ⟨_, _, _, hs2, d0', d1', _⟩ := EdsAt.pick (hu.next hb4)
  cases hs1
  cases hs2

  have hB4 := Below.step (Below.step (Below.step hb1 hb2) hb3) hb4
  have HB4 := Lib.hid hB4
  clear hv1 hv2 hu hb1 hb2 hb3 hb4 hB4
  obtain ⟨ef, hef⟩ : ∃ y, e.f = y := ⟨_, rfl⟩
  obtain ⟨et, het⟩ : ∃ y, e.t = y := ⟨_, rfl⟩
  obtain ⟨lf, hlf⟩ : ∃ y, l.f = y := ⟨_, rfl⟩
  obtain ⟨lt, hlt⟩ : ∃ y, l.t = y := ⟨_, rfl⟩
  rw [hlf] at d0
  rw [hlt] at d1
  rw [hef] at d0'
  rw [het] at d1'
  have w1 : wrap64 (et - ef) = et - ef := IntWalk.wrap64_in _ (by have := HBE.out; omega)
  have w2 : wrap64 (lt - lf) = lt - lf := IntWalk.wrap64_in _ (by have := HBD.out; omega)
  have w1' : IntKind.i64.wrap (et - ef) = et - ef := (IntWalk.i64_left _).trans w1
  have w2' : IntKind.i64.wrap (lt - lf) = lt - lf := (IntWalk.i64_left _).trans w2
  have HE := Lib.hid (show e.f = ef ∧ e.t = et ∧ l.f = lf ∧ l.t = lt from ⟨hef, het, hlf, hlt⟩)
  clear hef het hlf hlt
  rcases hf01 with rfl | rfl
  · by_cases hxb : x = b
    · subst hxb
      have hge : lt - lf ≤ et - ef := by have := HL.out HXF.out HLL.out; have := HE.out; omega
      have hgd : decide (lt - lf ≤ et - ef) = true := decide_eq_true hge
      have i0 := fun y : In w4 => In.cell d0 y
      have i1 := fun y : In w4 => In.cell d1 y
      have i2 := fun y : In w4 => In.cell d0' y
      have i3 := fun y : In w4 => In.cell d1' y
      clear d0 d1 d0' d1'
      go_wp2_with fail
      refine ed.wp_region_in (by kernel_rfl) (by kernel_rfl) ?_
      repeat (go_big_quiet_step (first | (go_at_call 12; refine ed.Calls.in_of (known_calls _))))
      with_reducible refine wpQuiet_nil ?_
      rintro _ ⟨y, rfl⟩
      go_wp2_with fail
      go_ret
      exact ⟨rfl, Below.step HB4.out y.h⟩
    · have tn := toList_ne hxb
      have tn2 : (x.toList != b.toList) = true := by unfold bne; rw [tn]; rfl
      go_wp2_with fail
      refine ed.wp_region_in (by kernel_rfl) (by kernel_rfl) ?_
      repeat (go_big_quiet_step (first | (go_at_call 12; refine ed.Calls.in_of (known_calls _))))
      with_reducible refine wpQuiet_nil ?_
      rintro _ ⟨y, rfl⟩
      go_wp2_with fail
      go_ret
      exact ⟨rfl, Below.step HB4.out y.h⟩
  · go_wp2_with fail
    refine ed.wp_region_in (by kernel_rfl) (by kernel_rfl) ?_
    repeat (go_big_quiet_step (first | (go_at_call 12; refine ed.Calls.in_of (known_calls _))))
    with_reducible refine wpQuiet_nil ?_
    rintro _ ⟨y, rfl⟩
    go_wp2_with fail
    go_ret
    exact ⟨rfl, Below.step HB4.out y.h⟩

set_option maxRecDepth 100000 in
set_option maxHeartbeats 4000000 in
theorem walk (a b : ByteArray) (ha : a.size ≤ reachBytes) (hb : b.size ≤ reachBytes) (v : Value) (bs : List Int) (w : World) (hv : law.BytesAt w v bs) :
    Calls Try.prog 6 #[.string a, .string b, v] w fun e w' => e = .returned (.bool true) ∧ Below w.heap.size w w' := by
  by_cases h200 : (200 : Int) < (a.size : Int) + b.size
  · unfold reachBytes at ha hb
    have t0 : decide ((200 : Int) < (a.size : Int) + b.size) = true := decide_eq_true h200
    clear hv
    go_enter Try.func6, Try.ntmps6
    go_wp2_with fail
    ((with_reducible refine (known_calls _).mono ?_); rintro e w1 ⟨rfl, hb1⟩)
    go_wp2_with fail
    go_ret
    exact ⟨rfl, hb1⟩
  · by_cases hab : a = b
    · subst hab
      exact walk_same a ha v bs w hv h200
    · by_cases hm : (edsF bs (a.size : Int)).length = 1
      · obtain ⟨e, he⟩ := List.length_eq_one_iff.1 hm
        exact walk_one a b ha hb v bs w hv h200 hab e he
      · exact walk_few a b ha hb v bs w hv h200 hab hm


set_option maxRecDepth 100000 in
theorem lifted (os : Os) (started : os.Started) (H : Type) (enc : TypeId × Value → H) :
    ReturnsInHanded {} Try.checked os 6 .any (Rows.editDiffSpec.pre6 enc Try.prog Try.f6 Rows.editDiffRow.domain false) (Rows.editDiffSpec.post enc Try.prog Try.f6 false true false false) := by
  refine returnsInHanded_of_change_sized (C := Try.checked) law.own started (by kernel_rfl) Try.func6
    (ChangeSpec.witness6 (enc := enc) (C := Try.checked) false ⟨#[], #[.string ⟨#[]⟩, .string ⟨#[]⟩, .slice none 0 0], []⟩ 8 (by kernel_rfl) (by kernel_rfl) (by kernel_rfl) (by kernel_rfl)) ?_
  intro W base args ds gs before hval0 hW _ hsize0 _
  have hsize : (DataW.weightsEach Try.prog (Try.f6.params.toList ++ _) (ds ++ gs)).all (· ≤ reachBytes) = true := hsize0
  have hval : ∀ (j : Nat) t v, Try.f6.params[j]? = some t → args[j]? = some v → Value.okWide Try.prog W .any base t v := hval0
  have hW' := hW
  obtain ⟨p, q, hA0, hV, rfl, _, _⟩ := hW
  have hA : DataW.TrodAll enc Try.prog W 0 (fun _ => true) true Try.f6.params.toList args.toList ds p := hA0
  rw [Try.params6] at hA hval hsize
  obtain ⟨v0, vs0, d0, ds0, p0, q0, hargs, rfl, rfl, h0, r0⟩ := trodAll_cons hA
  obtain ⟨v1, vs1, d1, ds1, p1, q1, rfl, rfl, rfl, h1, r1⟩ := trodAll_cons r0
  obtain ⟨v2, vs2, d2, ds2, p2, q2, rfl, rfl, rfl, h2, r2⟩ := trodAll_cons r1
  obtain ⟨rfl, rfl, rfl⟩ := trodAll_nil r2
  obtain rfl : args = #[v0, v1, v2] := by cases args; simp_all
  obtain ⟨rfl, rfl⟩ := trodVars_none hV
  obtain ⟨a, rfl, rfl, rfl, _⟩ := open_string Try.underlying9 (hval 0 9 v0 rfl rfl) h0
  obtain ⟨b, rfl, rfl, rfl, _⟩ := open_string Try.underlying9 (hval 1 9 v1 rfl rfl) h1
  obtain ⟨bs, hbs⟩ := law.open_bytes (hval 2 23 v2 rfl rfl) h2
  have ha := sized_string hsize (j := 0) (t := 9) rfl rfl
  have hb := sized_string hsize (j := 1) (t := 9) rfl rfl
  rw [size_toList] at ha hb
  refine (walk a b ha hb v2 bs W hbs).mono fun e W' ⟨he, hb⟩ => ⟨_, he, ?_⟩
  exact law.law_post rfl hW' rfl (by kernel_rfl) (by kernel_rfl) hb

/-- EditDiff, for every input. -/
theorem holds : Rows.EditDiffSaid :=
  OpenClaim.holds_of_wide 6 Try.f6 rfl rfl rfl rfl rfl rfl rfl ⟨rfl, rfl, rfl, rfl, rfl⟩ rfl rfl rfl rfl rfl (by kernel_rfl) Try.func6 (by kernel_rfl)
    (of_decide_eq_true (by kernel_rfl)) (by unfold Func.isWrapper; first | (rw [if_pos (by decide +kernel)]; kernel_rfl) | (rw [if_neg (by decide +kernel)]; exact ⟨rfl, rfl⟩))
    (fun os started H enc _ => lifted os started H enc)
end Go.Proofs.Ytepniobmhplphaa.editDiff
