/-
  subeditorlaw02.EditShift: for every input it returns true, and the arguments read as they did. No condition.
-/
import Derived.Test.YtepniobmhplphaaEdMath2
import Derived.Test.YtepniobmhplphaaEdIn
namespace Go.Proofs.Ytepniobmhplphaa.editShift
open Go.RowKit Go.ChangeShapes Go.WideShapes Go.ChangeAt Go.ChangeMaps
open ed
set_option linter.unusedVariables false


theorem apply_at (s : ByteArray) (v : Value) (es : List Ed) (w : World) (hes : EdsAt w.heap.size w v es) (hsum : s.size + sumX es ≤ 140737488355328) (x : ByteArray) (f : Int) (hr : applyR s es = (x, f)) :
    Calls Try.prog 23 #[.string s, v] w fun e W' => e = .returned (.tuple #[.string x, .int .u16 f]) ∧ Below w.heap.size w W' := by
  have h := apply_calls s v es w hes hsum
  rw [hr] at h
  exact h

def shiftI (at' : Int) : Int → List Ed → Int
  | m, [] => at' + m
  | m, e :: r => if at' < e.f then at' + m else if at' < e.t then e.f + m else shiftI at' (m + growI e) r
theorem shiftG_eq (at' : Int) (h0 : 0 ≤ at') (h1 : at' ≤ 1000) : ∀ (m : Int) (l : List Ed), (∀ e ∈ l, Small e) → -1000000000 ≤ m - 1000 * l.length → m + 4 * l.length ≤ 1000000000 → shiftG at' m l = shiftI at' m l
  | m, [], _, h2, h3 => by simp only [shiftG, shiftI, List.length_nil] at *; exact IntWalk.wrap64_in _ (by omega)
  | m, e :: r, h, h2, h3 => by
    have hs := h e (List.mem_cons_self ..)
    have hg := grow_small hs
    obtain ⟨q1, q2, q3, q4⟩ := hs
    simp only [List.length_cons] at h2 h3
    simp only [shiftG, shiftI]
    split
    · exact IntWalk.wrap64_in _ (by omega)
    · split
      · exact IntWalk.wrap64_in _ (by omega)
      · have e1 : wr (m + grow e) = m + growI e := by rw [hg.1]; exact IntWalk.wrap64_in _ (by omega)
        rw [e1]
        exact shiftG_eq at' h0 h1 _ r (fun x hx => h x (List.mem_cons_of_mem _ hx)) (by omega) (by omega)
def outL (s : ByteArray) (t : Int) (l : List Ed) : List UInt8 := madeL s t l ++ (piece s (lastT t l) s.size).data.toList
def goneB (at' : Int) (e : Ed) : Bool := decide (e.f ≤ at') && decide (at' < e.t)
def goneL (at' : Int) (l : List Ed) : Bool := l.any (goneB at')
theorem piece_at (s : ByteArray) (a b i : Nat) (h : a + i < b) (hb : b ≤ s.size) : (piece s a b).data.toList[i]? = s.data.toList[a + i]? := by
  rw [piece_toList, List.getElem?_drop, List.getElem?_take_of_lt h]
theorem shift_at (s : ByteArray) (p : Nat) (hp : p < s.size) : ∀ (f t m : Int) (l : List Ed), rightG f t s.size l = true → 0 ≤ t → t ≤ p →
    ∃ r : Nat, shiftI p m l = t + m + r ∧ r ≤ (outL s t l).length ∧ (goneL p l = false → r < (outL s t l).length ∧ (outL s t l)[r]? = s.data.toList[p]?)
  | f, t, m, [], _, h0, h1 => by
    obtain ⟨a, ha⟩ : ∃ a : Nat, t = a := ⟨t.toNat, by omega⟩
    have hl : (outL s t []).length = s.size - a := by unfold outL; simp only [madeL, lastT, List.nil_append]; rw [size_toList, piece_size, ha]; omega
    refine ⟨p - a, by simp only [shiftI]; omega, by omega, fun _ => ⟨by omega, ?_⟩⟩
    unfold outL
    simp only [madeL, lastT, List.nil_append]
    rw [ha, piece_at s a s.size (p - a) (by omega) (Nat.le_refl _)]
    congr 1
    omega
  | f, t, m, e :: r, h, h0, h1 => by
    simp only [rightG, bad, Bool.and_eq_true, Bool.not_eq_true', Bool.or_eq_false_iff, decide_eq_false_iff_not] at h
    obtain ⟨a, ha⟩ : ∃ a : Nat, t = a := ⟨t.toNat, by omega⟩
    obtain ⟨b, hb⟩ : ∃ b : Nat, e.f = b := ⟨e.f.toNat, by omega⟩
    have hout : outL s t (e :: r) = (piece s t e.f).data.toList ++ (e.x.data.toList ++ outL s e.t r) := by unfold outL; simp only [madeL, lastT, List.append_assoc]
    have hpl : (piece s t e.f).data.toList.length = b - a := by rw [size_toList, piece_size]; omega
    have hol : (outL s t (e :: r)).length = (b - a) + (e.x.size + (outL s e.t r).length) := by rw [hout, List.length_append, List.length_append, hpl, size_toList]
    simp only [shiftI]
    by_cases c1 : (p : Int) < e.f
    · rw [if_pos c1]
      refine ⟨p - a, by omega, by omega, fun _ => ⟨by omega, ?_⟩⟩
      rw [hout, List.getElem?_append_left (by rw [hpl]; omega), ha, hb, piece_at s a b (p - a) (by omega) (by omega)]
      congr 1
      omega
    · rw [if_neg c1]
      by_cases c2 : (p : Int) < e.t
      · rw [if_pos c2]
        refine ⟨b - a, by omega, by omega, fun hg => ?_⟩
        have hge : goneL p (e :: r) = true := by
          simp only [goneL, List.any_cons, Bool.or_eq_true]
          left
          unfold goneB
          rw [decide_eq_true (by omega), decide_eq_true c2]
          rfl
        rw [hge] at hg
        cases hg
      · rw [if_neg c2]
        obtain ⟨q, q1, q2, q3⟩ := shift_at s p hp e.f e.t (m + growI e) r h.2 (by omega) (by omega)
        refine ⟨(b - a) + (e.x.size + q), ?_, by omega, fun hg => ?_⟩
        · rw [q1]; unfold growI; omega
        · have hg2 : goneL p r = false := by
            simp only [goneL, List.any_cons, Bool.or_eq_false_iff] at hg
            exact hg.2
          obtain ⟨q4, q5⟩ := q3 hg2
          refine ⟨by omega, ?_⟩
          rw [hout, List.getElem?_append_right (by rw [hpl]; omega), hpl, List.getElem?_append_right (by rw [size_toList]; omega), size_toList]
          rw [show (b - a) + (e.x.size + q) - (b - a) - e.x.size = q by omega]
          exact q5
theorem goneL_snoc (at' : Int) (es : List Ed) (k : Nat) (e : Ed) (h : es[k]? = some e) : goneL at' (es.take (k + 1)) = (goneL at' (es.take k) || goneB at' e) := by
  rw [List.take_add_one, h]
  simp [goneL]

set_option maxRecDepth 100000 in
set_option maxHeartbeats 4000000 in
theorem walk_right (s : ByteArray) (hs : s.size ≤ 200) (hpos : 0 < s.size) (v : Value) (k : Int) (hk0 : 0 ≤ k) (hk1 : k ≤ 255) (bs : List Int) (w : World) (es : List Ed)
    (HED : Hid (Calls Try.prog 13 #[v, .int .i64 (s.size : Int)] w fun e w' => ∃ u, e = .returned u ∧ EdsAt w'.heap.size w' u es ∧ Below w.heap.size w w')) (hsm : ∀ e ∈ es, Small e) (hln : es.length ≤ 10) (hr : rightF es s.size = true) :
    Calls Try.prog 7 #[.string s, v, .int .u8 k] w fun e w' => e = .returned (.bool true) ∧ Below w.heap.size w w' := by
  have t0 : decide ((200 : Int) < (s.size : Int)) = false := decide_eq_false (by omega)
  have t1 : ((s.size : Int) == 0) = false := by rw [beq_eq_false_iff_ne]; omega
  have hsx := sumX_small es hsm
  have hap : applyR s es = (⟨(madeAll s es).toArray⟩, 0) := by unfold applyR; rw [if_pos hr]
  have hrG : rightG (-1) 0 s.size es = true := by unfold rightF at hr; rw [Bool.and_eq_true] at hr; exact hr.2
  obtain ⟨p, hpe⟩ : ∃ p : Nat, k % (s.size : Int) = (p : Int) := ⟨(k % (s.size : Int)).toNat, by have := Int.emod_nonneg k (show (s.size : Int) ≠ 0 by omega); omega⟩
  have hpl : p < s.size := by have := Int.emod_lt_of_pos k (show 0 < (s.size : Int) by omega); omega
  obtain ⟨r, hr1, hr2, hr3⟩ := shift_at s p hpl (-1) 0 0 es hrG (by omega) (by omega)
  have hsh : shiftF es (p : Int) = (r : Int) := by
    unfold shiftF
    rw [shiftG_eq p (by omega) (by omega) 0 es hsm (by omega) (by omega), hr1]
    omega
  obtain ⟨T, hT⟩ : ∃ T : ByteArray, (⟨(madeAll s es).toArray⟩ : ByteArray) = T := ⟨_, rfl⟩
  have hTl : outL s 0 es = T.data.toList := by rw [← hT]; rfl
  rw [hT] at hap
  rw [hTl, size_toList] at hr2 hr3
  have HAP := Lib.hid (fun v w (h : EdsAt w.heap.size w v es) => apply_at s v es w h (by omega) T 0 hap)
  have HSH := Lib.hid (fun v w (h : EdsAt w.heap.size w v es) => shift_calls v es p w h (r : Int) hsh)
  have HRT := Lib.hid (fun v w (h : EdsAt w.heap.size w v es) => right_calls v es s.size w h true hr)
  have HR3 := Lib.hid hr3; have HP := Lib.hid hpe; have HS := Lib.hid hsm
  clear hT hTl hap hrG hr1 hr3 hsh hpe hr hsm
  go_enter Try.func7, Try.ntmps7
  go_wp2_with fail
  ((with_reducible refine HED.out.mono ?_); rintro e w1 ⟨u, rfl, hu, hb1⟩)
  go_wp2_with fail
  ((with_reducible refine (HRT.out _ _ hu).mono ?_); rintro e w2 ⟨rfl, hb2⟩)
  have hu2 := hu.next hb2
  go_wp2_with fail
  rw [HP.out]
  ((with_reducible refine (HAP.out _ _ hu2).mono ?_); rintro e w3 ⟨rfl, hb3⟩)
  have hu3 := hu2.next hb3
  go_wp2_with fail
  ((with_reducible refine (HSH.out _ _ hu3).mono ?_); rintro e w4 ⟨rfl, hb4⟩)
  have hu4 := hu3.next hb4
  have hB4 := Below.step (Below.step (Below.step hb1 hb2) hb3) hb4
  have HB4 := Lib.hid hB4
  obtain ⟨ao, cap, rfl, hmax, hcells⟩ := hu4
  have HC := Lib.hid hcells
  clear hu hu2 hu3 hcells hb1 hb2 hb3 hb4 hB4
  go_wp2_with fail
  go_loop [12, 13] (fun g i => ∃ k : Nat, i = .int .i64 (k : Int) ∧ g = .bool (goneL p (es.take k)) ∧ k ≤ es.length) (fun _ i => es.length - (intOf i).toNat)
  case atStart => exact ⟨0, rfl, rfl, Nat.zero_le _⟩
  case round =>
    obtain ⟨k, rfl, rfl, hk⟩ := hrel
    by_cases hlt : k < es.length
    · have hltI : (k : Int) < (es.length : Int) := by omega
      have h0I : (0 : Int) ≤ (k : Int) := by omega
      obtain ⟨e, hel⟩ : ∃ e, es[k]? = some e := ⟨es[k], by simp [hlt]⟩
      obtain ⟨g, o, rfl, _, c0, c1, c2⟩ := HC.out k e hel
      have hsn := goneL_snoc p es k e hel
      have HSN := Lib.hid hsn
      clear hel hsn
      generalize goneL p (es.take k) = G at HSN
      cases G with
      | true =>
        go_wp2_with fail
        go_round
        case rel => exact ⟨k + 1, by go_num, by rw [HSN.out]; rfl, by omega⟩
        case measure => simp [intOf]; omega
      | false =>
        by_cases q1 : e.f ≤ (p : Int)
        · have d1 : decide (e.f ≤ (p : Int)) = true := decide_eq_true q1
          by_cases q2 : (p : Int) < e.t
          · have d2 : decide ((p : Int) < e.t) = true := decide_eq_true q2
            have HQ := Lib.hid (show goneB p e = true from by unfold goneB; rw [d1, d2]; rfl)
            go_wp2_with fail
            go_round
            case rel => exact ⟨k + 1, by go_num, by rw [HSN.out, HQ.out]; rfl, by omega⟩
            case measure => simp [intOf]; omega
          · have d2 : decide ((p : Int) < e.t) = false := decide_eq_false q2
            have HQ := Lib.hid (show goneB p e = false from by unfold goneB; rw [d1, d2]; rfl)
            go_wp2_with fail
            go_round
            case rel => exact ⟨k + 1, by go_num, by rw [HSN.out, HQ.out]; rfl, by omega⟩
            case measure => simp [intOf]; omega
        · have d1 : decide (e.f ≤ (p : Int)) = false := decide_eq_false q1
          have HQ := Lib.hid (show goneB p e = false from by unfold goneB; rw [d1]; rfl)
          go_wp2_with fail
          go_round
          case rel => exact ⟨k + 1, by go_num, by rw [HSN.out, HQ.out]; rfl, by omega⟩
          case measure => simp [intOf]; omega
    · have hkl : k = es.length := by omega
      subst hkl
      rw [List.take_length]
      have hge : decide ((es.length : Int) < (es.length : Int)) = false := by simp
      have a1 : (0 : Int) ≤ (r : Int) := by omega
      have a2 : (r : Int) ≤ (T.size : Int) := by omega
      have a1d : decide ((0 : Int) ≤ (r : Int)) = true := decide_eq_true a1
      have a2d : decide ((r : Int) ≤ (T.size : Int)) = true := decide_eq_true a2
      have hpI : (p : Int) < (s.size : Int) := by omega
      have hr3 := HR3.out
      clear HC hlt hk
      generalize goneL p es = G at hr3
      cases G with
      | true =>
        clear hr3
        go_wp2_with fail
        refine ed.wp_region_in (by kernel_rfl) (by kernel_rfl) ?_
        repeat (go_big_quiet_step (first | (go_at_call 12; refine ed.Calls.in_of (known_calls _))))
        with_reducible refine wpQuiet_nil ?_
        rintro _ ⟨y, rfl⟩
        go_wp2_with fail
        go_ret
        exact ⟨rfl, Below.next HB4.out y.h (Nat.le_refl _)⟩
      | false =>
        obtain ⟨b1, b2⟩ := hr3 rfl
        have a3 : (r : Int) < (T.size : Int) := by omega
        have a3d : decide ((r : Int) < (T.size : Int)) = true := decide_eq_true a3
        have hch : T[r]'b1 = s[p]'hpl := by
          rw [List.getElem?_eq_getElem (by rw [size_toList]; exact b1), List.getElem?_eq_getElem (by rw [size_toList]; exact hpl)] at b2
          exact Option.some.inj b2
        have hch2 := toNat_beq (T[r]'b1) (s[p]'hpl)
        rw [decide_eq_true hch] at hch2
        clear b2 hr3 hch
        go_wp2_with fail
        refine ed.wp_region_in (by kernel_rfl) (by kernel_rfl) ?_
        repeat (go_big_quiet_step (first | (go_at_call 12; refine ed.Calls.in_of (known_calls _))))
        with_reducible refine wpQuiet_nil ?_
        rintro _ ⟨y, rfl⟩
        go_wp2_with fail
        go_ret
        exact ⟨rfl, Below.next HB4.out y.h (Nat.le_refl _)⟩

set_option maxRecDepth 100000 in
set_option maxHeartbeats 4000000 in
theorem walk (s : ByteArray) (v : Value) (k : Int) (hk : 0 ≤ k ∧ k ≤ 255) (bs : List Int) (w : World) (hv : law.BytesAt w v bs) :
    Calls Try.prog 7 #[.string s, v, .int .u8 k] w fun e w' => e = .returned (.bool true) ∧ Below w.heap.size w w' := by
  by_cases h200 : (200 : Int) < (s.size : Int)
  · have t0 : decide ((200 : Int) < (s.size : Int)) = true := decide_eq_true h200
    clear hv
    go_enter Try.func7, Try.ntmps7
    go_wp2_with fail
    ((with_reducible refine (known_calls _).mono ?_); rintro e w1 ⟨rfl, hb1⟩)
    go_wp2_with fail
    go_ret
    exact ⟨rfl, hb1⟩
  · have t0 : decide ((200 : Int) < (s.size : Int)) = false := decide_eq_false h200
    by_cases h0 : s.size = 0
    · have t1 : ((s.size : Int) == 0) = true := by rw [beq_iff_eq]; omega
      clear hv
      go_enter Try.func7, Try.ntmps7
      go_wp2_with fail
      ((with_reducible refine (known_calls _).mono ?_); rintro e w1 ⟨rfl, hb1⟩)
      go_wp2_with fail
      go_ret
      exact ⟨rfl, hb1⟩
    · have HED := Lib.hid (edits_calls v bs s.size (by omega) w hv)
      have hsm := edsF_small bs (s.size : Int) (by omega)
      have hln := edsF_length bs (s.size : Int)
      generalize edsF bs (s.size : Int) = es at hsm hln HED
      cases hr : rightF es s.size with
      | true => exact walk_right s (by omega) (by omega) v k hk.1 hk.2 bs w es HED hsm hln hr
      | false =>
        have t1 : ((s.size : Int) == 0) = false := by rw [beq_eq_false_iff_ne]; omega
        have HRT := Lib.hid (fun v w (h : EdsAt w.heap.size w v es) => right_calls v es s.size w h false hr)
        clear hv hsm hr
        go_enter Try.func7, Try.ntmps7
        go_wp2_with fail
        ((with_reducible refine HED.out.mono ?_); rintro e w1 ⟨u, rfl, hu, hb1⟩)
        go_wp2_with fail
        ((with_reducible refine (HRT.out _ _ hu).mono ?_); rintro e w2 ⟨rfl, hb2⟩)
        clear hu
        go_wp2_with fail
        ((with_reducible refine (known_calls _).mono ?_); rintro e w3 ⟨rfl, hb3⟩)
        go_wp2_with fail
        go_ret
        exact ⟨rfl, Below.step (Below.step hb1 hb2) hb3⟩

set_option maxRecDepth 100000 in
theorem lifted (os : Os) (started : os.Started) (H : Type) (enc : TypeId × Value → H) :
    ReturnsInHanded {} Try.checked os 7 .any (Rows.editShiftSpec.pre6 enc Try.prog Try.f7 Rows.editShiftRow.domain false) (Rows.editShiftSpec.post enc Try.prog Try.f7 false true false false) := by
  refine returnsInHanded_of_change (C := Try.checked) law.own started (by kernel_rfl) Try.func7
    (ChangeSpec.witness6 (enc := enc) (C := Try.checked) false ⟨#[], #[.string ⟨#[]⟩, .slice none 0 0, .int .u8 0], []⟩ 8 (by kernel_rfl) (by kernel_rfl) (by kernel_rfl) (by kernel_rfl)) ?_
  intro W base args ds gs before hval0 hW _ _
  have hval : ∀ (j : Nat) t v, Try.f7.params[j]? = some t → args[j]? = some v → Value.okWide Try.prog W .any base t v := hval0
  have hW' := hW
  obtain ⟨p, q, hA0, hV, rfl, _, _⟩ := hW
  have hA : DataW.TrodAll enc Try.prog W 0 (fun _ => true) true Try.f7.params.toList args.toList ds p := hA0
  rw [Try.params7] at hA hval
  obtain ⟨v0, vs0, d0, ds0, p0, q0, hargs, rfl, rfl, h0, r0⟩ := trodAll_cons hA
  obtain ⟨v1, vs1, d1, ds1, p1, q1, rfl, rfl, rfl, h1, r1⟩ := trodAll_cons r0
  obtain ⟨v2, vs2, d2, ds2, p2, q2, rfl, rfl, rfl, h2, r2⟩ := trodAll_cons r1
  obtain ⟨rfl, rfl, rfl⟩ := trodAll_nil r2
  obtain rfl : args = #[v0, v1, v2] := by cases args; simp_all
  obtain ⟨rfl, rfl⟩ := trodVars_none hV
  obtain ⟨s, rfl, rfl, rfl, _⟩ := open_string Try.underlying9 (hval 0 9 v0 rfl rfl) h0
  obtain ⟨bs, hbs⟩ := law.open_bytes (hval 1 23 v1 rfl rfl) h1
  obtain ⟨k, rfl, rfl, rfl, hk⟩ := open_int Try.underlying5 (hval 2 5 v2 rfl rfl) h2
  refine (walk s v1 k (law.u8_wf hk) bs W hbs).mono fun e W' ⟨he, hb⟩ => ⟨_, he, ?_⟩
  exact law.law_post rfl hW' rfl (by kernel_rfl) (by kernel_rfl) hb

/-- EditShift, for every input. -/
theorem holds : Rows.EditShiftSaid :=
  OpenClaim.holds_of_wide 7 Try.f7 rfl rfl rfl rfl rfl rfl rfl ⟨rfl, rfl, rfl, rfl, rfl⟩ rfl rfl rfl rfl rfl (by kernel_rfl) Try.func7 (by kernel_rfl)
    (of_decide_eq_true (by kernel_rfl)) (by unfold Func.isWrapper; first | (rw [if_pos (by decide +kernel)]; kernel_rfl) | (rw [if_neg (by decide +kernel)]; exact ⟨rfl, rfl⟩))
    (fun os started H enc _ => lifted os started H enc)
end Go.Proofs.Ytepniobmhplphaa.editShift
