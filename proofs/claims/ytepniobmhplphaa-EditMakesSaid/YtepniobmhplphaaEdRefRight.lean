/-
  subeditorref02.Right: the contract, for every list and every number.
-/
import Derived.Test.YtepniobmhplphaaEdDiff
namespace Go.Proofs.Ytepniobmhplphaa.ed
open Go.RowKit
set_option linter.unusedVariables false

theorem take_next {es : List Ed} {k : Nat} {e : Ed} (h : es[k]? = some e) : es.take (k + 1) = es.take k ++ [e] := by
  rw [List.take_add_one, h]; rfl
theorem right_pos : ∀ (f t n : Int) (l : List Ed), rightG f t n l = true → -1 ≤ f → 0 ≤ t → -1 ≤ lastF f l ∧ 0 ≤ lastT t l
  | f, t, _, [], _, h1, h2 => ⟨h1, h2⟩
  | f, t, n, e :: r, h, h1, h2 => by
    simp only [rightG, bad, Bool.and_eq_true, Bool.not_eq_true', Bool.or_eq_false_iff, decide_eq_false_iff_not] at h
    exact right_pos e.f e.t n r h.2 (by omega) (by omega)

set_option maxRecDepth 100000 in
set_option maxHeartbeats 4000000 in
theorem refRight_calls (v : Value) (es : List Ed) (m : Int) (N : Nat) (w : World) (hes : EdsAt N w v es) :
    Calls Try.prog 16 #[v, .int .i64 m] w fun e w' => e = .returned (.bool (rightF es m)) ∧ ∃ nq, w' = w.drewN nq := by
  obtain ⟨ao, cap, rfl, hmax, hcells⟩ := hes
  unfold rightF
  by_cases h1000 : es.length ≤ 1000
  · rw [decide_eq_true h1000, Bool.true_and]
    have t0 : decide ((1000 : Int) < (es.length : Int)) = false := decide_eq_false (by omega)
    have t0' : decide (1000 < es.length) = false := decide_eq_false (by omega)
    have HC := Lib.hid hcells
    clear hcells
    go_enter Try.func16, Try.ntmps16
    go_wp2_with fail
    go_loopw [5] (fun i wr => ∃ k nq : Nat, i = .int .i64 (k : Int) ∧ k ≤ es.length ∧ rightG (-1) 0 m (es.take k) = true ∧ wr = w.drewN nq) (fun i _ => es.length - (intOf i).toNat)
    case atStart => exact ⟨0, 0, rfl, Nat.zero_le _, rfl, rfl⟩
    case round =>
      obtain ⟨k, nq, rfl, hk, hr, rfl⟩ := hrel
      by_cases hlt : k < es.length
      · have hltI : (k : Int) < (es.length : Int) := by omega
        have h0I : (0 : Int) ≤ (k : Int) := by omega
        obtain ⟨e, hel⟩ : ∃ e, es[k]? = some e := ⟨es[k], by simp [hlt]⟩
        obtain ⟨g, o, rfl, _, c0, c1, c2⟩ := HC.out k e hel
        have hsnoc : ∀ b, bad (lastF (-1) (es.take k)) (lastT 0 (es.take k)) m e = b → rightG (-1) 0 m (es.take (k + 1)) = !b := fun b hb => by rw [take_next hel, rightG_snoc, hr, hb]; simp
        have hfalse : rightG (-1) 0 m (es.take (k + 1)) = false → rightG (-1) 0 m es = false := fun h => rightG_pre (List.take_prefix _ _) h
        have hpos := right_pos (-1) 0 m (es.take k) hr (by omega) (by omega)
        have HS := Lib.hid hsnoc; have HF := Lib.hid hfalse; have HP := Lib.hid hpos; have HE := Lib.hid hel
        clear hsnoc hfalse hpos hel hr
        by_cases t1 : e.f < 0
        · have b1 : decide (e.f < 0) = true := decide_eq_true t1
          go_wp2_with fail
          go_quiet (fail)
          rename_i nq2
          rw [World.drewN_drewN]
          go_wp2_with fail
          go_ret
          exact ⟨by rw [HF.out (HS.out true (by have := HP.out; simp [bad]; omega))]; rfl, _, rfl⟩
        · have b1 : decide (e.f < 0) = false := decide_eq_false t1
          by_cases t2 : e.t < e.f
          · have b2 : decide (e.t < e.f) = true := decide_eq_true t2
            go_wp2_with fail
            go_quiet (fail)
            rename_i nq2
            rw [World.drewN_drewN]
            go_wp2_with fail
            go_ret
            exact ⟨by rw [HF.out (HS.out true (by simp [bad, t2]))]; rfl, _, rfl⟩
          · have b2 : decide (e.t < e.f) = false := decide_eq_false t2
            by_cases t3 : m < e.t
            · have b3 : decide (m < e.t) = true := decide_eq_true t3
              go_wp2_with fail
              go_quiet (fail)
              rename_i nq2
              rw [World.drewN_drewN]
              go_wp2_with fail
              go_ret
              exact ⟨by rw [HF.out (HS.out true (by simp [bad, t3]))]; rfl, _, rfl⟩
            · have b3 : decide (m < e.t) = false := decide_eq_false t3
              by_cases hk0 : k = 0
              · have HG := Lib.hid (HS.out false (by rw [hk0]; simp [bad, lastF, lastT]; omega))
                have hkb : decide (0 < k) = false := decide_eq_false (by omega)
                have hkb2 : decide ((0 : Int) < (k : Int)) = false := decide_eq_false (by omega)
                have HK := Lib.hid hk0
                clear hk0
                go_wp2_with fail
                go_quiet (fail)
                rename_i nq2
                rw [World.drewN_drewN]
                go_wp2_with fail
                go_quiet (fail)
                rename_i nq3
                rw [World.drewN_drewN]
                go_wp2_with fail
                go_roundw
                case rel => exact ⟨k + 1, _, by go_num, by omega, HG.out, rfl⟩
                case measure => simp [intOf]; omega
              · obtain ⟨p, hp⟩ : ∃ p : Nat, p + 1 = k := ⟨k - 1, by omega⟩
                obtain ⟨e', hel'⟩ : ∃ e', es[p]? = some e' := ⟨es[p]'(by omega), List.getElem?_eq_getElem _⟩
                obtain ⟨g', o', hg', _, d0, d1, d2⟩ := HC.out p e' hel'
                cases hg'
                have hpl : lastF (-1) (es.take k) = e'.f ∧ lastT 0 (es.take k) = e'.t := by rw [← hp, take_next hel', lastF_snoc, lastT_snoc]; exact ⟨rfl, rfl⟩
                have HL := Lib.hid hpl
                have wp : wrap64 ((k : Int) - 1) = (p : Int) := by rw [IntWalk.wrap64_in]; omega; have := hmax; unfold maxLen at this; omega
                have wp' : (k : Int) - 1 = (p : Int) := by omega
                have hpI : (p : Int) < (es.length : Int) := by omega
                have hkp : (0 : Int) < (k : Int) := by omega
                have hkb : decide (0 < k) = true := decide_eq_true (by omega)
                have hkb2 : decide ((0 : Int) < (k : Int)) = true := decide_eq_true (by omega)
                clear hpl hel'
                by_cases t4 : e.f < e'.t
                · have b4 : decide (e.f < e'.t) = true := decide_eq_true t4
                  go_wp2_with fail
                  go_quiet (fail)
                  rename_i nq2
                  rw [World.drewN_drewN]
                  go_wp2_with fail
                  go_quiet (fail)
                  rename_i nq3
                  rw [World.drewN_drewN]
                  go_wp2_with fail
                  go_ret
                  exact ⟨by rw [HF.out (HS.out true (by rw [HL.out.1, HL.out.2]; simp [bad, t4]))]; rfl, _, rfl⟩
                · have b4 : decide (e.f < e'.t) = false := decide_eq_false t4
                  by_cases t5 : e.f ≤ e'.f
                  · have b5 : decide (e.f ≤ e'.f) = true := decide_eq_true t5
                    go_wp2_with fail
                    go_quiet (fail)
                    rename_i nq2
                    rw [World.drewN_drewN]
                    go_wp2_with fail
                    go_quiet (fail)
                    rename_i nq3
                    rw [World.drewN_drewN]
                    go_wp2_with fail
                    go_ret
                    exact ⟨by rw [HF.out (HS.out true (by rw [HL.out.1, HL.out.2]; simp [bad, t5]))]; rfl, _, rfl⟩
                  · have b5 : decide (e.f ≤ e'.f) = false := decide_eq_false t5
                    have HG := Lib.hid (HS.out false (by rw [HL.out.1, HL.out.2]; simp [bad]; omega))
                    go_wp2_with fail
                    go_quiet (fail)
                    rename_i nq2
                    rw [World.drewN_drewN]
                    go_wp2_with fail
                    go_quiet (fail)
                    rename_i nq3
                    rw [World.drewN_drewN]
                    go_wp2_with fail
                    go_roundw
                    case rel => exact ⟨k + 1, _, by go_num, by omega, HG.out, rfl⟩
                    case measure => simp [intOf]; omega
      · have hkl : k = es.length := by omega
        subst hkl
        rw [List.take_length] at hr
        have HR := Lib.hid hr
        clear hr
        have hge : decide ((es.length : Int) < (es.length : Int)) = false := by simp
        go_wp2_with fail
        go_ret
        exact ⟨by rw [HR.out]; rfl, _, rfl⟩
  · rw [decide_eq_false h1000, Bool.false_and]
    have t0 : decide ((1000 : Int) < (es.length : Int)) = true := decide_eq_true (by omega)
    have t0' : decide (1000 < es.length) = true := decide_eq_true (by omega)
    clear hcells
    go_enter Try.func16, Try.ntmps16
    go_wp2_with fail
    go_ret
    exact ⟨rfl, 0, rfl⟩

end Go.Proofs.Ytepniobmhplphaa.ed
