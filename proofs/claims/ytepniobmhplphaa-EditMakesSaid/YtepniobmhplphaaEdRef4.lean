/-
  subeditorref02.Shift, subeditorlaw02.heavy: the contracts.
-/
import Derived.Test.YtepniobmhplphaaEdRef2
import Derived.Test.YtepniobmhplphaaEdShift
namespace Go.Proofs.Ytepniobmhplphaa.ed
open Go.RowKit
set_option linter.unusedVariables false

/-- The document's Shift. -/
def rshG (at' : Int) : Int → List Ed → Int
  | m, [] => wr (at' + m)
  | m, e :: r => if e.t ≤ at' then rshG at' (wr (m + grow e)) r else if e.f ≤ at' then wr (e.f + m) else rshG at' m r
theorem rshG_late (at' : Int) : ∀ (f t n m : Int) (l : List Ed), rightG f t n l = true → at' < t → rshG at' m l = wr (at' + m)
  | _, _, _, _, [], _, _ => rfl
  | f, t, n, m, e :: r, h, ht => by
    simp only [rightG, bad, Bool.and_eq_true, Bool.not_eq_true', Bool.or_eq_false_iff, decide_eq_false_iff_not] at h
    simp only [rshG]
    rw [if_neg (by omega), if_neg (by omega)]
    exact rshG_late at' e.f e.t n m r h.2 (by omega)
theorem rsh_shift (at' : Int) : ∀ (f t n m : Int) (l : List Ed), rightG f t n l = true → rshG at' m l = shiftG at' m l
  | _, _, _, _, [], _ => rfl
  | f, t, n, m, e :: r, h => by
    have hh := h
    simp only [rightG, bad, Bool.and_eq_true, Bool.not_eq_true', Bool.or_eq_false_iff, decide_eq_false_iff_not] at h
    simp only [rshG, shiftG]
    by_cases h1 : at' < e.f
    · rw [if_pos h1, if_neg (by omega), if_neg (by omega)]
      exact rshG_late at' e.f e.t n m r h.2 (by omega)
    · rw [if_neg h1]
      by_cases h2 : at' < e.t
      · rw [if_pos h2, if_neg (by omega), if_pos (by omega)]
      · rw [if_neg h2, if_pos (by omega)]
        exact rsh_shift at' e.f e.t n _ r h.2

theorem drop_cons' {es : List Ed} {k : Nat} {e : Ed} (h : es[k]? = some e) : es.drop k = e :: es.drop (k + 1) := by
  obtain ⟨hlt, rfl⟩ := List.getElem?_eq_some_iff.1 h
  exact List.drop_eq_getElem_cons hlt

set_option maxRecDepth 100000 in
set_option maxHeartbeats 4000000 in
theorem refShift_calls (v : Value) (es : List Ed) (A : Int) (N : Nat) (w : World) (hes : EdsAt N w v es) :
    Calls Try.prog 18 #[v, .int .i64 A] w fun e W' => e = .returned (.int .i64 (rshG A 0 es)) ∧ ∃ nq, W' = w.drewN nq := by
  obtain ⟨ao, cap, rfl, hmax, hcells⟩ := hes
  have HC := Lib.hid hcells
  unfold maxLen at hmax
  clear hcells
  go_enter Try.func18, Try.ntmps18
  go_wp2_with fail
  go_loopw [5, 6] (fun m i wr => ∃ (k nq : Nat) (M : Int), i = .int .i64 (k : Int) ∧ m = .int .i64 M ∧ k ≤ es.length ∧ rshG A M (es.drop k) = rshG A 0 es ∧ wr = w.drewN nq) (fun _ i _ => es.length - (intOf i).toNat)
  case atStart => exact ⟨0, 0, 0, rfl, rfl, Nat.zero_le _, rfl, rfl⟩
  case round =>
    obtain ⟨k, nq, M, rfl, rfl, hk, hM, rfl⟩ := hrel
    by_cases hlt : k < es.length
    · have g1 : (0 : Int) ≤ (k : Int) := by omega
      have g2 : (k : Int) < (es.length : Int) := by omega
      obtain ⟨e, hel⟩ : ∃ e, es[k]? = some e := ⟨es[k], by simp [hlt]⟩
      obtain ⟨g, o, rfl, _, c0, c1, c2⟩ := HC.out k e hel
      rw [drop_cons' hel] at hM
      simp only [rshG] at hM
      by_cases h1 : e.t ≤ A
      · have t1 : decide (e.t ≤ A) = true := decide_eq_true h1
        rw [if_pos h1] at hM
        have HM := Lib.hid hM
        clear hM hel
        go_wp2_with fail
        go_quiet (fail)
        rename_i nq2
        rw [World.drewN_drewN]
        go_wp2_with fail
        go_roundw
        case rel => exact ⟨k + 1, _, _, by go_num, rfl, by omega, HM.out, rfl⟩
        case measure => simp [intOf]; omega
      · have t1 : decide (e.t ≤ A) = false := decide_eq_false h1
        rw [if_neg h1] at hM
        by_cases h2 : e.f ≤ A
        · have t2 : decide (e.f ≤ A) = true := decide_eq_true h2
          rw [if_pos h2] at hM
          have HM := Lib.hid hM
          clear hM hel
          go_wp2_with fail
          go_ret
          exact ⟨by rw [← HM.out]; rfl, _, rfl⟩
        · have t2 : decide (e.f ≤ A) = false := decide_eq_false h2
          rw [if_neg h2] at hM
          have HM := Lib.hid hM
          clear hM hel
          go_wp2_with fail
          go_roundw
          case rel => exact ⟨k + 1, _, _, by go_num, rfl, by omega, HM.out, rfl⟩
          case measure => simp [intOf]; omega
    · have hkl : k = es.length := by omega
      subst hkl
      rw [List.drop_length] at hM
      have HM := Lib.hid hM
      have hge : decide ((es.length : Int) < (es.length : Int)) = false := by simp
      clear hM
      go_wp2_with fail
      go_ret
      exact ⟨by rw [← HM.out]; rfl, _, rfl⟩

def heavyG : Int → List Ed → Int
  | n, [] => n
  | n, e :: r => heavyG (wr (n + wr (1 + (e.x.size : Int)))) r
def heavyF (l : List Ed) : Bool := decide (300 < heavyG 0 l)
theorem heavyG_sum (B : Nat) (hB : B ≤ 140737488355328) : ∀ (n : Int) (l : List Ed), (∀ e ∈ l, e.x.size ≤ B) → 0 ≤ n → n + (l.length : Int) * (1 + 140737488355328) ≤ 4611686018427387904 → heavyG n l = n + l.length + sumX l
  | n, [], _, _, _ => by simp [heavyG, sumX]
  | n, e :: r, h, h0, hs => by
    have he := h e (List.mem_cons_self ..)
    simp only [List.length_cons] at hs
    have hs' : n + ((r.length : Int) * (1 + 140737488355328) + (1 + 140737488355328)) ≤ 4611686018427387904 := by
      have : ((r.length + 1 : Nat) : Int) * (1 + 140737488355328) = (r.length : Int) * (1 + 140737488355328) + (1 + 140737488355328) := by rw [Int.natCast_add, Int.add_mul]; simp
      omega
    have w1 : wr (1 + (e.x.size : Int)) = 1 + e.x.size := IntWalk.wrap64_in _ (by omega)
    have w2 : wr (n + (1 + (e.x.size : Int))) = n + (1 + e.x.size) := IntWalk.wrap64_in _ (by omega)
    simp only [heavyG, sumX, List.length_cons]
    rw [w1, w2, heavyG_sum B hB _ r (fun x hx => h x (List.mem_cons_of_mem _ hx)) (by omega) (by omega)]
    omega
theorem heavy_light {l : List Ed} (h : heavyF l = false) (hl : l.length ≤ 1000) (hz : ∀ e ∈ l, e.x.size ≤ 140737488355328) : sumX l ≤ 300 := by
  unfold heavyF at h
  have h1 := of_decide_eq_false h
  rw [heavyG_sum 140737488355328 (by omega) 0 l hz (by omega) (by omega)] at h1
  omega

set_option maxRecDepth 100000 in
set_option maxHeartbeats 4000000 in
theorem heavy_calls (v : Value) (es : List Ed) (N : Nat) (w : World) (hes : EdsAt N w v es) :
    Calls Try.prog 11 #[v] w fun e W' => e = .returned (.bool (heavyF es)) ∧ ∃ nq, W' = w.drewN nq := by
  obtain ⟨ao, cap, rfl, hmax, hcells⟩ := hes
  have HC := Lib.hid hcells
  unfold maxLen at hmax
  clear hcells
  go_enter Try.func11, Try.ntmps11
  go_wp2_with fail
  go_loopw [3, 4] (fun m i wr => ∃ (k nq : Nat) (M : Int), i = .int .i64 (k : Int) ∧ m = .int .i64 M ∧ k ≤ es.length ∧ heavyG M (es.drop k) = heavyG 0 es ∧ wr = w.drewN nq) (fun _ i _ => es.length - (intOf i).toNat)
  case atStart => exact ⟨0, 0, 0, rfl, rfl, Nat.zero_le _, rfl, rfl⟩
  case round =>
    obtain ⟨k, nq, M, rfl, rfl, hk, hM, rfl⟩ := hrel
    by_cases hlt : k < es.length
    · have g1 : (0 : Int) ≤ (k : Int) := by omega
      have g2 : (k : Int) < (es.length : Int) := by omega
      obtain ⟨e, hel⟩ : ∃ e, es[k]? = some e := ⟨es[k], by simp [hlt]⟩
      obtain ⟨g, o, rfl, _, c0, c1, c2⟩ := HC.out k e hel
      rw [drop_cons' hel] at hM
      simp only [heavyG] at hM
      have HM := Lib.hid hM
      clear hM hel
      go_wp2_with fail
      go_roundw
      case rel => exact ⟨k + 1, _, _, by go_num, rfl, by omega, HM.out, rfl⟩
      case measure => simp [intOf]; omega
    · have hkl : k = es.length := by omega
      subst hkl
      rw [List.drop_length] at hM
      have hge : decide ((es.length : Int) < (es.length : Int)) = false := by simp
      have hMM : decide (300 < M) = heavyF es := by unfold heavyF; rw [← hM]; rfl
      have HM := Lib.hid hMM
      clear hM hMM
      go_wp2_with fail
      go_ret
      exact ⟨by rw [← HM.out]; rfl, _, rfl⟩
end Go.Proofs.Ytepniobmhplphaa.ed
