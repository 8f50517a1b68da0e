/-
  subeditorref02.Apply and Shift: the contracts.
-/
import Derived.Test.YtepniobmhplphaaEdRef1
namespace Go.Proofs.Ytepniobmhplphaa.ed
open Go.RowKit
set_option linter.unusedVariables false

set_option maxRecDepth 100000 in
set_option maxHeartbeats 4000000 in
theorem refApply_calls (s : ByteArray) (v : Value) (es : List Ed) (N : Nat) (w : World) (hes : EdsAt N w v es) (hsum : s.size + sumX es ≤ 140737488355328) :
    Calls Try.prog 19 #[.string s, v] w fun e w' => e = .returned (.tuple #[.string (applyR s es).1, .int .i64 (applyR s es).2]) ∧ ∃ nq, w' = w.drewN nq := by
  have hR := refRight_calls v es s.size N w hes
  unfold applyR
  cases hr : rightF es s.size with
  | false =>
    rw [hr] at hR
    have HR := Lib.hid hR
    rw [if_neg (by simp)]
    clear hR hr hes
    go_enter Try.func19, Try.ntmps19
    go_wp2_with fail
    ((with_reducible refine HR.out.mono ?_); rintro e w1 ⟨rfl, nq, rfl⟩)
    go_wp2_with fail
    go_ret2
    exact ⟨rfl, nq, rfl⟩
  | true =>
    rw [hr] at hR
    have HR := Lib.hid hR
    rw [if_pos rfl]
    have hrG : rightG (-1) 0 s.size es = true := by unfold rightF at hr; rw [Bool.and_eq_true] at hr; exact hr.2
    have HG := Lib.hid hrG
    obtain ⟨ao, cap, rfl, hmax, hcells⟩ := hes
    have HC := Lib.hid hcells
    unfold maxLen at hmax
    clear hR hr hrG hcells
    go_enter Try.func19, Try.ntmps19
    go_wp2_with fail
    ((with_reducible refine HR.out.mono ?_); rintro e w1 ⟨rfl, nq0, rfl⟩)
    go_wp2_with fail
    go_loopw [6, 7, 8] (fun o a i wr => ∃ (k nq : Nat) (O : ByteArray), i = .int .i64 (k : Int) ∧ o = .string O ∧ a = .int .i64 (lastT 0 (es.take k)) ∧ k ≤ es.length ∧ O.data.toList = madeL s 0 (es.take k) ∧ wr = w.drewN nq) (fun _ _ i _ => es.length - (intOf i).toNat)
    case atStart => exact ⟨0, nq0, ⟨#[]⟩, rfl, rfl, rfl, Nat.zero_le _, rfl, rfl⟩
    case round =>
      obtain ⟨k, nq, O, rfl, rfl, rfl, hk, hO, rfl⟩ := hrel
      by_cases hlt : k < es.length
      · have g1 : (0 : Int) ≤ (k : Int) := by omega
        have g2 : (k : Int) < (es.length : Int) := by omega
        obtain ⟨e, hel⟩ : ∃ e, es[k]? = some e := ⟨es[k], by simp [hlt]⟩
        obtain ⟨g, o, rfl, _, c0, c1, c2⟩ := HC.out k e hel
        have hspl : es = es.take k ++ e :: es.drop (k + 1) := by
          have h1 := (List.take_append_drop k es).symm
          rw [List.drop_eq_getElem_cons hlt] at h1
          have h2 : es[k] = e := by rw [List.getElem?_eq_getElem hlt] at hel; exact Option.some.inj hel
          rw [h2] at h1
          exact h1
        obtain ⟨hpr, h0, hle, hft, htn, _⟩ := right_next HG.out (by omega) hspl
        have hlen := madeL_len s (-1) 0 s.size (es.take k) hpr (by omega)
        have hsx : sumX es = sumX (es.take k) + (e.x.size + sumX (es.drop (k + 1))) := by have := congrArg sumX hspl; rw [sumX_append] at this; exact this
        rw [← hO, size_toList] at hlen
        have hsn : madeL s 0 (es.take (k + 1)) = O.data.toList ++ (piece s (lastT 0 (es.take k)) e.f).data.toList ++ e.x.data.toList := by rw [take_next hel, madeL_snoc, hO]
        have hls : lastT 0 (es.take (k + 1)) = e.t := by rw [take_next hel, lastT_snoc]
        obtain ⟨p, hp⟩ : ∃ p : Nat, lastT 0 (es.take k) = (p : Int) := ⟨(lastT 0 (es.take k)).toNat, by omega⟩
        obtain ⟨q, hq⟩ : ∃ q : Nat, e.f = (q : Int) := ⟨e.f.toNat, by omega⟩
        rw [hp] at h0 hle hlen hsn ⊢
        rw [hq] at c0 hle hft hsn
        have hpq : (p : Int) ≤ (q : Int) := by omega
        have hqs : (q : Int) ≤ (s.size : Int) := by omega
        have hps : (s.extract p q).size = q - p := by rw [ByteArray.size_extract]; omega
        have b1 : ¬ 9223372036854775807 < O.size + (s.extract p q).size := by rw [hps]; omega
        have b2 : ¬ 9223372036854775807 < (O ++ s.extract p q).size + e.x.size := by rw [ByteArray.size_append, hps]; omega
        have hfin : (O ++ s.extract p q ++ e.x).data.toList = madeL s 0 (es.take (k + 1)) := by rw [hsn, app_toList, app_toList]; rfl
        have HF := Lib.hid hfin; have HLS := Lib.hid hls
        clear hel hspl hpr hsx hsn hls hfin hlen hp hq hps
        go_wp2_with fail
        go_quiet (fail)
        rename_i nq2
        rw [World.drewN_drewN]
        go_wp2_with fail
        go_roundw
        case rel => exact ⟨k + 1, _, _, by go_num, rfl, by rw [HLS.out], by omega, HF.out, rfl⟩
        case measure => simp [intOf]; omega
      · have hkl : k = es.length := by omega
        subst hkl
        rw [List.take_length] at hO ⊢
        have hbd := right_bd (-1) 0 s.size es HG.out (by omega) (by omega)
        have hlen := madeL_len s (-1) 0 s.size es HG.out (by omega)
        rw [← hO, size_toList] at hlen
        have hge : decide ((es.length : Int) < (es.length : Int)) = false := by simp
        have hall : madeAll s es = O.data.toList ++ (piece s (lastT 0 es) s.size).data.toList := by unfold madeAll; rw [hO]
        obtain ⟨p, hp⟩ : ∃ p : Nat, lastT 0 es = (p : Int) := ⟨(lastT 0 es).toNat, by omega⟩
        rw [hp] at hbd hlen hall ⊢
        have hps : (p : Int) ≤ (s.size : Int) := by omega
        have hpz : (s.extract p s.size).size = s.size - p := by rw [ByteArray.size_extract]; omega
        have b1 : ¬ 9223372036854775807 < O.size + (s.extract p s.size).size := by rw [hpz]; omega
        have hfin : O ++ s.extract p s.size = ⟨(madeAll s es).toArray⟩ := ba_ext (by rw [app_toList, hall]; rfl)
        have HF := Lib.hid hfin
        clear hO hbd hlen hall hp hpz hfin
        go_wp2_with fail
        go_ret2
        exact ⟨by rw [HF.out]; rfl, _, rfl⟩
end Go.Proofs.Ytepniobmhplphaa.ed
