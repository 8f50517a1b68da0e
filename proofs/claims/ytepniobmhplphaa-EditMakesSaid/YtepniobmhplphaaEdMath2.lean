/-
  Edits of choices are small; how long a text is when edits were made; where a byte stands then. No program.
-/
import Derived.Test.YtepniobmhplphaaEdShift
namespace Go.Proofs.Ytepniobmhplphaa.ed
open Go.RowKit
set_option linter.unusedVariables false

def Small (e : Ed) : Prop := 0 ≤ e.f ∧ e.f ≤ e.t ∧ e.t ≤ 1000 ∧ e.x.size ≤ 4
theorem putX_small (c : Int) : (putX c).size ≤ 4 := by unfold putX; rw [ByteArray.size_extract]; have : xyzw.size = 4 := rfl; omega
theorem edsL_small (n : Int) (hn : n ≤ 1000) : ∀ k bs at', 0 ≤ at' → ∀ e ∈ edsL n k bs at', Small e
  | 0, _, _, _, e, he => by simp [edsL] at he
  | k + 1, [], _, _, e, he => by simp [edsL] at he
  | k + 1, [_], _, _, e, he => by simp [edsL] at he
  | k + 1, [_, _], _, _, e, he => by simp [edsL] at he
  | k + 1, a :: b :: c :: r, at', h0, e, he => by
    simp only [edsL] at he
    split at he
    · cases he
    · rename_i hlt
      rcases List.mem_cons.1 he with rfl | he
      · exact ⟨by simp only; omega, by simp only; omega, by simp only; omega, putX_small c⟩
      · exact edsL_small n hn k r _ (by unfold nextAt; split <;> omega) e he
theorem edsF_small (bs : List Int) (n : Int) (hn : n ≤ 1000) : ∀ e ∈ edsF bs n, Small e := edsL_small n hn 10 bs 0 (by omega)
theorem edsF_length (bs : List Int) (n : Int) : (edsF bs n).length ≤ 10 := edsL_length n 10 bs 0
theorem sumX_small : ∀ l : List Ed, (∀ e ∈ l, Small e) → sumX l ≤ 4 * l.length
  | [], _ => by simp [sumX]
  | e :: r, h => by
    have h1 := (h e (List.mem_cons_self ..)).2.2.2
    have := sumX_small r (fun x hx => h x (List.mem_cons_of_mem _ hx))
    simp only [sumX, List.length_cons]; omega

def growI (e : Ed) : Int := (e.x.size : Int) - (e.t - e.f)
def sumG : List Ed → Int
  | [] => 0
  | e :: r => growI e + sumG r
theorem sumG_append : ∀ a b, sumG (a ++ b) = sumG a + sumG b
  | [], b => by simp [sumG]
  | e :: r, b => by simp [sumG, sumG_append r b, Int.add_assoc]
theorem grow_small {e : Ed} (h : Small e) : grow e = growI e ∧ -1000 ≤ growI e ∧ growI e ≤ 4 := by
  obtain ⟨h1, h2, h3, h4⟩ := h
  unfold grow growI wr
  rw [IntWalk.wrap64_in (e.t - e.f) (by omega), IntWalk.wrap64_in _ (by omega)]
  exact ⟨rfl, by omega, by omega⟩
theorem sumG_small : ∀ l : List Ed, (∀ e ∈ l, Small e) → -1000 * (l.length : Int) ≤ sumG l ∧ sumG l ≤ 4 * (l.length : Int)
  | [], _ => by simp [sumG]
  | e :: r, h => by
    have h1 := grow_small (h e (List.mem_cons_self ..))
    have := sumG_small r (fun x hx => h x (List.mem_cons_of_mem _ hx))
    simp only [sumG, List.length_cons]; omega
theorem more_sum : ∀ (m : Int) (l : List Ed), (∀ e ∈ l, Small e) → -1000000000 ≤ m - 1000 * l.length → m + 4 * l.length ≤ 1000000000 → more m l = m + sumG l
  | m, [], _, _, _ => by simp [more, sumG]
  | m, e :: r, h, h1, h2 => by
    have hg := grow_small (h e (List.mem_cons_self ..))
    simp only [List.length_cons] at h1 h2
    simp only [more, sumG]
    have e1 : wr (m + grow e) = m + growI e := by rw [hg.1]; exact IntWalk.wrap64_in _ (by omega)
    rw [e1, more_sum (m + growI e) r (fun x hx => h x (List.mem_cons_of_mem _ hx)) (by omega) (by omega)]
    omega

theorem madeL_len_eq (s : ByteArray) : ∀ (f t : Int) (l : List Ed), rightG f t s.size l = true → 0 ≤ t → ((madeL s t l).length : Int) = lastT t l - t + sumG l
  | _, t, [], _, _ => by simp [madeL, lastT, sumG]
  | f, t, e :: r, h, h0 => by
    simp only [rightG, bad, Bool.and_eq_true, Bool.not_eq_true', Bool.or_eq_false_iff, decide_eq_false_iff_not] at h
    have ih := madeL_len_eq s e.f e.t r h.2 (by omega)
    have hp := piece_size s t e.f
    simp only [madeL, lastT, sumG, growI, List.length_append, size_toList]
    omega
theorem madeAll_len (s : ByteArray) (l : List Ed) (h : rightG (-1) 0 s.size l = true) : ((madeAll s l).length : Int) = s.size + sumG l := by
  have h1 := madeL_len_eq s (-1) 0 l h (by omega)
  have h2 := right_bd (-1) 0 s.size l h (by omega) (by omega)
  have hp := piece_size s (lastT 0 l) s.size
  unfold madeAll
  rw [List.length_append, size_toList]
  omega
theorem right_passed : ∀ (f t n : Int) (l : List Ed), rightG f t n l = true → 0 ≤ t → passed n l
  | _, _, _, [], _, _ => fun e he => by cases he
  | f, t, n, e :: r, h, h0 => by
    simp only [rightG, bad, Bool.and_eq_true, Bool.not_eq_true', Bool.or_eq_false_iff, decide_eq_false_iff_not] at h
    intro x hx
    rcases List.mem_cons.1 hx with rfl | hx
    · omega
    · exact right_passed e.f e.t n r h.2 (by omega) x hx
theorem shift_end (s : ByteArray) (l : List Ed) (h : rightG (-1) 0 s.size l = true) (hs : ∀ e ∈ l, Small e) (hl : l.length ≤ 1000) (hz : s.size ≤ 1000) : shiftF l s.size = s.size + sumG l := by
  have hp := right_passed (-1) 0 s.size l h (by omega)
  have h1 := shiftG_passed s.size 0 l [] hp
  rw [List.append_nil] at h1
  have h2 := more_sum 0 l hs (by omega) (by omega)
  have h3 := sumG_small l hs
  unfold shiftF
  rw [h1, h2]
  simp only [shiftG, Int.zero_add]
  exact IntWalk.wrap64_in _ (by omega)
def firstF (s : ByteArray) : List Ed → Int
  | [] => s.size
  | e :: _ => e.f
theorem made_front (s : ByteArray) (l : List Ed) (h : rightG (-1) 0 s.size l = true) : 0 ≤ firstF s l ∧ firstF s l ≤ s.size ∧ (firstF s l) ≤ ((madeAll s l).length : Int) ∧ (madeAll s l).take (firstF s l).toNat = s.data.toList.take (firstF s l).toNat := by
  cases l with
  | nil =>
    have e : madeAll s [] = s.data.toList := by
      unfold madeAll
      simp only [madeL, lastT, List.nil_append]
      rw [show (0 : Int) = ((0 : Nat) : Int) from rfl, piece_toList, ← size_toList, List.take_length]
      rfl
    rw [e, size_toList]
    exact ⟨by simp [firstF], by simp [firstF], by simp [firstF], rfl⟩
  | cons e r =>
    simp only [rightG, bad, Bool.and_eq_true, Bool.not_eq_true', Bool.or_eq_false_iff, decide_eq_false_iff_not] at h
    obtain ⟨f, hf⟩ : ∃ f : Nat, e.f = f := ⟨e.f.toNat, by omega⟩
    have e1 : madeAll s (e :: r) = s.data.toList.take f ++ (e.x.data.toList ++ madeL s e.t r ++ (piece s (lastT e.t r) s.size).data.toList) := by
      unfold madeAll
      simp only [madeL, lastT]
      rw [hf, show (0 : Int) = ((0 : Nat) : Int) from rfl, piece_toList]
      simp [List.append_assoc]
    rw [e1]
    simp only [firstF, hf, Int.toNat_natCast]
    have hfl : f ≤ s.data.toList.length := by rw [size_toList]; omega
    refine ⟨by omega, by omega, ?_, ?_⟩
    · rw [List.length_append, List.length_take]; omega
    · rw [List.take_append_of_le_length (by rw [List.length_take]; omega), List.take_take, Nat.min_self]

end Go.Proofs.Ytepniobmhplphaa.ed
