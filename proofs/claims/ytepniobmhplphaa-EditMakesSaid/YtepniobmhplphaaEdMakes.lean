/-
  subeditorlaw02.makes: it returns true, of any text and edits whose lengths do not wrap.
-/
import Derived.Test.YtepniobmhplphaaEdRef3
import Derived.Test.YtepniobmhplphaaEdRef4
namespace Go.Proofs.Ytepniobmhplphaa.ed
open Go.RowKit
set_option linter.unusedVariables false

theorem drew_bel' {w w' : World} (h : ∃ nq, w' = w.drewN nq) : Below w.heap.size w w' := by obtain ⟨nq, rfl⟩ := h; exact bel_drewN (Below.refl _ _) _

set_option maxRecDepth 100000 in
set_option maxHeartbeats 4000000 in
theorem refApply_wrong (s : ByteArray) (v : Value) (es : List Ed) (N : Nat) (w : World) (hes : EdsAt N w v es) (hr : rightF es s.size = false) :
    Calls Try.prog 19 #[.string s, v] w fun e w' => e = .returned (.tuple #[.string ⟨#[]⟩, .int .i64 1]) ∧ ∃ nq, w' = w.drewN nq := by
  have hR := refRight_calls v es s.size N w hes
  rw [hr] at hR
  have HR := Lib.hid hR
  clear hR hr hes
  go_enter Try.func19, Try.ntmps19
  go_wp2_with fail
  ((with_reducible refine HR.out.mono ?_); rintro e w1 ⟨rfl, nq, rfl⟩)
  go_wp2_with fail
  go_ret2
  exact ⟨rfl, nq, rfl⟩

set_option maxRecDepth 100000 in
set_option maxHeartbeats 4000000 in
theorem makes_of (s T : ByteArray) (f : Int) (hf : f = 0 ∨ f = 1) (es l : List Ed)
    (HAP : ∀ v w, EdsAt w.heap.size w v es → Calls Try.prog 23 #[.string s, v] w fun e W' => e = .returned (.tuple #[.string T, .int .u16 f]) ∧ Below w.heap.size w W')
    (HRA : ∀ v w, EdsAt w.heap.size w v es → Calls Try.prog 19 #[.string s, v] w fun e W' => e = .returned (.tuple #[.string T, .int .i64 f]) ∧ Below w.heap.size w W')
    (HBK : ∀ v w, EdsAt w.heap.size w v es → Calls Try.prog 24 #[.string s, v] w fun e W' => ∃ u, e = .returned (.tuple #[u, .int .u16 f]) ∧ EdsAt W'.heap.size W' u l ∧ Below w.heap.size w W')
    (HRB : ∀ v w, EdsAt w.heap.size w v es → Calls Try.prog 25 #[.string s, v] w fun e W' => ∃ u, e = .returned (.tuple #[u, .int .i64 f]) ∧ EdsAt W'.heap.size W' u l ∧ Below w.heap.size w W')
    (v : Value) (w : World) (hes : EdsAt w.heap.size w v es) :
    Calls Try.prog 14 #[.string s, v] w fun e W' => e = .returned (.bool true) ∧ Below w.heap.size w W' := by
  have H1 := Lib.hid HAP; have H2 := Lib.hid HRA; have H3 := Lib.hid HBK; have H4 := Lib.hid HRB
  clear HAP HRA HBK HRB
  rcases hf with rfl | rfl
  all_goals
    go_enter Try.func14, Try.ntmps14
    go_wp2_with fail
    ((with_reducible refine (H1.out _ _ hes).mono ?_); rintro e w1 ⟨rfl, hb1⟩)
    have hu1 := hes.next hb1
    go_wp2_with fail
    ((with_reducible refine (H2.out _ _ hu1).mono ?_); rintro e w2 ⟨rfl, hb2⟩)
    have hu2 := hu1.next hb2
    go_wp2_with fail
    ((with_reducible refine (H3.out _ _ hu2).mono ?_); rintro e w3 ⟨x, rfl, hx3, hb3⟩)
    have hu3 := hu2.next hb3
    go_wp2_with fail
    ((with_reducible refine (H4.out _ _ hu3).mono ?_); rintro e w4 ⟨y, rfl, hy4, hb4⟩)
    have hx4 := hx3.next hb4
    go_wp2_with fail
    ((with_reducible refine (refSame_calls x y l _ _ _ hx4 hy4).mono ?_); rintro e w5 ⟨rfl, hb5⟩)
    replace hb5 := drew_bel' hb5
    go_wp2_with fail
    go_ret
    exact ⟨rfl, Below.step (Below.step (Below.step (Below.step hb1 hb2) hb3) hb4) hb5⟩

theorem makes_calls (s : ByteArray) (hs : s.size ≤ 300) (es : List Ed) (hl : rightF es s.size = true → sumX es ≤ 300) (v : Value) (w : World) (hes : EdsAt w.heap.size w v es) :
    Calls Try.prog 14 #[.string s, v] w fun e W' => e = .returned (.bool true) ∧ Below w.heap.size w W' := by
  cases hr : rightF es s.size with
  | false =>
    have hb : backR s es = ([], 1) := by unfold backR; rw [if_neg (by rw [hr]; simp)]
    refine makes_of s ⟨#[]⟩ 1 (.inr rfl) es [] (fun v w h => callsIn_wide.1 (apply_wrong 4 (Nat.le_refl _) s v es w h hr)) (fun v w h => (refApply_wrong s v es _ w h hr).mono fun e W' ⟨he, hd⟩ => ⟨he, drew_bel' hd⟩) ?_ ?_ v w hes
    · intro v w h; have := back_calls s (by omega) v es w h; rw [hb] at this; exact this
    · intro v w h; have := refBack_calls s (by omega) v es w h; rw [hb] at this; exact this
  | true =>
    have hsx := hl hr
    obtain ⟨T, hT⟩ : ∃ T, applyR s es = (T, 0) := ⟨_, by unfold applyR; rw [if_pos hr]⟩
    have hb : backR s es = (backL s es, 0) := by unfold backR; rw [if_pos hr]
    refine makes_of s T 0 (.inl rfl) es (backL s es) ?_ ?_ ?_ ?_ v w hes
    · intro v w h; have := apply_calls s v es w h (by omega); rw [hT] at this; exact this
    · intro v w h; have := refApply_calls s v es _ w h (by omega); rw [hT] at this; exact this.mono fun e W' ⟨he, hd⟩ => ⟨he, drew_bel' hd⟩
    · intro v w h; have := back_calls s (by omega) v es w h; rw [hb] at this; exact this
    · intro v w h; have := refBack_calls s (by omega) v es w h; rw [hb] at this; exact this
end Go.Proofs.Ytepniobmhplphaa.ed
