/-
  subeditorlaw01.known: true, whatever the world.
-/
import Derived.Test.YtmcjjkjolbpneaaUtfText
namespace Go.Proofs.Ytmcjjkjolbpneaa.utf
open Go.RowKit
set_option linter.unusedVariables false

theorem known_p (w : World) : Calls Try.prog 12 #[.string ⟨#[97, 98, 10, 99]⟩, .int .i64 3] w fun e W' => e = .returned (.tuple #[.int .i64 1, .int .i64 0, .bool true]) ∧ Below w.heap.size w W' := by
  have h := place_calls ⟨#[97, 98, 10, 99]⟩ (by decide) 3 (by decide) w
  have e : Sp.placeF (⟨#[97, 98, 10, 99]⟩ : ByteArray).data.toList 3 = (1, 0, true) := by decide
  rw [e] at h
  exact h
theorem known_o (w : World) : Calls Try.prog 13 #[.string ⟨#[97, 98, 10, 99]⟩, .int .i64 1, .int .i64 0] w fun e W' => e = .returned (.tuple #[.int .i64 3, .bool true]) ∧ Below w.heap.size w W' := by
  have h := offset_calls ⟨#[97, 98, 10, 99]⟩ (by decide) 1 0 w
  have e : Sp.offF (⟨#[97, 98, 10, 99]⟩ : ByteArray).data.toList 1 0 = (3, true) := by decide
  rw [e] at h
  exact h
theorem known_c (w : World) : Calls Try.prog 15 #[.string ⟨#[97, 255]⟩] w fun e W' => e = .returned (.int .i64 1) ∧ Below w.heap.size w W' := by
  have h := check_calls ⟨#[97, 255]⟩ (by decide) w
  have e : checkF ⟨#[97, 255]⟩ = 1 := by decide +kernel
  rw [e] at h
  exact h
theorem known_d (w : World) : Calls Try.prog 15 #[.string ⟨#[97]⟩] w fun e W' => e = .returned (.int .i64 (-1)) ∧ Below w.heap.size w W' := by
  have h := check_calls ⟨#[97]⟩ (by decide) w
  have e : checkF ⟨#[97]⟩ = -1 := by decide +kernel
  rw [e] at h
  exact h

theorem Below.next {B : Nat} {w a b : World} (h : Below B w a) (k : Below a.heap.size a b) (hB : B ≤ w.heap.size) : Below B w b := h.trans (k.mono (Nat.le_trans hB h.size))

set_option maxRecDepth 100000 in
set_option maxHeartbeats 2000000 in
theorem known_calls (w : World) : Calls Try.prog 9 #[] w fun e W' => e = .returned (.bool true) ∧ Below w.heap.size w W' := by
  go_enter Try.func9, Try.ntmps9
  go_wp2_with fail
  ((with_reducible refine (known_p _).mono ?_); rintro e w1 ⟨rfl, hb1⟩)
  go_wp2_with fail
  ((with_reducible refine (known_o _).mono ?_); rintro e w2 ⟨rfl, hb2⟩)
  go_wp2_with fail
  ((with_reducible refine (known_c _).mono ?_); rintro e w3 ⟨rfl, hb3⟩)
  go_wp2_with fail
  ((with_reducible refine (known_d _).mono ?_); rintro e w4 ⟨rfl, hb4⟩)
  go_wp2_with fail
  go_ret
  exact ⟨rfl, Below.next (Below.next (Below.next hb1 hb2 (Nat.le_refl _)) hb3 (Nat.le_refl _)) hb4 (Nat.le_refl _)⟩
end Go.Proofs.Ytmcjjkjolbpneaa.utf
