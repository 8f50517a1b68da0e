/-
  subeditorref01.Lines and Same: their contracts.
-/
import Derived.Test.YtmcjjkjolbpneaaUtfLines
import Derived.Test.YtmcjjkjolbpneaaUtfMath
import Derived.Deep.QuietTactic
import Derived.BigQuiet
namespace Go.Proofs.Ytmcjjkjolbpneaa.utf
open Go.RowKit
set_option linter.unusedVariables false

/-- Where the loop stands: what has come is pre; the open line begins at f; we stand at c. -/
def RLn (s : ByteArray) (pre : List (Nat × Nat × Nat)) (f c : Nat) : Prop :=
  (c ≤ s.size ∧ f ≤ c ∧ pre.length ≤ c ∧ Sp.spansOf s.data.toList = pre ++ Sp.spans (s.data.toList.drop c) pre.length f c) ∨ (c = s.size + 1 ∧ pre = Sp.spansOf s.data.toList)

theorem drop_cons (s : ByteArray) (c : Nat) (h : c < s.size) : s.data.toList.drop c = s[c]'h :: s.data.toList.drop (c + 1) := by
  rw [List.drop_eq_getElem_cons (by rw [size_toList]; exact h)]
  rfl

theorem RLn_last {s : ByteArray} {pre : List (Nat × Nat × Nat)} {f : Nat} (h : RLn s pre f s.size) : RLn s (pre ++ [(pre.length, f, s.size)]) (s.size + 1) (s.size + 1) := by
  rcases h with ⟨_, _, _, h⟩ | ⟨h, _⟩
  · refine .inr ⟨rfl, ?_⟩
    rw [h, List.drop_of_length_le (by rw [size_toList]; exact Nat.le_refl _)]
    rfl
  · omega
theorem RLn_feed {s : ByteArray} {pre : List (Nat × Nat × Nat)} {f c : Nat} (h : RLn s pre f c) (hc : c < s.size) (hb : s[c]'hc = 10) : RLn s (pre ++ [(pre.length, f, c)]) (c + 1) (c + 1) := by
  rcases h with ⟨h1, h2, h3, h⟩ | ⟨h, _⟩
  · refine .inl ⟨by omega, Nat.le_refl _, by simp; omega, ?_⟩
    rw [h, drop_cons s c hc, Sp.spans, if_pos hb, List.append_assoc, List.length_append]
    rfl
  · omega
theorem RLn_go {s : ByteArray} {pre : List (Nat × Nat × Nat)} {f c : Nat} (h : RLn s pre f c) (hc : c < s.size) (hb : ¬ s[c]'hc = 10) : RLn s pre f (c + 1) := by
  rcases h with ⟨h1, h2, h3, h⟩ | ⟨h, _⟩
  · refine .inl ⟨by omega, by omega, by omega, ?_⟩
    rw [h, drop_cons s c hc, Sp.spans, if_neg hb]
  · omega

set_option maxRecDepth 100000 in
set_option maxHeartbeats 4000000 in
theorem refLines_row (s : ByteArray) (hs : s.size ≤ 1000) (w : World) :
    Calls Try.prog 22 #[.string s] w fun e W' => ∃ v, e = .returned v ∧ W'.ownsRow w.heap.size 9 1 v (Sp.spansOf s.data.toList).length ((Sp.spansOf s.data.toList).map (lineV s)) ∧ Below w.heap.size w W' := by
  obtain ⟨i0, hi, hz0, hz1, hz2⟩ := info_parts infoS
  go_enter Try.func22, Try.ntmps22
  go_wp2_with fail
  go_loopw [3, 4, 5] (fun o fr i wr => ∃ (pre : List (Nat × Nat × Nat)) (f c : Nat), fr = .int .i64 (f : Int) ∧ i = .int .i64 (c : Int) ∧ f ≤ s.size + 1 ∧ c ≤ s.size + 1 ∧ RLn s pre f c ∧ wr.ownsRow w.heap.size 9 1 o pre.length (pre.map (lineV s)) ∧ Below w.heap.size w wr) (fun _ _ i _ => s.size + 1 - (intOf i).toNat)
  case atStart => exact ⟨[], 0, 0, rfl, rfl, by omega, by omega, .inl ⟨Nat.zero_le _, Nat.le_refl _, Nat.le_refl _, rfl⟩, World.ownsRow_nil _ _ _ _, Below.refl _ _⟩
  case round =>
    obtain ⟨pre, f, c, rfl, rfl, hf, hc, hR, hrow, hB⟩ := hrel
    have hBs := hB.size
    obtain ⟨xs, hxs⟩ : ∃ xs, pre.map (lineV s) = xs := ⟨_, rfl⟩
    rw [hxs] at hrow
    have HX := Lib.hid hxs
    clear hxs
    by_cases hle : c ≤ s.size
    · have t1 : decide ((c : Int) ≤ (s.size : Int)) = true := decide_eq_true (by omega)
      have t1' : decide (c ≤ s.size) = true := decide_eq_true (by omega)
      obtain ⟨hfc, hpl⟩ : f ≤ c ∧ pre.length ≤ c := by
        rcases hR with ⟨_, h2, h3, _⟩ | ⟨h, _⟩
        · exact ⟨h2, h3⟩
        · omega
      have g2 : (f : Int) ≤ (c : Int) := by omega
      have g3 : (c : Int) ≤ (s.size : Int) := by omega
      by_cases heq : c = s.size
      · subst heq
        have hR2 := RLn_last hR
        have HR := Lib.hid hR2
        clear hR hR2
        have t2 : ((s.size : Int) == (s.size : Int)) = true := by simp
        go_wp2_with (at_builtin; refine wpList_append_own _ rfl _ _ 32 rfl w.heap.size 9 i0 (.string ⟨#[]⟩) 1 16 Try.underlying32 hi hz0 hz1 hz2 rfl (by decide) _ _ _ rfl (hrow.alloc _) ⟨wr.heap.size, 0, none⟩ 1 1 [lineV s (pre.length, f, s.size)] rfl rfl (cell_one_new _ _ _) (by simp [lineV, Value.oneCell']) (by unfold maxLen; omega) (by omega) (by simp; omega) ?_; intro v' w1 hown' hgrow _)
        go_roundw
        case rel => exact ⟨pre ++ [(pre.length, f, s.size)], s.size + 1, s.size + 1, by go_num, by go_num, by omega, by omega, HR.out, by rw [List.map_append, HX.out, List.length_append]; exact hown', (hB.alloc (by omega) _).grown hgrow (by simp; omega) (fun j ej => (hrow.lt j ej).1)⟩
        case measure => simp [intOf]
      · have hlt : c < s.size := by omega
        have t2 : ((c : Int) == (s.size : Int)) = false := by rw [beq_eq_false_iff_ne]; omega
        by_cases h10 : s[c]'hlt = 10
        · have hb : (((s[c]'hlt).toNat : Int) == 10) = true := by rw [h10]; rfl
          have hR2 := RLn_feed hR hlt h10
          have HR := Lib.hid hR2
          clear hR hR2 h10
          go_wp2_with (at_builtin; refine wpList_append_own _ rfl _ _ 32 rfl w.heap.size 9 i0 (.string ⟨#[]⟩) 1 16 Try.underlying32 hi hz0 hz1 hz2 rfl (by decide) _ _ _ rfl (hrow.alloc _) ⟨wr.heap.size, 0, none⟩ 1 1 [lineV s (pre.length, f, c)] rfl rfl (cell_one_new _ _ _) (by simp [lineV, Value.oneCell']) (by unfold maxLen; omega) (by omega) (by simp; omega) ?_; intro v' w1 hown' hgrow _)
          go_roundw
          case rel => exact ⟨pre ++ [(pre.length, f, c)], c + 1, c + 1, by go_num, by go_num, by omega, by omega, HR.out, by rw [List.map_append, HX.out, List.length_append]; exact hown', (hB.alloc (by omega) _).grown hgrow (by simp; omega) (fun j ej => (hrow.lt j ej).1)⟩
          case measure => simp [intOf]; omega
        · have hb : (((s[c]'hlt).toNat : Int) == 10) = false := by
            rw [beq_eq_false_iff_ne]
            intro e
            apply h10
            apply UInt8.toNat_inj.1
            show (s[c]'hlt).toNat = 10
            omega
          have hR2 := RLn_go hR hlt h10
          have HR := Lib.hid hR2
          clear hR hR2 h10
          go_wp2_with fail
          go_roundw
          case rel => exact ⟨pre, f, c + 1, rfl, by go_num, hf, by omega, HR.out, by rw [HX.out]; exact hrow, hB⟩
          case measure => simp [intOf]; omega
    · have t1 : decide ((c : Int) ≤ (s.size : Int)) = false := decide_eq_false (by omega)
      have t1' : decide (c ≤ s.size) = false := decide_eq_false (by omega)
      have hpre : pre = Sp.spansOf s.data.toList := by
        rcases hR with ⟨h, _⟩ | ⟨_, h⟩
        · omega
        · exact h
      have HP := Lib.hid hpre
      clear hR hpre
      go_wp2_with fail
      go_ret
      exact ⟨_, rfl, by rw [← HP.out, HX.out]; exact hrow, hB⟩

theorem refLines_list (s : ByteArray) (hs : s.size ≤ 1000) (w : World) :
    Calls Try.prog 22 #[.string s] w fun e W' => ∃ g cap, e = .returned (.slice (some ⟨g, 0, none⟩) (Sp.spansOf s.data.toList).length cap) ∧ w.heap.size ≤ g ∧ g < W'.heap.size ∧
      (∀ (j : Nat) x, (Sp.spansOf s.data.toList)[j]? = some x → W'.cell? ⟨g, j, none⟩ = some (lineV s x)) ∧ Below w.heap.size w W' := by
  refine (refLines_row s hs w).mono ?_
  rintro e W' ⟨v, rfl, hr, hb⟩
  have hne : (Sp.spansOf s.data.toList).length ≠ 0 := fun e => Sp.spans_ne _ 0 0 0 (List.length_eq_zero_iff.1 e)
  rcases hr.2 with ⟨_, h0⟩ | ⟨g, cap, cur, rfl, hg, hgb, _, _, _, hcur⟩
  · exact absurd h0 hne
  · refine ⟨g, cap, rfl, by omega, (Array.getElem?_eq_some_iff.1 hgb).1, fun j x hx => ?_, hb⟩
    have hj : j < (Sp.spansOf s.data.toList).length := (List.getElem?_eq_some_iff.1 hx).1
    rw [hr.cellAt j (by omega), List.getElem?_map, hx]
    rfl

set_option maxRecDepth 100000 in
set_option maxHeartbeats 4000000 in
theorem refSame_calls (g g' m cap cap' : Nat) (hm : m ≤ 100000) (q : Nat → ByteArray) (w : World) (h1 : ∀ j, j < m → w.cell? ⟨g, j, none⟩ = some (.string (q j))) (h2 : ∀ j, j < m → w.cell? ⟨g', j, none⟩ = some (.string (q j))) :
    Calls Try.prog 21 #[.slice (some ⟨g, 0, none⟩) m cap, .slice (some ⟨g', 0, none⟩) m cap'] w fun e w' => e = .returned (.bool true) ∧ ∃ nq, w' = w.drewN nq := by
  have H1 := Lib.hid h1; have H2 := Lib.hid h2
  clear h1 h2
  have t0 : ((m : Int) != (m : Int)) = false := by simp
  go_enter Try.func21, Try.ntmps21
  go_wp2_with fail
  go_loopw [5] (fun i wr => ∃ k nq : Nat, k ≤ m ∧ i = .int .i64 (k : Int) ∧ wr = w.drewN nq) (fun i _ => m - (intOf i).toNat)
  case atStart => exact ⟨0, 0, Nat.zero_le _, rfl, rfl⟩
  case round =>
    obtain ⟨k, nq, hk, rfl, rfl⟩ := hrel
    by_cases hlt : k < m
    · have c1 := H1.out k hlt
      have c2 := H2.out k hlt
      have g1 : (0 : Int) ≤ (k : Int) := by omega
      have g2 : (k : Int) < (m : Int) := by omega
      go_wp2_with fail
      go_quiet (fail)
      rename_i nq2
      rw [World.drewN_drewN]
      go_wp2_with fail
      go_roundw
      case rel => exact ⟨k + 1, _, by omega, by go_num, rfl⟩
      case measure => simp [intOf]; omega
    · go_wp2_with fail
      go_ret
      exact ⟨rfl, nq, rfl⟩
end Go.Proofs.Ytmcjjkjolbpneaa.utf
