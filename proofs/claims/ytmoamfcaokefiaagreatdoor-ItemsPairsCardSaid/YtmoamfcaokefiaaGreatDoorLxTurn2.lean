/-
  lex: turn whole, tried, ended: their contracts, on a lexer.
-/
import Derived.Test.YtmoamfcaokefiaaGreatDoorLxTurn
namespace Go.Proofs.YtmoamfcaokefiaaGreatDoor.lx
open Go.RowKit Go.Shelf
open sg (lst_len extract_drop ext_size)
open sx
set_option linter.unusedVariables false

theorem turn_err (Lb : Nat) (k : Int) (t : ByteArray) (W : World) (base : Nat) (rest : ByteArray) (x : Lx.Lex) (vO vC vI bv : Value) (h : LexV W Lb base rest x vO vC vI bv) (e' : Int) (ht : Lx.turn x k t.data.toList = .error e') :
    e' = 21 ∧ Calls Tryz.prog 96 #[ptr Lb, .agg #[.int .i64 k, .string t]] W fun e w' => e = .returned (.int .u16 e') ∧ Below W.heap.size W w' := by
  unfold Lx.turn at ht
  split at ht
  · cases ht
  · split at ht
    · cases ht
    · split at ht
      · rename_i hk
        subst hk
        split at ht
        · rename_i hd
          cases ht
          exact ⟨rfl, turn_deep Lb t W base rest x vO vC vI bv h hd⟩
        · cases ht
      · split at ht
        · cases ht
        · split at ht <;> cases ht
theorem lastD_eq {α : Type} (l : List α) (h : l ≠ []) (d : α) : l.getLastD d = l.getLast h := by
  cases l with
  | nil => exact absurd rfl h
  | cons a r => rfl
theorem turn_ok (Lb : Nat) (k : Int) (t : ByteArray) (W : World) (base : Nat) (rest : ByteArray) (x y : Lx.Lex) (vO vC vI bv : Value) (h : LexV W Lb base rest x vO vC vI bv) (hbase : base ≤ W.heap.size) (hd : x.below.length ≤ 256) (h10 : k = 10 → x.below ≠ [])
    (ht : Lx.turn x k t.data.toList = .ok y) :
    Calls Tryz.prog 96 #[ptr Lb, .agg #[.int .i64 k, .string t]] W fun e w' => e = .returned (.int .u16 0) ∧ Turned W Lb base rest y vO vC vI bv w' := by
  unfold Lx.turn at ht
  split at ht
  · rename_i hk
    cases ht
    exact turn_text Lb k t W base rest x vO vC vI bv h true (.inl ⟨hk, rfl⟩)
  · rename_i k7
    split at ht
    · rename_i hk
      cases ht
      exact turn_text Lb k t W base rest x vO vC vI bv h false (.inr ⟨hk, rfl⟩)
    · rename_i k11
      split at ht
      · rename_i hk
        subst hk
        split at ht
        · cases ht
        · rename_i hn
          cases ht
          exact turn_open Lb t W base rest x vO vC vI bv h (by omega) hbase
      · rename_i k9
        split at ht
        · rename_i hk
          subst hk
          cases ht
          have hne := h10 rfl
          have hx : x.below = x.below.dropLast ++ [x.below.getLast hne] := (List.dropLast_concat_getLast hne).symm
          rw [lastD_eq _ hne]
          exact turn_close Lb t W base rest x vO vC vI bv h _ _ hx hd
        · rename_i k10
          split at ht
          · rename_i hk
            subst hk
            cases ht
            exact turn_op Lb t W base rest x vO vC vI bv h
          · rename_i k13
            cases ht
            exact (turn_none Lb k t W k7 k11 k9 k10 k13).mono fun e w' ⟨he, hb⟩ => ⟨he, bv, h.own hb, But.of_below hb⟩

/-- The value of the shapes that are tried. -/
def triedV (x : Lx.Lex) (vO vC vI : Value) : Value := if x.top.text then vI else if 0 < x.below.length ∧ x.top.br = 0 then vC else vO
theorem triedV_on {bl : List (Nat × TypeId × Array Value)} {vO vC vI : Value} (x : Lx.Lex) (hO : ShapesOn bl vO Lx.outside) (hC : ShapesOn bl vC Lx.closing) (hI : ShapesOn bl vI Lx.inside) : ShapesOn bl (triedV x vO vC vI) (Lx.tried x) := by
  unfold triedV Lx.tried
  split
  · exact hI
  · split
    · exact hC
    · exact hO

set_option maxRecDepth 100000 in
set_option maxHeartbeats 4000000 in
theorem tried_calls (Lb : Nat) (W : World) (base : Nat) (rest : ByteArray) (x : Lx.Lex) (vO vC vI bv : Value) (h : LexV W Lb base rest x vO vC vI bv) (v : Value) (hv : triedV x vO vC vI = v) :
    Calls Tryz.prog 95 #[ptr Lb] W fun e w' => e = .returned v ∧ w' = W := by
  obtain ⟨ao, cap, rfl⟩ := h.slice
  have hdc := depth_calls Lb _ _ _ _ (h.1.cell 3)
  have c1 : W.cell? ⟨Lb, 1, none⟩ = some (.bool x.top.text) := h.1.cell 1
  have c2 : W.cell? ⟨Lb, 2, none⟩ = some (.int .i64 x.top.br) := h.1.cell 2
  have c4 : W.cell? ⟨Lb, 4, none⟩ = some vO := h.1.cell 4
  have c5 : W.cell? ⟨Lb, 5, none⟩ = some vC := h.1.cell 5
  have c6 : W.cell? ⟨Lb, 6, none⟩ = some vI := h.1.cell 6
  clear h
  obtain ⟨⟨tx, br⟩, below⟩ := x
  simp only at c1 c2 hdc
  unfold triedV at hv
  simp only at hv
  cases tx with
  | true =>
    rw [if_pos rfl] at hv
    subst hv
    go_enter Tryz.func95, Tryz.ntmps95
    go_wp2_with fail
    go_ret
    exact ⟨rfl, rfl⟩
  | false =>
    rw [if_neg (by decide)] at hv
    obtain ⟨d, hd⟩ : ∃ d, below.length = d := ⟨_, rfl⟩
    rw [hd] at hdc hv
    clear hd
    by_cases h0 : 0 < d
    · have t0 : decide ((0 : Int) < (d : Int)) = true := decide_eq_true (by omega)
      by_cases h1 : br = 0
      · rw [if_pos ⟨h0, h1⟩] at hv
        subst hv
        subst h1
        go_enter Tryz.func95, Tryz.ntmps95
        go_wp2_with fail
        ((with_reducible refine hdc.mono ?_); rintro e w1 ⟨rfl, rfl⟩)
        go_wp2_with fail
        go_ret
        exact ⟨rfl, rfl⟩
      · rw [if_neg (fun e => h1 e.2)] at hv
        subst hv
        have t1 : (br == 0) = false := by rw [beq_eq_false_iff_ne]; exact h1
        go_enter Tryz.func95, Tryz.ntmps95
        go_wp2_with fail
        ((with_reducible refine hdc.mono ?_); rintro e w1 ⟨rfl, rfl⟩)
        go_wp2_with fail
        go_ret
        exact ⟨rfl, rfl⟩
    · rw [if_neg (fun e => h0 e.1)] at hv
      subst hv
      have t0 : decide ((0 : Int) < (d : Int)) = false := decide_eq_false (by omega)
      go_enter Tryz.func95, Tryz.ntmps95
      go_wp2_with fail
      ((with_reducible refine hdc.mono ?_); rintro e w1 ⟨rfl, rfl⟩)
      go_wp2_with fail
      go_ret
      exact ⟨rfl, rfl⟩

set_option maxRecDepth 100000 in
set_option maxHeartbeats 4000000 in
theorem ended_calls (Lb : Nat) (W : World) (base : Nat) (rest : ByteArray) (x : Lx.Lex) (vO vC vI bv : Value) (h : LexV W Lb base rest x vO vC vI bv) (v : Bool) (hv : Lx.ended x = v) :
    Calls Tryz.prog 85 #[ptr Lb] W fun e w' => e = .returned (.bool v) ∧ w' = W := by
  obtain ⟨ao, cap, rfl⟩ := h.slice
  have hdc := depth_calls Lb _ _ _ _ (h.1.cell 3)
  have c1 : W.cell? ⟨Lb, 1, none⟩ = some (.bool x.top.text) := h.1.cell 1
  clear h
  obtain ⟨⟨tx, br⟩, below⟩ := x
  simp only at c1 hdc
  unfold Lx.ended at hv
  simp only at hv
  cases below with
  | nil =>
    have hdc' : Calls Tryz.prog 97 #[.pointer (some ⟨Lb, 1, none⟩)] W fun e w' => e = .returned (.int .i64 0) ∧ w' = W := hdc
    clear hdc
    subst hv
    go_enter Tryz.func85, Tryz.ntmps85
    go_wp2_with fail
    ((with_reducible refine hdc'.mono ?_); rintro e w1 ⟨rfl, rfl⟩)
    go_wp2_with fail
    go_ret
    exact ⟨by simp, rfl⟩
  | cons a r =>
    obtain ⟨d, hd⟩ : ∃ d, (a :: r).length = d := ⟨_, rfl⟩
    have h0 : d ≠ 0 := by rw [← hd]; simp
    rw [hd] at hdc
    have t0 : ((d : Int) == 0) = false := by rw [beq_eq_false_iff_ne]; omega
    have hv' : v = false := by rw [← hv]; rfl
    subst hv'
    clear hd hv
    go_enter Tryz.func85, Tryz.ntmps85
    go_wp2_with fail
    ((with_reducible refine hdc.mono ?_); rintro e w1 ⟨rfl, rfl⟩)
    go_wp2_with fail
    go_ret
    exact ⟨rfl, rfl⟩
end Go.Proofs.YtmoamfcaokefiaaGreatDoor.lx
