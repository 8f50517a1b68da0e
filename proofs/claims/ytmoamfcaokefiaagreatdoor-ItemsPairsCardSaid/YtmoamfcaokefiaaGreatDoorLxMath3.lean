/-
  Plain mathematics of layer 4, for its laws: strings in strings; pieces.
-/
import Derived.Test.YtmoamfcaokefiaaGreatDoorLxMath2
namespace Go.Proofs.YtmoamfcaokefiaaGreatDoor.Lx
open Go.RowKit
set_option linter.unusedVariables false

theorem next_of {x y : Lex} {l : List UInt8} {k : Int} {n : Nat} (hf : find (tried x) l = some (k, n)) (ht : turn x k (l.take n) = .ok y) : next x l = .ok (k, n, y) := by
  unfold next; rw [hf]; simp only; rw [ht]
theorem next_bad {x : Lex} {l : List UInt8} {k e : Int} {n : Nat} (hf : find (tried x) l = some (k, n)) (ht : turn x k (l.take n) = .error e) : next x l = .error e := by
  unfold next; rw [hf]; simp only; rw [ht]

/-- Outside, d strings deep. -/
def out (d : Nat) : Lex := ⟨⟨false, 0⟩, List.replicate d ⟨true, 0⟩⟩
def inn (d : Nat) : Lex := ⟨⟨true, 0⟩, List.replicate d ⟨true, 0⟩⟩
theorem tried_out (d : Nat) : tried (out d) = if d = 0 then outside else closing := by
  unfold tried out
  cases d with
  | zero => rfl
  | succ d => rw [if_neg (by simp), if_pos ⟨by simp, rfl⟩, if_neg (by omega)]
theorem tried_inn (d : Nat) : tried (inn d) = inside := rfl

theorem find_q_out (r : List UInt8) : find outside (34 :: r) = some (7, 1) := rfl
theorem find_q_clo (r : List UInt8) : find closing (34 :: r) = some (7, 1) := rfl
theorem find_q_in (r : List UInt8) : find inside (34 :: r) = some (11, 1) := rfl
theorem find_o_in (r : List UInt8) : find inside (92 :: 40 :: r) = some (9, 2) := rfl
theorem find_c_clo (r : List UInt8) : find closing (41 :: r) = some (10, 1) := rfl
theorem find_1_nil : find outside [49] = some (6, 1) := by decide +kernel
theorem find_1_out (r : List UInt8) : find outside (49 :: 41 :: r) = some (6, 1) := rfl
theorem find_1_clo (r : List UInt8) : find closing (49 :: 41 :: r) = some (6, 1) := rfl

theorem step_of {x y : Lex} {l : List UInt8} {k : Int} {n : Nat} (h0 : l ≠ []) (hf : find (tried x) l = some (k, n)) (ht : turn x k (l.take n) = .ok y) : lexA x l = ((k, l.take n) :: (lexA y (l.drop n)).1, (lexA y (l.drop n)).2) :=
  lexA_ok (next_of hf ht) h0
theorem step_q (d : Nat) (r : List UInt8) : lexA (out d) (34 :: r) = ((7, [34]) :: (lexA (inn d) r).1, (lexA (inn d) r).2) := by
  refine step_of (x := out d) (y := inn d) (l := 34 :: r) (k := 7) (n := 1) (by simp) ?_ rfl
  rw [tried_out]
  split
  · exact find_q_out r
  · exact find_q_clo r
theorem step_e (d : Nat) (r : List UInt8) : lexA (inn d) (34 :: r) = ((11, [34]) :: (lexA (out d) r).1, (lexA (out d) r).2) :=
  step_of (x := inn d) (y := out d) (l := 34 :: r) (k := 11) (n := 1) (by simp) (find_q_in r) rfl
theorem step_o (d : Nat) (hd : d < 256) (r : List UInt8) : lexA (inn d) (92 :: 40 :: r) = ((9, [92, 40]) :: (lexA (out (d + 1)) r).1, (lexA (out (d + 1)) r).2) := by
  refine step_of (x := inn d) (y := out (d + 1)) (l := 92 :: 40 :: r) (k := 9) (n := 2) (by simp) (find_o_in r) ?_
  unfold turn
  rw [if_neg (by decide), if_neg (by decide), if_pos rfl, if_neg (by simp [inn]; omega)]
  simp [inn, out, List.replicate_succ']
theorem step_deep (r : List UInt8) : lexA (inn 256) (92 :: 40 :: r) = ([], 21) := by
  refine lexA_err (next_bad (x := inn 256) (l := 92 :: 40 :: r) (k := 9) (n := 2) (find_o_in r) ?_) (by simp)
  unfold turn
  rw [if_neg (by decide), if_neg (by decide), if_pos rfl, if_pos (by show 256 ≤ (List.replicate 256 _).length; rw [List.length_replicate]; omega)]
theorem step_c (d : Nat) (r : List UInt8) : lexA (out (d + 1)) (41 :: 34 :: r) = ((10, [41]) :: (11, [34]) :: (lexA (out d) r).1, (lexA (out d) r).2) := by
  have h : lexA (out (d + 1)) (41 :: 34 :: r) = ((10, [41]) :: (lexA (inn d) (34 :: r)).1, (lexA (inn d) (34 :: r)).2) := by
    refine step_of (x := out (d + 1)) (y := inn d) (l := 41 :: 34 :: r) (k := 10) (n := 1) (by simp) (by rw [tried_out, if_neg (by omega)]; exact find_c_clo _) ?_
    unfold turn
    rw [if_neg (by decide), if_neg (by decide), if_neg (by decide), if_pos rfl]
    have e : (out (d + 1)).below = List.replicate d ⟨true, 0⟩ ++ [⟨true, 0⟩] := by simp [out, List.replicate_succ']
    rw [e]
    simp [inn, List.getLastD_eq_getLast?]
  rw [h, step_e]

def opens : Nat → List UInt8 → List UInt8
  | 0, r => r
  | k + 1, r => 34 :: 92 :: 40 :: opens k r
def closes : Nat → List UInt8
  | 0 => []
  | k + 1 => 41 :: 34 :: closes k
theorem lex_closes (d : Nat) : (lexA (out d) (closes d)).2 = 0 ∧ (lexA (out d) (closes d)).1.length = 2 * d := by
  induction d with
  | zero => simp [closes, lexA_nil, out, ended]
  | succ d ih =>
    rw [closes, step_c]
    exact ⟨ih.1, by simp only [List.length_cons]; omega⟩
theorem lex_one (d : Nat) : (lexA (out d) (49 :: closes d)).2 = 0 ∧ (lexA (out d) (49 :: closes d)).1.length = 2 * d + 1 := by
  have hc := lex_closes d
  have h : lexA (out d) (49 :: closes d) = ((6, [49]) :: (lexA (out d) (closes d)).1, (lexA (out d) (closes d)).2) := by
    refine step_of (x := out d) (y := out d) (l := 49 :: closes d) (k := 6) (n := 1) (by simp) ?_ rfl
    rw [tried_out]
    cases d with
    | zero => exact find_1_nil
    | succ d => rw [if_neg (by omega)]; exact find_1_clo _
  rw [h]
  exact ⟨hc.1, by simp only [List.length_cons]; omega⟩
theorem lex_opens (k d : Nat) (h : d + k ≤ 256) : (lexA (out d) (opens k (49 :: closes (d + k)))).2 = 0 ∧ (lexA (out d) (opens k (49 :: closes (d + k)))).1.length = 2 * k + (2 * (d + k) + 1) := by
  induction k generalizing d with
  | zero => have := lex_one d; simp only [opens, Nat.add_zero, Nat.mul_zero, Nat.zero_add] at *; exact this
  | succ k ih =>
    have := ih (d + 1) (by omega)
    rw [show d + 1 + k = d + (k + 1) by omega] at this
    rw [opens, step_q, step_o d (by omega)]
    exact ⟨this.1, by simp only [List.length_cons]; omega⟩
theorem lex_deep (k d : Nat) (r : List UInt8) (hd : d ≤ 256) (h : 256 < d + k) : (lexA (out d) (opens k r)).2 = 21 := by
  induction k generalizing d with
  | zero => omega
  | succ k ih =>
    rw [opens, step_q]
    by_cases h256 : d = 256
    · subst h256; rw [step_deep]
    · rw [step_o d (by omega)]
      exact ih (d + 1) (by omega) (by omega)
theorem out_start : out 0 = start := rfl

/-- A text that is told in a string as it is. -/
def Item (e : List UInt8) : Prop := ∀ r, piece (e ++ r) = e.length + piece r
theorem item_nil : Item [] := fun r => by simp
theorem item_app {a b : List UInt8} (ha : Item a) (hb : Item b) : Item (a ++ b) := fun r => by rw [List.append_assoc, ha, hb, List.length_append]; omega
theorem item_plain {e : List UInt8} (h : ∀ b ∈ e, cN (b.toNat : Int) = true) : Item e := by
  induction e with
  | nil => exact item_nil
  | cons b r ih =>
    intro t
    rw [List.cons_append, piece_one b _ (h b (List.mem_cons_self ..)), ih (fun x hx => h x (List.mem_cons_of_mem _ hx)) t, List.length_cons]
    omega
theorem item_esc {e : List UInt8} {n : Nat} (hl : (92 :: e).length = n) (hn : n ≠ 0) (h : ∀ r, Sg.escape (92 :: (e ++ r)) = n) : Item (92 :: e) := fun r => by
  rw [List.cons_append, piece_esc _ (by rw [h r]; exact hn), h r, ← List.cons_append, List.drop_append_of_le_length (by omega), List.drop_of_length_le (by omega), hl]
  rfl
theorem item_n : Item [92, 110] := item_esc (n := 2) rfl (by decide) (fun r => rfl)
theorem item_u : Item [92, 117, 48, 48, 101, 57] := item_esc (n := 6) rfl (by decide) (fun r => by
  have hr : 4 ≤ Sg.run Sg.cH (48 :: 48 :: 101 :: 57 :: r) := by
    have : Sg.run Sg.cH (48 :: 48 :: 101 :: 57 :: r) = Sg.run Sg.cH r + 1 + 1 + 1 + 1 := rfl
    omega
  show (if Sg.at' (· == 92) _ 0 then (if Sg.at' Sg.cE _ 1 then 2 else if Sg.at' (· == 117) _ 1 && decide (4 ≤ Sg.run Sg.cH (48 :: 48 :: 101 :: 57 :: r)) then 6 else 0) else 0) = 6
  rw [decide_eq_true hr]
  rfl)
/-- A string whose text is an item. -/
theorem lex_text {s : List UInt8} (h : Item s) : lexA start (34 :: (s ++ [34])) = (if s = [] then ([(7, [34]), (11, [34])], 0) else ([(7, [34]), (8, s), (11, [34])], 0)) := by
  rw [← out_start, step_q]
  by_cases h0 : s = []
  · subst h0; rw [if_pos rfl]; decide +kernel
  · rw [if_neg h0]
    have hp : piece (s ++ [34]) = s.length := by rw [h]; rfl
    have hl : s.length ≠ 0 := fun e => h0 (List.length_eq_zero_iff.1 e)
    have hf : find (tried (inn 0)) (s ++ [34]) = some (8, s.length) := by
      show (if piece (s ++ [34]) = 0 then _ else some ((8 : Int), piece (s ++ [34]))) = _
      rw [hp, if_neg hl]
    have h1 : lexA (inn 0) (s ++ [34]) = ((8, (s ++ [34]).take s.length) :: (lexA (inn 0) ((s ++ [34]).drop s.length)).1, (lexA (inn 0) ((s ++ [34]).drop s.length)).2) := step_of (x := inn 0) (y := inn 0) (k := 8) (by simp) hf rfl
    rw [h1, List.take_left, List.drop_left, step_e]
    rfl

theorem noteR_none (l : List UInt8) (st : Nat) (h : ∀ b ∈ l, b ≠ 10) : noteR st l = l.length := by
  induction l generalizing st with
  | nil => rfl
  | cons b r ih =>
    simp only [noteR]
    rw [if_neg (fun e => h b (List.mem_cons_self ..) e.1), ih _ (fun x hx => h x (List.mem_cons_of_mem _ hx)), List.length_cons]
    omega
theorem find_1_note (r : List UInt8) : find outside (49 :: 35 :: r) = some (6, 1) := rfl
theorem find_note (r : List UInt8) : find outside (35 :: r) = some (2, 1 + noteR 0 r) := by
  show (if 1 + noteR 0 r = 0 then _ else some ((2 : Int), 1 + noteR 0 r)) = _
  rw [if_neg (by omega)]
theorem lex_note (x : List UInt8) (h : ∀ b ∈ x, b ≠ 10) : lexA start (49 :: 35 :: x) = ([(6, [49]), (2, 35 :: x)], 0) := by
  rw [step_of (x := start) (y := start) (l := 49 :: 35 :: x) (k := 6) (n := 1) (by simp) (find_1_note x) rfl]
  have e : (49 :: 35 :: x).drop 1 = 35 :: x := rfl
  rw [e]
  have hn : 1 + noteR 0 x = (35 :: x).length := by rw [noteR_none x 0 h, List.length_cons]; omega
  have h2 : lexA start (35 :: x) = ((2, (35 :: x).take (1 + noteR 0 x)) :: (lexA start ((35 :: x).drop (1 + noteR 0 x))).1, (lexA start ((35 :: x).drop (1 + noteR 0 x))).2) := step_of (x := start) (y := start) (l := 35 :: x) (k := 2) (by simp) (find_note x) rfl
  rw [h2, hn, List.take_length, List.drop_length, lexA_nil]
  rfl
end Go.Proofs.YtmoamfcaokefiaaGreatDoor.Lx
