/-
  Plain mathematics of layer 4: a source cut behind its tokens has the same tokens; where it is cut there stands a byte of ASCII.
-/
import Derived.Test.YtmoamfcaokefiaaGreatDoorLxMath
namespace Go.Proofs.YtmoamfcaokefiaaGreatDoor.Lx
open Go.RowKit (wrap64)
open Sg (run cB cW cD cL cH at')
set_option linter.unusedVariables false

/-- A shape that is no other where it is cut at its own end or behind it. -/
def Keeps (f : List UInt8 → Nat) : Prop := ∀ l m, f l ≤ m → f (l.take m) = f l

theorem at_take (p : Int → Bool) (l : List UInt8) (m k : Nat) : at' p (l.take m) k = (decide (k < m) && at' p l k) := by
  unfold at'
  by_cases h : k < m
  · rw [show (l.take m).getD k 0 = l.getD k 0 from by simp [List.getD, h], List.length_take]
    simp only [h, decide_true, Bool.true_and]
    congr 1
    simp only [decide_eq_decide]; omega
  · have : ¬ k < (l.take m).length := by rw [List.length_take]; omega
    rw [decide_eq_false this, decide_eq_false h]; simp
theorem pre_take (l o : List UInt8) (m : Nat) : Lib.hasPrefix (l.take m) o = (decide (o.length ≤ m) && Lib.hasPrefix l o) := by
  rw [Bool.eq_iff_iff, Bool.and_eq_true, decide_eq_true_eq]
  unfold Lib.hasPrefix
  rw [List.isPrefixOf_iff_prefix, List.isPrefixOf_iff_prefix]
  constructor
  · intro h
    have h1 := h.length_le
    rw [List.length_take] at h1
    exact ⟨by omega, h.trans (List.take_prefix m l)⟩
  · rintro ⟨h1, h2⟩
    exact List.prefix_take_iff.2 ⟨h2, h1⟩
theorem keeps_run (p : Int → Bool) : Keeps (run p) := fun l m h => by rw [Sg.run_take]; omega
theorem noteR_take (st : Nat) (l : List UInt8) (m : Nat) : noteR st (l.take m) = min m (noteR st l) := by
  induction l generalizing st m with
  | nil => simp [noteR]
  | cons b r ih =>
    cases m with
    | zero => simp [noteR]
    | succ m =>
      simp only [List.take_succ_cons, noteR]
      split
      · simp
      · rw [ih]; omega
theorem keeps_note : Keeps note := fun l m h => by
  unfold note at h ⊢
  rw [pre_take, noteR_take]
  by_cases hp : Lib.hasPrefix l [35] = true
  · rw [if_pos hp] at h
    rw [hp, Bool.and_true, if_pos rfl]
    by_cases hm : 1 ≤ m
    · rw [if_pos (by simpa using hm)]; omega
    · rw [if_neg (by simpa using hm)]; omega
  · rw [if_neg hp, Bool.eq_false_iff.2 hp]; simp
theorem simple_take (l : List UInt8) (m : Nat) : Sg.simple (l.take m) = min m (Sg.simple l) := by
  unfold Sg.simple
  rw [at_take, Sg.run_take]
  by_cases h : at' cL l 0 = true
  · rw [h, if_pos rfl]
    by_cases hm : 0 < m
    · simp [hm]
    · obtain rfl : m = 0 := by omega
      simp
  · rw [Bool.eq_false_iff.2 h]; simp
theorem keeps_simple : Keeps Sg.simple := fun l m h => by rw [simple_take]; omega
theorem drop_take' (l : List UInt8) (m k : Nat) : (l.take m).drop k = (l.drop k).take (m - k) := by rw [List.drop_take]
theorem keeps_marked {f : List UInt8 → Nat} (hf : Keeps f) (o : List UInt8) : Keeps (marked o f) := fun l m h => by
  unfold marked at h ⊢
  rw [pre_take, drop_take']
  by_cases hp : Lib.hasPrefix l o = true
  · rw [hp, if_pos rfl] at h
    rw [hp, if_pos rfl]
    by_cases h0 : f (l.drop o.length) = 0
    · rw [if_pos h0, hf _ _ (by omega), if_pos h0]; simp
    · rw [if_neg h0] at h
      rw [if_neg h0, hf _ _ (by omega), if_neg h0, if_pos (by simp; omega)]
  · rw [Bool.eq_false_iff.2 hp]; simp
theorem further_marked (l : List UInt8) : Sg.further l = marked [58, 58] Sg.simple l := rfl
theorem keeps_further : Keeps Sg.further := keeps_marked keeps_simple [58, 58]
theorem keeps_tail (f : Nat) : Keeps (Sg.tail f) := by
  induction f with
  | zero => intro l m h; rfl
  | succ f ih =>
    intro l m h
    simp only [Sg.tail] at h ⊢
    by_cases h0 : Sg.further l = 0
    · rw [keeps_further l m (by omega), if_pos h0, if_pos h0]
    · rw [if_neg h0] at h
      rw [keeps_further l m (by omega), if_neg h0, if_neg h0, drop_take', ih _ _ (by omega)]
theorem keeps_word : Keeps Sg.word := fun l m h => by
  unfold Sg.word at h ⊢
  by_cases h0 : Sg.simple l = 0
  · rw [if_pos h0, keeps_simple l m (by omega), if_pos h0]
  · rw [if_neg h0] at h
    rw [if_neg h0, keeps_simple l m (by omega), if_neg h0, drop_take']
    rw [Sg.tail_fuel (l.take m).length l.length _ (by rw [List.length_take, List.length_take, List.length_drop]; omega) (by rw [List.length_take, List.length_drop]; omega)]
    rw [keeps_tail _ _ _ (by omega)]
theorem keeps_decimal : Keeps Sg.decimal := fun l m h => by
  unfold Sg.decimal at h ⊢
  have hl := Sg.run_le cD l
  by_cases hd : at' (· == 46) l (run cD l) = true
  · rw [if_pos hd] at h
    rw [if_pos hd]
    by_cases h0 : run cD l + run cD (l.drop (run cD l + 1)) = 0
    · rw [if_pos h0] at h
      rw [if_pos h0, keeps_run cD l m (by omega), at_take, hd, drop_take', Sg.run_take]
      by_cases hm : run cD l < m
      · simp only [hm, decide_true, Bool.true_and, if_true]; rw [if_pos (by omega)]
      · simp only [hm, decide_false, Bool.false_and, Bool.false_eq_true, if_false]; omega
    · rw [if_neg h0] at h
      rw [if_neg h0, keeps_run cD l m (by omega), at_take, hd, drop_take', keeps_run cD _ _ (by omega), if_neg h0]
      rw [if_pos (by simp; omega)]
  · rw [if_neg hd] at h
    rw [if_neg hd, keeps_run cD l m (by omega), at_take, Bool.eq_false_iff.2 hd]; simp
theorem keeps_exponent : Keeps Sg.exponent := fun l m h => by
  unfold Sg.exponent at h ⊢
  by_cases he : at' (fun n => n == 101 || n == 69) l 0 = true
  · rw [if_pos he] at h
    rw [if_pos he, at_take, he]
    by_cases hm : 0 < m
    · simp only [hm, decide_true, Bool.true_and, if_true]
      by_cases h0 : run cD (l.drop (Sg.signs l)) = 0
      · rw [if_pos h0]
        by_cases hm1 : 1 < m
        · have hs : Sg.signs (l.take m) = Sg.signs l := by unfold Sg.signs; rw [at_take]; simp [hm1]
          rw [hs, drop_take', Sg.run_take, h0]; simp
        · have hs : Sg.signs (l.take m) = 1 := by unfold Sg.signs; rw [at_take]; simp [hm1]
          rw [hs, drop_take', show m - 1 = 0 by omega, List.take_zero]; rfl
      · rw [if_neg h0] at h
        have h1 : 1 ≤ Sg.signs l := by unfold Sg.signs; split <;> omega
        have hs : Sg.signs (l.take m) = Sg.signs l := by unfold Sg.signs; rw [at_take, decide_eq_true (show 1 < m by omega), Bool.true_and]
        rw [if_neg h0, hs, drop_take', keeps_run cD _ _ (by omega), if_neg h0]
    · simp only [hm, decide_false, Bool.false_and, Bool.false_eq_true, if_false]
      split at h
      · rw [if_pos (by assumption)]
      · have h1 : 1 ≤ Sg.signs l := by unfold Sg.signs; split <;> omega
        omega
  · rw [if_neg he, at_take, Bool.eq_false_iff.2 he]; simp
theorem keeps_number : Keeps Sg.number := fun l m h => by
  unfold Sg.number at h ⊢
  by_cases h0 : Sg.decimal l = 0
  · rw [if_pos h0, keeps_decimal l m (by omega), if_pos h0]
  · rw [if_neg h0] at h
    rw [if_neg h0, keeps_decimal l m (by omega), if_neg h0, drop_take', keeps_exponent _ _ (by omega)]
theorem keeps_just (t : List UInt8) : Keeps (just t) := fun l m h => by
  unfold just at h ⊢
  rw [pre_take]
  by_cases hp : Lib.hasPrefix l t = true
  · rw [if_pos hp] at h
    rw [hp]; simp [h]
  · rw [Bool.eq_false_iff.2 hp]; simp
theorem find_keeps (os : List (List UInt8)) (l : List UInt8) (m : Nat) (h : (match os.find? (fun o => Lib.hasPrefix l o) with | some o => o.length | none => 0) ≤ m) :
    os.find? (fun o => Lib.hasPrefix (l.take m) o) = os.find? (fun o => Lib.hasPrefix l o) := by
  induction os with
  | nil => rfl
  | cons o r ih =>
    simp only [List.find?_cons] at h ⊢
    rw [pre_take]
    cases hp : Lib.hasPrefix l o with
    | true => rw [hp] at h; simp only at h; simp [h]
    | false => rw [hp] at h; simp only [Bool.and_false]; exact ih h
theorem keeps_oper : Keeps Sg.oper := fun l m h => by
  unfold Sg.oper at h ⊢
  rw [find_keeps _ l m h]
theorem keeps_escape : Keeps Sg.escape := fun l m h => by
  unfold Sg.escape at h ⊢
  rw [at_take, at_take, at_take, drop_take', Sg.run_take]
  by_cases h1 : at' (· == 92) l 0 = true
  · rw [if_pos h1] at h
    rw [h1]
    by_cases h2 : at' Sg.cE l 1 = true
    · rw [if_pos h2] at h
      rw [h2, decide_eq_true (show 0 < m by omega), decide_eq_true (show 1 < m by omega)]
      rfl
    · rw [if_neg h2] at h
      rw [if_pos rfl, Bool.eq_false_iff.2 h2, Bool.and_false, if_neg Bool.false_ne_true]
      by_cases h3 : (at' (· == 117) l 1 && decide (4 ≤ run cH (l.drop 2))) = true
      · rw [if_pos h3] at h
        rw [Bool.and_eq_true, decide_eq_true_eq] at h3
        rw [h3.1, decide_eq_true (show 0 < m by omega), decide_eq_true (show 1 < m by omega), decide_eq_true (show 4 ≤ min (m - 2) (run cH (l.drop 2)) by omega), decide_eq_true h3.2]
        rfl
      · have h4 : (decide (1 < m) && at' (· == 117) l 1 && decide (4 ≤ min (m - 2) (run cH (l.drop 2)))) = false := by
          rw [Bool.eq_false_iff]
          intro h5
          rw [Bool.and_eq_true, Bool.and_eq_true, decide_eq_true_eq, decide_eq_true_eq] at h5
          exact h3 (by rw [Bool.and_eq_true, decide_eq_true_eq]; exact ⟨h5.1.2, by omega⟩)
        rw [h4, Bool.eq_false_iff.2 h3]; simp
  · rw [Bool.eq_false_iff.2 h1]; simp
theorem piece_cons (b : UInt8) (r : List UInt8) : piece (b :: r) = if b = 34 then 0 else if b = 92 then (if Sg.escape (b :: r) = 0 then 0 else Sg.escape (b :: r) + piece ((b :: r).drop (Sg.escape (b :: r)))) else 1 + piece r := by
  by_cases h1 : b = 34
  · subst h1; rw [if_pos rfl]; exact piece_quote r
  · rw [if_neg h1]
    by_cases h2 : b = 92
    · subst h2
      rw [if_pos rfl]
      by_cases h3 : Sg.escape (92 :: r) = 0
      · rw [if_pos h3]; exact piece_none r h3
      · rw [if_neg h3]; exact piece_esc r h3
    · rw [if_neg h2]
      refine piece_one b r ?_
      cases h : cN (b.toNat : Int) with
      | true => rfl
      | false => rcases (cN_not b).1 h with rfl | rfl <;> simp at h1 h2
theorem keeps_piece : Keeps piece := by
  intro l
  generalize hn : l.length = n
  induction n using Nat.strongRecOn generalizing l with
  | ind n ih =>
    subst hn
    intro m h
    cases l with
    | nil => simp
    | cons b r =>
      cases m with
      | zero => rw [List.take_zero, piece_nil]; omega
      | succ m =>
        rw [List.take_succ_cons, piece_cons b (r.take m), ← List.take_succ_cons]
        rw [piece_cons] at h ⊢
        by_cases h1 : b = 34
        · rw [if_pos h1, if_pos h1]
        · rw [if_neg h1] at h
          rw [if_neg h1, if_neg h1]
          by_cases h2 : b = 92
          · rw [if_pos h2] at h
            rw [if_pos h2, if_pos h2]
            by_cases h3 : Sg.escape (b :: r) = 0
            · rw [keeps_escape _ _ (by omega), if_pos h3, if_pos h3]
            · rw [if_neg h3] at h
              rw [keeps_escape _ _ (by omega), if_neg h3, if_neg h3, drop_take']
              have hl := Sg.escape_le (b :: r)
              rw [ih _ (by rw [List.length_drop]; omega) _ rfl _ (by omega)]
          · rw [if_neg h2] at h
            rw [if_neg h2, if_neg h2, ih r.length (by simp) r rfl m (by omega)]
def KeepsAll (sh : List Kd) : Prop := ∀ h ∈ sh, Keeps h.2
theorem keeps_outside : KeepsAll outside := by
  intro h hm
  simp only [outside, List.mem_cons, List.not_mem_nil, or_false] at hm
  rcases hm with rfl | rfl | rfl | rfl | rfl | rfl | rfl | rfl | rfl
  · exact keeps_run _
  · exact keeps_note
  · exact keeps_word
  · exact keeps_marked keeps_simple _
  · exact keeps_marked keeps_word _
  · exact keeps_marked (keeps_run _) _
  · exact keeps_number
  · exact keeps_just _
  · exact keeps_oper
theorem keeps_tried (x : Lex) : KeepsAll (tried x) := by
  unfold tried; split
  · intro h hm
    simp only [inside, List.mem_cons, List.not_mem_nil, or_false] at hm
    rcases hm with rfl | rfl | rfl
    · exact keeps_piece
    · exact keeps_just _
    · exact keeps_just _
  · split
    · intro h hm
      rcases List.mem_cons.1 hm with rfl | hm
      · exact keeps_just _
      · exact keeps_outside h hm
    · exact keeps_outside
theorem find_take {sh : List Kd} (hk : KeepsAll sh) {l : List UInt8} {k : Int} {n m : Nat} (h : find sh l = some (k, n)) (hm : n ≤ m) : find sh (l.take m) = some (k, n) := by
  induction sh with
  | nil => cases h
  | cons e t ih =>
    have he := hk e (List.mem_cons_self ..)
    simp only [find] at h ⊢
    by_cases h0 : e.2 l = 0
    · rw [if_pos h0] at h
      rw [he l m (by omega), if_pos h0]
      exact ih (fun e' h' => hk e' (List.mem_cons_of_mem _ h')) h
    · rw [if_neg h0] at h
      cases h
      rw [he l m hm, if_neg h0]
theorem next_take {x y : Lex} {l : List UInt8} {k : Int} {n m : Nat} (h : next x l = .ok (k, n, y)) (hm : n ≤ m) : next x (l.take m) = .ok (k, n, y) := by
  unfold next at h ⊢
  cases hf : find (tried x) l with
  | none => rw [hf] at h; cases h
  | some p =>
    obtain ⟨k', n'⟩ := p
    rw [hf] at h
    simp only at h
    cases ht : turn x k' (l.take n') with
    | error e => rw [ht] at h; cases h
    | ok z =>
      rw [ht] at h
      cases h
      rw [find_take (keeps_tried x) hf hm]
      simp only
      rw [List.take_take, Nat.min_eq_left hm, ht]
theorem size_le (x : Lex) (l : List UInt8) : size (lexA x l).1 ≤ l.length := by
  generalize hn : l.length = n
  induction n using Nat.strongRecOn generalizing l x with
  | ind n ih =>
    subst hn
    by_cases h0 : l = []
    · subst h0; rw [lexA_nil]; exact Nat.le_refl _
    · cases hx : next x l with
      | error e => rw [lexA_err hx h0]; exact Nat.zero_le _
      | ok p =>
        obtain ⟨k, n, y⟩ := p
        have hl := next_le hx
        have := ih (l.drop n).length (by rw [List.length_drop]; omega) y (l.drop n) rfl
        rw [lexA_ok hx h0]
        simp only [size, List.map_cons, List.sum_cons, List.length_take]
        rw [List.length_drop] at this
        unfold size at this
        omega
/-- Cut where its tokens end, a source has the same tokens; behind them it is at its end. -/
theorem lex_cut (x : Lex) (l : List UInt8) : (lexA x (l.take (size (lexA x l).1))).2 = 0 ∨ (lexA x (l.take (size (lexA x l).1))).2 = 13 := by
  generalize hn : l.length = n
  induction n using Nat.strongRecOn generalizing l x with
  | ind n ih =>
    subst hn
    by_cases h0 : l = []
    · subst h0
      rw [List.take_nil, lexA_nil]
      cases ended x <;> simp
    · cases hx : next x l with
      | error e =>
        rw [lexA_err hx h0]
        rw [show l.take (size ([] : List Tok)) = [] from List.take_zero, lexA_nil]
        cases ended x <;> simp
      | ok p =>
        obtain ⟨k, n, y⟩ := p
        have hl := next_le hx
        have h1 := ih (l.drop n).length (by rw [List.length_drop]; omega) y (l.drop n) rfl
        rw [lexA_ok hx h0]
        have hs : size ((k, l.take n) :: (lexA y (l.drop n)).1) = n + size (lexA y (l.drop n)).1 := by
          simp only [size, List.map_cons, List.sum_cons, List.length_take]; omega
        simp only [hs]
        have hne : l.take (n + size (lexA y (l.drop n)).1) ≠ [] := fun e => by
          have := congrArg List.length e
          rw [List.length_take, List.length_nil] at this
          omega
        rw [lexA_ok (next_take hx (Nat.le_add_right _ _)) hne]
        simp only [drop_take', Nat.add_sub_cancel_left]
        exact h1

/-- A shape whose last byte is of ASCII. -/
def Last (f : List UInt8 → Nat) : Prop := ∀ l, f l ≠ 0 → (l.getD (f l - 1) 0).toNat < 128
/-- A shape with a byte of ASCII, or the end, behind it; or ahead of its end. -/
def Edge (f : List UInt8 → Nat) : Prop := ∀ l, f l ≠ 0 → (l.getD (f l) 0).toNat < 128 ∨ (l.getD (f l - 1) 0).toNat < 128
theorem Last.edge {f : List UInt8 → Nat} (h : Last f) : Edge f := fun l h0 => .inr (h l h0)
theorem getD_drop' (l : List UInt8) (i j : Nat) : (l.drop i).getD j 0 = l.getD (i + j) 0 := by simp [List.getD, List.getElem?_drop]
theorem run_at (p : Int → Bool) (l : List UInt8) (k : Nat) (h : k < run p l) : p ((l.getD k 0).toNat : Int) = true := by
  induction l generalizing k with
  | nil => simp [run] at h
  | cons b r ih =>
    simp only [run] at h
    split at h
    · cases k with
      | zero => simpa using (by assumption)
      | succ k => simpa using ih k (by omega)
    · omega
theorem last_run {p : Int → Bool} (hp : ∀ n, p n = true → n < 128) : Last (run p) := fun l h => by
  have := hp _ (run_at p l (run p l - 1) (by omega))
  omega
theorem asc_L (n : Int) (h : cL n = true) : n < 128 := by
  unfold cL at h
  simp only [Bool.or_eq_true, Bool.and_eq_true, decide_eq_true_eq, beq_iff_eq] at h
  omega
theorem asc_D (n : Int) (h : cD n = true) : n < 128 := by
  unfold cD at h
  simp only [Bool.and_eq_true, decide_eq_true_eq] at h
  omega
theorem asc_W (n : Int) (h : cW n = true) : n < 128 := by
  unfold cW at h
  rw [Bool.or_eq_true] at h
  rcases h with h | h
  · exact asc_L n h
  · exact asc_D n h
theorem asc_B (n : Int) (h : cB n = true) : n < 128 := by
  unfold cB at h
  simp only [Bool.or_eq_true, beq_iff_eq] at h
  omega
theorem last_simple : Last Sg.simple := fun l h => by
  unfold Sg.simple at h ⊢
  by_cases h1 : at' cL l 0 = true
  · rw [if_pos h1] at h ⊢; exact last_run asc_W l h
  · rw [if_neg h1] at h; exact absurd rfl h
theorem last_marked {f : List UInt8 → Nat} (hf : Last f) (o : List UInt8) : Last (marked o f) := fun l h => by
  unfold marked at h ⊢
  by_cases h1 : Lib.hasPrefix l o = true
  · rw [if_pos h1] at h ⊢
    by_cases h2 : f (l.drop o.length) = 0
    · rw [if_pos h2] at h; exact absurd rfl h
    · rw [if_neg h2]
      have := hf _ h2
      rw [getD_drop'] at this
      rwa [show o.length + f (l.drop o.length) - 1 = o.length + (f (l.drop o.length) - 1) by omega]
  · rw [if_neg h1] at h; exact absurd rfl h
theorem last_tail (f : Nat) : Last (Sg.tail f) := by
  induction f with
  | zero => intro l h; exact absurd rfl h
  | succ f ih =>
    intro l h
    simp only [Sg.tail] at h ⊢
    by_cases h0 : Sg.further l = 0
    · rw [if_pos h0] at h; exact absurd rfl h
    · rw [if_neg h0] at h ⊢
      by_cases h1 : Sg.tail f (l.drop (Sg.further l)) = 0
      · rw [h1, Nat.add_zero]; exact last_marked last_simple [58, 58] l h0
      · have := ih _ h1
        rw [getD_drop'] at this
        rwa [show Sg.further l + Sg.tail f (l.drop (Sg.further l)) - 1 = Sg.further l + (Sg.tail f (l.drop (Sg.further l)) - 1) by omega]
theorem last_word : Last Sg.word := fun l h => by
  unfold Sg.word at h ⊢
  by_cases h0 : Sg.simple l = 0
  · rw [if_pos h0] at h; exact absurd rfl h
  · rw [if_neg h0]
    by_cases h1 : Sg.tail l.length (l.drop (Sg.simple l)) = 0
    · rw [h1, Nat.add_zero]; exact last_simple l h0
    · have := last_tail _ _ h1
      rw [getD_drop'] at this
      rwa [show Sg.simple l + Sg.tail l.length (l.drop (Sg.simple l)) - 1 = Sg.simple l + (Sg.tail l.length (l.drop (Sg.simple l)) - 1) by omega]
theorem at_get {p : Int → Bool} {l : List UInt8} {k : Nat} (h : at' p l k = true) : p ((l.getD k 0).toNat : Int) = true := by
  unfold at' at h; rw [Bool.and_eq_true] at h; exact h.2
theorem last_decimal : Last Sg.decimal := fun l h => by
  unfold Sg.decimal at h ⊢
  by_cases hd : at' (· == 46) l (run cD l) = true
  · rw [if_pos hd] at h ⊢
    by_cases h0 : run cD l + run cD (l.drop (run cD l + 1)) = 0
    · rw [if_pos h0] at h; exact absurd rfl h
    · rw [if_neg h0]
      by_cases h1 : run cD (l.drop (run cD l + 1)) = 0
      · rw [h1, Nat.add_zero, Nat.add_sub_cancel]
        have := at_get hd
        rw [beq_iff_eq] at this
        omega
      · have := last_run asc_D _ h1
        rw [getD_drop'] at this
        rwa [show run cD l + 1 + run cD (l.drop (run cD l + 1)) - 1 = run cD l + 1 + (run cD (l.drop (run cD l + 1)) - 1) by omega]
  · rw [if_neg hd] at h ⊢
    exact last_run asc_D l h
theorem last_exponent : Last Sg.exponent := fun l h => by
  unfold Sg.exponent at h ⊢
  by_cases he : at' (fun n => n == 101 || n == 69) l 0 = true
  · rw [if_pos he] at h ⊢
    by_cases h0 : run cD (l.drop (Sg.signs l)) = 0
    · rw [if_pos h0] at h; exact absurd rfl h
    · rw [if_neg h0]
      have := last_run asc_D _ h0
      rw [getD_drop'] at this
      rwa [show Sg.signs l + run cD (l.drop (Sg.signs l)) - 1 = Sg.signs l + (run cD (l.drop (Sg.signs l)) - 1) by omega]
  · rw [if_neg he] at h; exact absurd rfl h
theorem last_number : Last Sg.number := fun l h => by
  unfold Sg.number at h ⊢
  by_cases h0 : Sg.decimal l = 0
  · rw [if_pos h0] at h; exact absurd rfl h
  · rw [if_neg h0]
    by_cases h1 : Sg.exponent (l.drop (Sg.decimal l)) = 0
    · rw [h1, Nat.add_zero]; exact last_decimal l h0
    · have := last_exponent _ h1
      rw [getD_drop'] at this
      rwa [show Sg.decimal l + Sg.exponent (l.drop (Sg.decimal l)) - 1 = Sg.decimal l + (Sg.exponent (l.drop (Sg.decimal l)) - 1) by omega]
theorem pre_last {l o : List UInt8} (h0 : o ≠ []) (h : Lib.hasPrefix l o = true) (ho : ∀ b ∈ o, b.toNat < 128) : (l.getD (o.length - 1) 0).toNat < 128 := by
  unfold Lib.hasPrefix at h
  obtain ⟨r, rfl⟩ := List.isPrefixOf_iff_prefix.1 h
  cases o with
  | nil =>
    exact absurd rfl h0
  | cons a t =>
    have hlt : (a :: t).length - 1 < (a :: t).length := by simp
    have e : ((a :: t) ++ r).getD ((a :: t).length - 1) 0 = (a :: t)[(a :: t).length - 1] := by
      simp only [List.getD, List.getElem?_append_left hlt, List.getElem?_eq_getElem hlt, Option.getD_some]
    rw [e]
    exact ho _ (List.getElem_mem _)
theorem last_just {t : List UInt8} (ht : t ≠ []) (ho : ∀ b ∈ t, b.toNat < 128) : Last (just t) := fun l h => by
  unfold just at h ⊢
  by_cases h1 : Lib.hasPrefix l t = true
  · rw [if_pos h1]; exact pre_last ht h1 ho
  · rw [if_neg h1] at h; exact absurd rfl h
theorem opers_asc : ∀ o ∈ Sg.opers, o ≠ [] ∧ ∀ b ∈ o, b.toNat < 128 := by decide +kernel
theorem last_oper : Last Sg.oper := fun l h => by
  unfold Sg.oper at h ⊢
  cases hf : Sg.opers.find? (fun o => Lib.hasPrefix l o) with
  | none => rw [hf] at h; exact absurd rfl h
  | some o =>
    have h1 := opers_asc o (List.mem_of_find?_eq_some hf)
    exact pre_last h1.1 (List.find?_some hf) h1.2
theorem noteR_at (st : Nat) (l : List UInt8) : (l.getD (noteR st l) 0).toNat < 128 := by
  induction l generalizing st with
  | nil => simp
  | cons b r ih =>
    simp only [noteR]
    split
    · rename_i h; simp [h.1]
    · rw [Nat.add_comm, List.getD_cons_succ]; exact ih _
theorem edge_note : Edge note := fun l h => by
  unfold note at h ⊢
  by_cases h1 : Lib.hasPrefix l [35] = true
  · rw [if_pos h1]; exact .inl (noteR_at 0 l)
  · rw [if_neg h1] at h; exact absurd rfl h
theorem piece_at (l : List UInt8) : (l.getD (piece l) 0).toNat < 128 := by
  generalize hn : l.length = n
  induction n using Nat.strongRecOn generalizing l with
  | ind n ih =>
    subst hn
    cases l with
    | nil => simp
    | cons b r =>
      rw [piece_cons]
      by_cases h1 : b = 34
      · rw [if_pos h1]; subst h1; simp
      · rw [if_neg h1]
        by_cases h2 : b = 92
        · rw [if_pos h2]
          by_cases h3 : Sg.escape (b :: r) = 0
          · rw [if_pos h3]; subst h2; simp
          · rw [if_neg h3, ← getD_drop']
            have hl := Sg.escape_le (b :: r)
            exact ih _ (by rw [List.length_drop]; omega) _ rfl
        · rw [if_neg h2, Nat.add_comm, List.getD_cons_succ]
          exact ih r.length (by simp) r rfl
theorem edge_piece : Edge piece := fun l _ => .inl (piece_at l)
theorem edge_outside : ∀ h ∈ outside, Edge h.2 := by
  intro h hm
  simp only [outside, List.mem_cons, List.not_mem_nil, or_false] at hm
  rcases hm with rfl | rfl | rfl | rfl | rfl | rfl | rfl | rfl | rfl
  · exact (last_run asc_B).edge
  · exact edge_note
  · exact last_word.edge
  · exact (last_marked last_simple _).edge
  · exact (last_marked last_word _).edge
  · exact (last_marked (last_run asc_W) _).edge
  · exact last_number.edge
  · exact (last_just (by decide) (by decide)).edge
  · exact last_oper.edge
theorem edge_tried (x : Lex) : ∀ h ∈ tried x, Edge h.2 := by
  unfold tried; split
  · intro h hm
    simp only [inside, List.mem_cons, List.not_mem_nil, or_false] at hm
    rcases hm with rfl | rfl | rfl
    · exact edge_piece
    · exact (last_just (by decide) (by decide)).edge
    · exact (last_just (by decide) (by decide)).edge
  · split
    · intro h hm
      rcases List.mem_cons.1 hm with rfl | hm
      · exact (last_just (by decide) (by decide)).edge
      · exact edge_outside h hm
    · exact edge_outside
theorem find_edge {x : Lex} {l : List UInt8} {k : Int} {n : Nat} (h : find (tried x) l = some (k, n)) : (l.getD n 0).toNat < 128 ∨ (l.getD (n - 1) 0).toNat < 128 := by
  obtain ⟨h1, e, h2, rfl, rfl⟩ := find_some h
  exact edge_tried x e h2 l h1
theorem next_find {x y : Lex} {l : List UInt8} {k : Int} {n : Nat} (h : next x l = .ok (k, n, y)) : find (tried x) l = some (k, n) ∧ turn x k (l.take n) = .ok y := by
  unfold next at h
  cases hf : find (tried x) l with
  | none => rw [hf] at h; cases h
  | some p =>
    obtain ⟨k', n'⟩ := p
    rw [hf] at h
    simp only at h
    cases ht : turn x k' (l.take n') with
    | error e => rw [ht] at h; cases h
    | ok z => rw [ht] at h; cases h; exact ⟨rfl, ht⟩
/-- Where the tokens end there stands a byte of ASCII, on one side of it. -/
theorem lex_edge (x : Lex) (l : List UInt8) (h : size (lexA x l).1 ≠ 0) : (l.getD (size (lexA x l).1) 0).toNat < 128 ∨ (l.getD (size (lexA x l).1 - 1) 0).toNat < 128 := by
  generalize hn : l.length = n
  induction n using Nat.strongRecOn generalizing l x with
  | ind n ih =>
    subst hn
    by_cases h0 : l = []
    · subst h0; simp
    · cases hx : next x l with
      | error e => rw [lexA_err hx h0] at h; exact absurd rfl h
      | ok p =>
        obtain ⟨k, n, y⟩ := p
        have hl := next_le hx
        have hs : size ((k, l.take n) :: (lexA y (l.drop n)).1) = n + size (lexA y (l.drop n)).1 := by
          simp only [size, List.map_cons, List.sum_cons, List.length_take]; omega
        rw [lexA_ok hx h0]
        simp only [hs]
        by_cases h1 : size (lexA y (l.drop n)).1 = 0
        · rw [h1, Nat.add_zero]; exact find_edge (next_find hx).1
        · have := ih (l.drop n).length (by rw [List.length_drop]; omega) y (l.drop n) h1 rfl
          rw [getD_drop', getD_drop'] at this
          rwa [show n + size (lexA y (l.drop n)).1 - 1 = n + (size (lexA y (l.drop n)).1 - 1) by omega]
end Go.Proofs.YtmoamfcaokefiaaGreatDoor.Lx
