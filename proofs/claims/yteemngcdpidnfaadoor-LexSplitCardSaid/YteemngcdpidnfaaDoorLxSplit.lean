/-
  Plain mathematics of layer 4: two sources, the first of which ends in a line feed and in a token of blanks, one behind the other.
-/
import Derived.Test.YteemngcdpidnfaaDoorLxCut
namespace Go.Proofs.YteemngcdpidnfaaDoor.Lx
open Go.RowKit (wrap64)
open Sg (run cB cW cD cL cH at')
set_option linter.unusedVariables false

/-- A shape that has no line feed. -/
def NoNL (f : List UInt8 → Nat) : Prop := ∀ l i, i < f l → l.getD i 0 ≠ 10
theorem nn_seq {l : List UInt8} {a c : Nat} (h1 : ∀ i, i < a → l.getD i 0 ≠ 10) (h2 : ∀ i, i < c → (l.drop a).getD i 0 ≠ 10) : ∀ i, i < a + c → l.getD i 0 ≠ 10 := fun i hi => by
  by_cases h : i < a
  · exact h1 i h
  · have := h2 (i - a) (by omega)
    rw [getD_drop'] at this
    rwa [show a + (i - a) = i by omega] at this
theorem nn_run {p : Int → Bool} (hp : p 10 = false) : NoNL (run p) := fun l i hi e => by
  have := run_at p l i hi
  rw [e] at this
  rw [show (((10 : UInt8)).toNat : Int) = 10 from rfl, hp] at this
  exact absurd this (by decide)
theorem nn_at {p : Int → Bool} (hp : p 10 = false) {l : List UInt8} {k : Nat} (h : at' p l k = true) : l.getD k 0 ≠ 10 := fun e => by
  have := at_get h
  rw [e, show (((10 : UInt8)).toNat : Int) = 10 from rfl, hp] at this
  exact absurd this (by decide)
theorem nn_pre {l o : List UInt8} (h : Lib.hasPrefix l o = true) (ho : ∀ b ∈ o, b ≠ 10) : ∀ i, i < o.length → l.getD i 0 ≠ 10 := fun i hi => by
  unfold Lib.hasPrefix at h
  obtain ⟨r, rfl⟩ := List.isPrefixOf_iff_prefix.1 h
  have e : (o ++ r).getD i 0 = o[i] := by simp only [List.getD, List.getElem?_append_left hi, List.getElem?_eq_getElem hi, Option.getD_some]
  rw [e]
  exact ho _ (List.getElem_mem _)
theorem nn_simple : NoNL Sg.simple := fun l i hi => by
  unfold Sg.simple at hi
  split at hi
  · exact nn_run (by decide) l i hi
  · omega
theorem nn_marked {f : List UInt8 → Nat} (hf : NoNL f) {o : List UInt8} (ho : ∀ b ∈ o, b ≠ 10) : NoNL (marked o f) := fun l i hi => by
  unfold marked at hi
  split at hi
  · rename_i h
    split at hi
    · omega
    · exact nn_seq (nn_pre h ho) (hf _) i hi
  · omega
theorem nn_tail (f : Nat) : NoNL (Sg.tail f) := by
  induction f with
  | zero => intro l i hi; exact absurd hi (Nat.not_lt_zero _)
  | succ f ih =>
    intro l i hi
    simp only [Sg.tail] at hi
    split at hi
    · omega
    · exact nn_seq (nn_marked nn_simple (by decide) l) (ih _) i hi
theorem nn_word : NoNL Sg.word := fun l i hi => by
  unfold Sg.word at hi
  split at hi
  · omega
  · exact nn_seq (nn_simple l) (nn_tail _ _) i hi
theorem nn_decimal : NoNL Sg.decimal := fun l i hi => by
  unfold Sg.decimal at hi
  split at hi
  · rename_i hd
    split at hi
    · omega
    · refine nn_seq (a := run cD l + 1) (fun j hj => ?_) (nn_run (by decide) _) i hi
      by_cases h : j < run cD l
      · exact nn_run (by decide) l j h
      · obtain rfl : j = run cD l := by omega
        exact nn_at (by decide) hd
  · exact nn_run (by decide) l i hi
theorem nn_exponent : NoNL Sg.exponent := fun l i hi => by
  unfold Sg.exponent at hi
  split at hi
  · rename_i he
    split at hi
    · omega
    · refine nn_seq (fun j hj => ?_) (nn_run (by decide) _) i hi
      unfold Sg.signs at hj
      split at hj
      · rename_i hs
        have : j = 0 ∨ j = 1 := by omega
        rcases this with rfl | rfl
        · exact nn_at (by decide) he
        · exact nn_at (by decide) hs
      · obtain rfl : j = 0 := by omega
        exact nn_at (by decide) he
  · omega
theorem nn_number : NoNL Sg.number := fun l i hi => by
  unfold Sg.number at hi
  split at hi
  · omega
  · exact nn_seq (nn_decimal l) (nn_exponent _) i hi
theorem nn_just {t : List UInt8} (ht : ∀ b ∈ t, b ≠ 10) : NoNL (just t) := fun l i hi => by
  unfold just at hi
  split at hi
  · rename_i h; exact nn_pre h ht i hi
  · omega
theorem nn_oper : NoNL Sg.oper := fun l i hi => by
  unfold Sg.oper at hi
  cases hf : Sg.opers.find? (fun o => Lib.hasPrefix l o) with
  | none => rw [hf] at hi; exact absurd hi (Nat.not_lt_zero _)
  | some o =>
    rw [hf] at hi
    exact nn_pre (List.find?_some hf) ((by decide +kernel : ∀ o ∈ Sg.opers, ∀ b ∈ o, b ≠ 10) o (List.mem_of_find?_eq_some hf)) i hi
theorem nn_escape : NoNL Sg.escape := fun l i hi => by
  unfold Sg.escape at hi
  split at hi
  · rename_i h0
    split at hi
    · rename_i h1
      have : i = 0 ∨ i = 1 := by omega
      rcases this with rfl | rfl
      · exact nn_at (by decide) h0
      · exact nn_at (by decide) h1
    · split at hi
      · rename_i h1
        rw [Bool.and_eq_true, decide_eq_true_eq] at h1
        refine nn_seq (a := 2) (c := 4) (fun j hj => ?_) (fun j hj => nn_run (p := cH) (by decide) _ j (by omega)) i hi
        have : j = 0 ∨ j = 1 := by omega
        rcases this with rfl | rfl
        · exact nn_at (by decide) h0
        · exact nn_at (by decide) h1.1
      · omega
  · omega

/-- Ends in a line feed. -/
def EndNL (l : List UInt8) : Prop := l.length ≠ 0 ∧ l.getD (l.length - 1) 0 = 10
theorem EndNL.drop {l : List UInt8} (h : EndNL l) {n : Nat} (hn : n < l.length) : EndNL (l.drop n) := by
  refine ⟨by rw [List.length_drop]; omega, ?_⟩
  rw [getD_drop', List.length_drop, show n + (l.length - n - 1) = l.length - 1 by omega]
  exact h.2
theorem EndNL.ne {l : List UInt8} (h : EndNL l) : l ≠ [] := fun e => h.1 (by rw [e]; rfl)
/-- A shape that is no other when more stands behind a line's end. -/
def Ext (f : List UInt8 → Nat) : Prop := ∀ l b, EndNL l → f l < l.length → f (l ++ b) = f l
theorem nl_ext {f : List UInt8 → Nat} (hk : Keeps f) (hn : NoNL f) (l b : List UInt8) (h : EndNL l) : f (l ++ b) = f l ∧ f l < l.length := by
  have hl := h.1
  have h1 : f (l ++ b) ≤ l.length - 1 := by
    refine Nat.le_of_not_lt fun hlt => hn (l ++ b) (l.length - 1) hlt ?_
    have : (l ++ b).getD (l.length - 1) 0 = l.getD (l.length - 1) 0 := by simp [List.getD, List.getElem?_append_left (show l.length - 1 < l.length by omega)]
    rw [this, h.2]
  have h2 := hk (l ++ b) l.length (by omega)
  rw [List.take_left] at h2
  exact ⟨h2.symm, by omega⟩
theorem ext_nl {f : List UInt8 → Nat} (hk : Keeps f) (hn : NoNL f) : Ext f := fun l b h _ => (nl_ext hk hn l b h).1
theorem ext_run (p : Int → Bool) : Ext (run p) := fun l b h hl => by
  have := Sg.run_take p (l ++ b) l.length
  rw [List.take_left] at this
  omega
theorem ext_note : Ext note := fun l b h hl => by
  have h1 := noteR_take 0 (l ++ b) l.length
  rw [List.take_left] at h1
  have h2 := pre_take (l ++ b) [35] l.length
  rw [List.take_left, decide_eq_true (show ([35] : List UInt8).length ≤ l.length by have := h.1; simp; omega), Bool.true_and] at h2
  unfold note at hl ⊢
  rw [← h2]
  by_cases hp : Lib.hasPrefix l [35] = true
  · rw [if_pos hp] at hl ⊢; rw [if_pos hp]; omega
  · rw [if_neg hp, if_neg hp]
theorem ext_piece : Ext piece := by
  intro l
  generalize hn : l.length = n
  induction n using Nat.strongRecOn generalizing l with
  | ind n ih =>
    subst hn
    intro b h hl
    cases l with
    | nil => exact absurd rfl h.1
    | cons c r =>
      rw [piece_cons] at hl ⊢
      rw [List.cons_append, piece_cons, ← List.cons_append]
      by_cases h1 : c = 34
      · rw [if_pos h1, if_pos h1]
      · rw [if_neg h1] at hl
        rw [if_neg h1, if_neg h1]
        by_cases h2 : c = 92
        · rw [if_pos h2] at hl
          rw [if_pos h2, if_pos h2]
          obtain ⟨e1, e2⟩ := nl_ext keeps_escape nn_escape (c :: r) b h
          rw [e1]
          by_cases h3 : Sg.escape (c :: r) = 0
          · rw [if_pos h3, if_pos h3]
          · rw [if_neg h3] at hl
            rw [if_neg h3, if_neg h3, List.drop_append_of_le_length (by omega)]
            rw [ih _ (by rw [List.length_drop]; omega) _ rfl b (h.drop e2) (by rw [List.length_drop]; omega)]
        · rw [if_neg h2] at hl
          rw [if_neg h2, if_neg h2]
          have hr : 1 < (c :: r).length := by
            refine Nat.lt_of_not_le fun hle => ?_
            have : r = [] := by simpa using hle
            subst this
            rw [piece_nil] at hl
            simp at hl
          have := ih r.length (by simp) r rfl b (h.drop hr) (by simp at hl ⊢; omega)
          rw [this]
theorem ext_outside : ∀ h ∈ outside, Ext h.2 := by
  intro h hm
  simp only [outside, List.mem_cons, List.not_mem_nil, or_false] at hm
  rcases hm with rfl | rfl | rfl | rfl | rfl | rfl | rfl | rfl | rfl
  · exact ext_run _
  · exact ext_note
  · exact ext_nl keeps_word nn_word
  · exact ext_nl (keeps_marked keeps_simple _) (nn_marked nn_simple (by decide))
  · exact ext_nl (keeps_marked keeps_word _) (nn_marked nn_word (by decide))
  · exact ext_nl (keeps_marked (keeps_run _) _) (nn_marked (nn_run (by decide)) (by decide))
  · exact ext_nl keeps_number nn_number
  · exact ext_nl (keeps_just _) (nn_just (by decide))
  · exact ext_nl keeps_oper nn_oper
theorem ext_tried (x : Lex) : ∀ h ∈ tried x, Ext h.2 := by
  unfold tried; split
  · intro h hm
    simp only [inside, List.mem_cons, List.not_mem_nil, or_false] at hm
    rcases hm with rfl | rfl | rfl
    · exact ext_piece
    · exact ext_nl (keeps_just _) (nn_just (by decide))
    · exact ext_nl (keeps_just _) (nn_just (by decide))
  · split
    · intro h hm
      rcases List.mem_cons.1 hm with rfl | hm
      · exact ext_nl (keeps_just _) (nn_just (by decide))
      · exact ext_outside h hm
    · exact ext_outside
theorem find_ext {sh : List Kd} (hk : ∀ h ∈ sh, Ext h.2) {l : List UInt8} (b : List UInt8) (hl : EndNL l) {k : Int} {n : Nat} (h : find sh l = some (k, n)) (hn : n < l.length) : find sh (l ++ b) = some (k, n) := by
  induction sh with
  | nil => cases h
  | cons e t ih =>
    have he := hk e (List.mem_cons_self ..)
    simp only [find] at h ⊢
    by_cases h0 : e.2 l = 0
    · rw [if_pos h0] at h
      rw [he l b hl (by omega), if_pos h0]
      exact ih (fun e' h' => hk e' (List.mem_cons_of_mem _ h')) h
    · rw [if_neg h0] at h
      cases h
      rw [he l b hl hn, if_neg h0]
theorem next_ext {x y : Lex} {l : List UInt8} (b : List UInt8) (hl : EndNL l) {k : Int} {n : Nat} (h : next x l = .ok (k, n, y)) (hn : n < l.length) : next x (l ++ b) = .ok (k, n, y) := by
  obtain ⟨h1, h2⟩ := next_find h
  unfold next
  rw [find_ext (ext_tried x) b hl h1 hn]
  simp only
  rw [List.take_append_of_le_length (by omega), h2]

/-- The lowest state's brackets: any. -/
def low (d : Int) (x : Lex) : Lex := match x.below with
  | [] => ⟨{ x.top with br := d }, []⟩
  | b :: r => ⟨x.top, { b with br := d } :: r⟩
theorem tried_low (d : Int) (x : Lex) : tried (low d x) = tried x := by
  obtain ⟨t, bl⟩ := x
  cases bl <;> simp [tried, low]
theorem ended_low (d : Int) (x : Lex) : ended (low d x) = ended x := by
  obtain ⟨t, bl⟩ := x
  cases bl <;> simp [ended, low]
theorem turn_low (d : Int) (x : Lex) (k : Int) (t : List UInt8) : (∀ e, turn x k t = .error e → turn (low d x) k t = .error e) ∧ (∀ y, turn x k t = .ok y → ∃ d', turn (low d x) k t = .ok (low d' y)) := by
  obtain ⟨tp, bl⟩ := x
  by_cases h7 : k = 7
  · subst h7
    refine ⟨fun e h => (by cases h), fun y h => ?_⟩
    cases h
    exact ⟨d, by cases bl <;> rfl⟩
  by_cases h11 : k = 11
  · subst h11
    refine ⟨fun e h => (by cases h), fun y h => ?_⟩
    cases h
    exact ⟨d, by cases bl <;> rfl⟩
  by_cases h9 : k = 9
  · subst h9
    have e1 : ∀ x : Lex, turn x 9 t = if 256 ≤ x.below.length then .error 21 else .ok ⟨⟨false, 0⟩, x.below ++ [x.top]⟩ := fun x => rfl
    rw [e1, e1]
    have hl : (low d ⟨tp, bl⟩).below.length = bl.length := by cases bl <;> rfl
    rw [hl]
    by_cases hd : 256 ≤ bl.length
    · rw [if_pos hd, if_pos hd]
      exact ⟨fun e h => h, fun y h => by cases h⟩
    · rw [if_neg hd, if_neg hd]
      refine ⟨fun e h => (by cases h), fun y h => ?_⟩
      cases h
      exact ⟨d, by cases bl <;> rfl⟩
  by_cases h10 : k = 10
  · subst h10
    refine ⟨fun e h => (by cases h), fun y h => ?_⟩
    cases h
    cases bl with
    | nil => exact ⟨0, rfl⟩
    | cons b r =>
      cases r with
      | nil => exact ⟨d, rfl⟩
      | cons c q => exact ⟨d, by simp [turn, low, List.getLastD, List.getLast_cons]⟩
  by_cases h13 : k = 13
  · subst h13
    refine ⟨fun e h => (by cases h), fun y h => ?_⟩
    cases h
    cases bl with
    | nil => exact ⟨wrap64 (d + bracket t), rfl⟩
    | cons b r => exact ⟨d, rfl⟩
  · have e1 : ∀ x : Lex, turn x k t = .ok x := fun x => by unfold turn; rw [if_neg h7, if_neg h11, if_neg h9, if_neg h10, if_neg h13]
    rw [e1, e1]
    refine ⟨fun e h => (by cases h), fun y h => ?_⟩
    cases h
    exact ⟨d, rfl⟩
theorem next_low (d : Int) (x : Lex) (l : List UInt8) : (∀ e, next x l = .error e → next (low d x) l = .error e) ∧ (∀ k n y, next x l = .ok (k, n, y) → ∃ d', next (low d x) l = .ok (k, n, low d' y)) := by
  have htext : (low d x).top.text = x.top.text := by obtain ⟨t, bl⟩ := x; cases bl <;> rfl
  unfold next
  rw [tried_low, htext]
  cases hf : find (tried x) l with
  | none => exact ⟨fun e h => h, fun k n y h => by cases h⟩
  | some p =>
    obtain ⟨k', n'⟩ := p
    simp only
    obtain ⟨t1, t2⟩ := turn_low d x k' (l.take n')
    cases ht : turn x k' (l.take n') with
    | error e => rw [t1 e ht]; exact ⟨fun e h => h, fun k n y h => by cases h⟩
    | ok z =>
      obtain ⟨d', hd⟩ := t2 z ht
      rw [hd]
      exact ⟨fun e h => (by cases h), fun k n y h => by cases h; exact ⟨d', rfl⟩⟩
theorem lex_low (d : Int) (x : Lex) (l : List UInt8) : lexA (low d x) l = lexA x l := by
  generalize hn : l.length = n
  induction n using Nat.strongRecOn generalizing l x d with
  | ind n ih =>
    subst hn
    by_cases h0 : l = []
    · subst h0; rw [lexA_nil, lexA_nil, ended_low]
    · obtain ⟨n1, n2⟩ := next_low d x l
      cases hx : next x l with
      | error e => rw [lexA_err hx h0, lexA_err (n1 e hx) h0]
      | ok p =>
        obtain ⟨k, n, y⟩ := p
        have hl := next_le hx
        obtain ⟨d', hd⟩ := n2 k n y hx
        rw [lexA_ok hx h0, lexA_ok hd h0, ih (l.drop n).length (by rw [List.length_drop]; omega) d' y (l.drop n) rfl]
theorem lex_ended (x : Lex) (h : ended x = true) (l : List UInt8) : lexA x l = lexA start l := by
  obtain ⟨⟨t, br⟩, bl⟩ := x
  unfold ended at h
  rw [Bool.and_eq_true] at h
  cases bl with
  | cons b r => simp at h
  | nil =>
    have : t = false := by simpa using h.2
    subst this
    exact lex_low br start l
theorem kind_one : ∀ e ∈ outside, e.1 = 1 → e = (1, run cB) := by
  intro e he h
  simp only [outside, List.mem_cons, List.not_mem_nil, or_false] at he
  rcases he with rfl | rfl | rfl | rfl | rfl | rfl | rfl | rfl | rfl
  · rfl
  all_goals exact absurd h (by decide)
/-- A source whose tokens do not begin with blanks does not. -/
theorem first_kind (b : List UInt8) (m : List Tok) (h : lexA start b = (m, 0)) (hm : ∀ t, m.head? = some t → t.1 ≠ 1) : run cB b = 0 := by
  by_cases h0 : b = []
  · subst h0; rfl
  · by_cases hr : run cB b = 0
    · exact hr
    · have hf : find outside b = some (1, run cB b) := by
        show (if run cB b = 0 then _ else some ((1 : Int), run cB b)) = _
        rw [if_neg hr]
      have hx : next start b = .ok (1, run cB b, start) := by
        unfold next
        rw [show tried start = outside from rfl, hf]
        rfl
      rw [lexA_ok hx h0] at h
      have h1 := congrArg Prod.fst h
      simp only at h1
      exact absurd rfl (hm _ (by rw [← h1]; rfl))
/-- Two sources, one behind the other. -/
theorem lex_split (x : Lex) (l b : List UInt8) (hl : EndNL l) (toks m : List Tok) (h : lexA x l = (toks, 0)) (hlast : ∀ t, toks.getLast? = some t → t.1 = 1) (hb : lexA start b = (m, 0)) (hm : ∀ t, m.head? = some t → t.1 ≠ 1) :
    lexA x (l ++ b) = (toks ++ m, 0) := by
  generalize hn : l.length = n
  induction n using Nat.strongRecOn generalizing l x toks with
  | ind n ih =>
    subst hn
    have hne := hl.ne
    have hne2 : l ++ b ≠ [] := by simp [hne]
    cases hx : next x l with
    | error e =>
      rw [lexA_err hx hne] at h
      cases h
      rcases next_err_ne hx with h1 | h1 | h1 <;> omega
    | ok p =>
      obtain ⟨k, n, y⟩ := p
      have hle := next_le hx
      rw [lexA_ok hx hne] at h
      have h1 := congrArg Prod.fst h
      have h2 := congrArg Prod.snd h
      simp only at h1 h2
      by_cases hlt : n < l.length
      · have hnx := next_ext b hl hx hlt
        have hq : lexA y (l.drop n) = ((lexA y (l.drop n)).1, 0) := Prod.ext rfl h2
        have hne3 : (lexA y (l.drop n)).1 ≠ [] := fun e => by
          have hd := hl.drop hlt
          cases hy : next y (l.drop n) with
          | error e' =>
            rw [lexA_err hy hd.ne] at h2
            simp only at h2
            rcases next_err_ne hy with h1 | h1 | h1 <;> omega
          | ok q =>
            obtain ⟨k2, n2, y2⟩ := q
            rw [lexA_ok hy hd.ne] at e
            cases e
        have := ih (l.drop n).length (by rw [List.length_drop]; omega) y (l.drop n) (hl.drop hlt) _ hq (fun t ht => hlast t (by
          rw [← h1]
          obtain ⟨a, r, har⟩ : ∃ a r, (lexA y (l.drop n)).1 = a :: r := by
            cases hc : (lexA y (l.drop n)).1 with
            | nil => exact absurd hc hne3
            | cons a r => exact ⟨a, r, rfl⟩
          rw [har] at ht ⊢
          rw [List.getLast?_cons_cons]
          exact ht)) rfl
        rw [lexA_ok hnx hne2, List.take_append_of_le_length (by omega), List.drop_append_of_le_length (by omega), this, ← h1]
        rfl
      · obtain rfl : n = l.length := by omega
        rw [List.drop_length, lexA_nil] at h1 h2
        simp only at h1 h2
        have hk : k = 1 := hlast (k, l.take l.length) (by rw [← h1]; rfl)
        subst hk
        obtain ⟨f1, f2⟩ := next_find hx
        have hyx : y = x := by
          have : turn x 1 (l.take l.length) = .ok x := rfl
          rw [this] at f2
          cases f2
          rfl
        subst hyx
        have hend : ended y = true := by
          cases he : ended y with
          | true => rfl
          | false => rw [he] at h2; exact absurd h2 (by decide)
        have htr : tried y = outside := by
          obtain ⟨⟨t, br⟩, bl⟩ := y
          unfold ended at hend
          rw [Bool.and_eq_true] at hend
          cases bl with
          | cons c r => simp at hend
          | nil =>
            have : t = false := by simpa using hend.2
            subst this
            rfl
        rw [htr] at f1
        obtain ⟨_, e, he, e1, e2⟩ := find_some f1
        have := kind_one e he e1
        subst this
        simp only at e2
        have hr : run cB (l ++ b) = l.length := by rw [Sg.run_all e2, first_kind b m hb hm]; rfl
        have hf : find outside (l ++ b) = some (1, l.length) := by
          show (if run cB (l ++ b) = 0 then _ else some ((1 : Int), run cB (l ++ b))) = _
          rw [hr, if_neg hl.1]
        have hx2 : next y (l ++ b) = .ok (1, l.length, y) := by
          unfold next
          rw [htr, hf]
          rfl
        rw [lexA_ok hx2 hne2, List.take_left, List.drop_left, lex_ended y hend, hb, ← h1]
        simp
end Go.Proofs.YteemngcdpidnfaaDoor.Lx
