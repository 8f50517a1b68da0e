/-
  ItPure: several texts in one, each with its own head.
-/
import Derived.Test.YtmoamfcaokefiaaGreatDoorSgSpec
import Derived.Test.YtmoamfcaokefiaaGreatDoorLxCut

/-
  Mathematics of layer 3's laws: what stands at the front, cut where it ends, is the same.
-/
namespace Go.Proofs.YtmoamfcaokefiaaGreatDoor.Sg

/-- What ends all: nothing, or a blank. -/
def brk (r : List UInt8) : Prop := r = [] ∨ ∃ t, r = 32 :: t
theorem brk.stop {r : List UInt8} (h : brk r) {p : Int → Bool} (hp : p 32 = false) : stop p r := by
  rcases h with rfl | ⟨t, rfl⟩
  · exact stop_nil p
  · exact stop_cons hp t
theorem brk.at' {r : List UInt8} (h : brk r) {p : Int → Bool} (hp : p 32 = false) : at' p r 0 = false := by
  rcases h with rfl | ⟨t, rfl⟩
  · rfl
  · simp [Sg.at', hp]

/-! Numbers. -/
/-! Words. -/
/-! Escapes and operators. -/
end Go.Proofs.YtmoamfcaokefiaaGreatDoor.Sg

/-
  Mathematics of layer 5: words, cut where they end, with anything behind that does not go on.
-/
namespace Go.Proofs.YtmoamfcaokefiaaGreatDoor.Sg
set_option linter.unusedVariables false

/-- What ends a word. -/
def Wd (r : List UInt8) : Prop := stop cW r ∧ Lib.hasPrefix r [58, 58] = false
theorem stop_at {p : Int → Bool} {r : List UInt8} (h : stop p r) : at' p r 0 = false := by
  cases r with
  | nil => rfl
  | cons b t => simp [at', h b rfl]
theorem stop_sub {p q : Int → Bool} {r : List UInt8} (h : stop p r) (hq : ∀ n, q n = true → p n = true) : stop q r := fun b hb => by
  cases hc : q (b.toNat : Int) with
  | false => rfl
  | true => have := h b hb; rw [hq _ hc] at this; cases this
theorem stop_L {r : List UInt8} (h : stop cW r) : stop cL r := stop_sub h LW0
theorem Wd.at' {r : List UInt8} (h : Wd r) : Sg.at' cL r 0 = false := stop_at (stop_L h.1)
end Go.Proofs.YtmoamfcaokefiaaGreatDoor.Sg

/-
  Mathematics of layer 5: a token's shape with more behind it.
-/
namespace Go.Proofs.YtmoamfcaokefiaaGreatDoor.Lx
open Go.RowKit (wrap64)
open Sg (run cB cW cD cL at' stop Wd)
set_option linter.unusedVariables false

theorem pre_h (b c : UInt8) (r : List UInt8) : Lib.hasPrefix (b :: r) [c] = decide (b = c) := by
  rw [Bool.eq_iff_iff, decide_eq_true_eq]
  unfold Lib.hasPrefix
  rw [List.isPrefixOf_iff_prefix]
  constructor
  · intro h
    obtain ⟨t, ht⟩ := h
    simp at ht
    exact ht.1.symm
  · rintro rfl
    exact ⟨r, rfl⟩
/-! Numbers. -/
/-! Operators. -/
end Go.Proofs.YtmoamfcaokefiaaGreatDoor.Lx

/-
  Mathematics of layer 5: a row of tokens, with a blank where two are not tight, has the same tokens.
-/
namespace Go.Proofs.YtmoamfcaokefiaaGreatDoor.Lx
open Go.RowKit (wrap64)
open Sg (run cB cW cD cL at' stop Wd)
set_option linter.unusedVariables false

theorem find_colon (r : List UInt8) : find outside (58 :: r) = some (13, 1) := rfl
end Go.Proofs.YtmoamfcaokefiaaGreatDoor.Lx

/-
  Mathematics of layer 5: which tokens may stand side by side; a line has the same tokens.
-/
namespace Go.Proofs.YtmoamfcaokefiaaGreatDoor.Lx
open Go.RowKit (wrap64)
open Sg (run cB cW cD cL at' stop Wd)
set_option linter.unusedVariables false

def idleT (t : Tok) : Bool := t.1 == 1 || t.1 == 2
def strT (t : Tok) : Bool := decide (7 ≤ t.1) && decide (t.1 ≤ 11)
def numT (a b : Tok) : Bool := a.1 == 6 && (b.1 == 6 || b.1 == 3)
def colT (a b : Tok) : Bool := a == (13, [58]) && b == (13, [58])
/-- May one stand behind the other? T: the tokens of a text. -/
def tightT (T : List UInt8 → List Tok) (a b : Tok) : Bool := !(idleT a || idleT b || numT a b || colT a b) && (strT a || strT b || T (a.2 ++ b.2) == [a, b])
def gapT (T : List UInt8 → List Tok) (a b : Tok) : List UInt8 := if tightT T a b then [] else [32]
def lineGo (T : List UInt8 → List Tok) (a : Tok) : List Tok → List UInt8
  | [] => []
  | b :: r => gapT T a b ++ (b.2 ++ lineGo T b r)
def lineT (T : List UInt8 → List Tok) : List Tok → List UInt8
  | [] => []
  | a :: r => a.2 ++ lineGo T a r
def gapK (T : List UInt8 → List Tok) (a b : Tok) : List Tok := if tightT T a b then [] else [(1, [32])]
def spacedGo (T : List UInt8 → List Tok) (a : Tok) : List Tok → List Tok
  | [] => []
  | b :: r => gapK T a b ++ (b :: spacedGo T b r)
def spacedT (T : List UInt8 → List Tok) : List Tok → List Tok
  | [] => []
  | a :: r => a :: spacedGo T a r
/-- A state's tokens up to an end. -/
def WF : Lex → List Tok → Prop
  | x, [] => ended x = true
  | x, t :: r => ∃ y, find (tried x) t.2 = some (t.1, t.2.length) ∧ turn x t.1 t.2 = .ok y ∧ (t.1 = 8 → ∀ u, r.head? = some u → u.1 ≠ 8) ∧ WF y r

theorem piece_max (l : List UInt8) : piece (l.drop (piece l)) = 0 := by
  generalize hn : l.length = n
  induction n using Nat.strongRecOn generalizing l with
  | ind n ih =>
    subst hn
    cases l with
    | nil => rfl
    | cons b r =>
      rw [piece_cons]
      by_cases h1 : b = 34
      · subst h1; rw [if_pos rfl]; exact piece_quote r
      · rw [if_neg h1]
        by_cases h2 : b = 92
        · subst h2
          rw [if_pos rfl]
          by_cases h3 : Sg.escape (92 :: r) = 0
          · rw [if_pos h3]; exact piece_none r h3
          · have hl := Sg.escape_le (92 :: r)
            rw [if_neg h3, ← List.drop_drop]
            exact ih _ (by rw [List.length_drop]; omega) _ rfl
        · rw [if_neg h2, show (b :: r).drop (1 + piece r) = r.drop (piece r) by rw [Nat.add_comm]; rfl]
          exact ih _ (by simp) _ rfl
theorem kind_eight {x : Lex} {l : List UInt8} {n : Nat} (h : find (tried x) l = some (8, n)) : x.top.text = true ∧ n = piece l := by
  unfold tried at h
  cases ht : x.top.text with
  | true =>
    rw [ht, if_pos rfl] at h
    simp only [inside, find] at h
    split at h
    · split at h
      · split at h
        · cases h
        · cases h
      · cases h
    · cases h; exact ⟨rfl, rfl⟩
  | false =>
    exfalso
    rw [ht, if_neg (by decide)] at h
    have key : ∀ e ∈ closing, e.1 ≠ 8 := by
      intro e he
      simp only [closing, outside, List.mem_cons, List.not_mem_nil, or_false] at he
      rcases he with rfl | rfl | rfl | rfl | rfl | rfl | rfl | rfl | rfl | rfl <;> decide
    split at h
    · obtain ⟨_, e, he, hk, _⟩ := find_some h
      exact key e he hk
    · obtain ⟨_, e, he, hk, _⟩ := find_some h
      exact key e (List.mem_cons_of_mem _ he) hk
theorem wf_of_lex {x : Lex} {l : List UInt8} {ts : List Tok} (h : lexA x l = (ts, 0)) : WF x ts := by
  generalize hn : l.length = n
  induction n using Nat.strongRecOn generalizing x l ts with
  | ind n ih =>
    subst hn
    by_cases h0 : l = []
    · subst h0
      rw [lexA_nil] at h
      obtain ⟨h1, h2⟩ := Prod.mk.inj h
      subst h1
      unfold WF
      cases hx : ended x with
      | true => rfl
      | false => rw [hx] at h2; simp at h2
    · cases hx : next x l with
      | error e =>
        rw [lexA_err hx h0] at h
        cases h
        rcases next_err_ne hx with h | h | h <;> cases h
      | ok p =>
        obtain ⟨k, n, y⟩ := p
        have hl := next_le hx
        obtain ⟨hf, ht⟩ := next_find hx
        rw [lexA_ok hx h0] at h
        obtain ⟨us, hus⟩ : ∃ us, lexA y (l.drop n) = (us, 0) := ⟨(lexA y (l.drop n)).1, by rw [← (Prod.mk.inj h).2]⟩
        have hts := (Prod.mk.inj h).1
        rw [hus] at hts
        subst hts
        refine ⟨y, ?_, ht, fun h8 u hu e8 => ?_, ih (l.drop n).length (by rw [List.length_drop]; omega) hus rfl⟩
        · have := find_take (keeps_tried x) hf (Nat.le_refl n)
          simp only [List.length_take, Nat.min_eq_left hl.2]
          exact this
        · simp only at h8
          subst h8
          obtain ⟨htx, hnp⟩ := kind_eight hf
          have hy : y = x := by
            have : turn x 8 (l.take n) = .ok x := rfl
            rw [this] at ht; cases ht; rfl
          subst hy
          by_cases h1 : l.drop n = []
          · rw [h1, lexA_nil] at hus
            rw [← (Prod.mk.inj hus).1] at hu; cases hu
          · cases hx2 : next y (l.drop n) with
            | error e =>
              rw [lexA_err hx2 h1] at hus
              rw [← (Prod.mk.inj hus).1] at hu; cases hu
            | ok p2 =>
              obtain ⟨k2, n2, y2⟩ := p2
              rw [lexA_ok hx2 h1] at hus
              have := (Prod.mk.inj hus).1
              rw [← this] at hu
              simp at hu
              subst hu
              simp only at e8
              subst e8
              obtain ⟨hf2, _⟩ := next_find hx2
              have h2 := (kind_eight hf2).2
              rw [hnp, piece_max] at h2
              exact (find_some hf2).1 h2
theorem turn_idle {x : Lex} {t : Tok} (h : idleT t = true) : turn x t.1 t.2 = .ok x := by
  unfold idleT at h
  simp only [Bool.or_eq_true, beq_iff_eq] at h
  unfold turn
  rw [if_neg (by omega), if_neg (by omega), if_neg (by omega), if_neg (by omega), if_neg (by omega)]
theorem in_kinds {x : Lex} {l : List UInt8} {k : Int} {n : Nat} (ht : x.top.text = true) (h : find (tried x) l = some (k, n)) : (k = 8 ∧ n = piece l) ∨ (k = 11 ∧ n = just [34] l) ∨ (k = 9 ∧ n = just [92, 40] l) := by
  unfold tried at h
  rw [ht, if_pos rfl] at h
  simp only [inside, find] at h
  split at h
  · split at h
    · split at h
      · cases h
      · cases h; exact .inr (.inr ⟨rfl, rfl⟩)
    · cases h; exact .inr (.inl ⟨rfl, rfl⟩)
  · cases h; exact .inl ⟨rfl, rfl⟩
/-- Spaces and notes left out, it is so still. -/
theorem WF.plain {x : Lex} {ts : List Tok} (h : WF x ts) : WF x (ts.filter (fun t => !idleT t)) := by
  induction ts generalizing x with
  | nil => exact h
  | cons t r ih =>
    obtain ⟨y, h1, h2, h3, h4⟩ := h
    cases hi : idleT t with
    | true =>
      rw [turn_idle hi] at h2
      cases h2
      rw [List.filter_cons_of_neg (by simp [hi])]
      exact ih h4
    | false =>
      rw [List.filter_cons_of_pos (by simp [hi])]
      refine ⟨y, h1, h2, fun h8 u hu => ?_, ih h4⟩
      have e8 := h8
      obtain ⟨k, tx⟩ := t
      simp only at h8
      subst h8
      obtain ⟨htx, _⟩ := kind_eight h1
      have hy : y = x := by
        have : turn x 8 tx = .ok x := rfl
        rw [this] at h2; cases h2; rfl
      subst hy
      cases r with
      | nil => cases hu
      | cons b r' =>
        obtain ⟨z, g1, _⟩ := h4
        have hb : idleT b = false := by
          unfold idleT
          rcases in_kinds htx g1 with ⟨e, _⟩ | ⟨e, _⟩ | ⟨e, _⟩ <;> rw [e] <;> rfl
        rw [List.filter_cons_of_pos (by simp [hb])] at hu
        simp at hu
        subst hu
        exact h3 rfl b rfl
theorem closing_head {l : List UInt8} (h : l.head? ≠ some 41) : find closing l = find outside l := by
  have hj : just [41] l = 0 := by
    unfold just
    rw [if_neg]
    cases l with
    | nil => simp [Lib.hasPrefix, List.isPrefixOf]
    | cons b r => rw [pre_h]; simp at h; simp [h]
  simp only [closing, find, hj, if_true]
theorem closing_41 (r : List UInt8) : find closing (41 :: r) = some (10, 1) := rfl
/-- Outside of strings: a closing bracket that ends, or one of outside. -/
theorem out_kinds {x : Lex} {l : List UInt8} {k : Int} {n : Nat} (ht : x.top.text = false) (h : find (tried x) l = some (k, n)) : (k = 10 ∧ n = 1 ∧ ∃ r, l = 41 :: r) ∨ (find outside l = some (k, n) ∧ ∀ q, l ≠ [] → find (tried x) (l ++ q) = find outside (l ++ q)) := by
  unfold tried at h ⊢
  rw [ht, if_neg (by decide)] at h ⊢
  split at h
  · rename_i hc
    by_cases h41 : l.head? = some 41
    · cases l with
      | nil => cases h41
      | cons b r =>
        simp at h41; subst h41
        rw [closing_41] at h
        cases h
        exact .inl ⟨rfl, rfl, r, rfl⟩
    · rw [closing_head h41] at h
      refine .inr ⟨h, fun q h0 => ?_⟩
      rw [if_pos hc, closing_head]
      cases l with
      | nil => exact absurd rfl h0
      | cons b r => simpa using h41
  · rename_i hc
    exact .inr ⟨h, fun q h0 => by rw [if_neg hc]⟩
theorem kinds_out {l : List UInt8} {k : Int} {n : Nat} (h : find outside l = some (k, n)) : k = 1 ∨ k = 2 ∨ k = 3 ∨ k = 4 ∨ k = 5 ∨ k = 12 ∨ k = 6 ∨ k = 7 ∨ k = 13 := by
  obtain ⟨_, e, he, hk, _⟩ := find_some h
  simp only [outside, List.mem_cons, List.not_mem_nil, or_false] at he
  rcases he with rfl | rfl | rfl | rfl | rfl | rfl | rfl | rfl | rfl <;> simp at hk <;> omega
theorem turn_out {x y : Lex} {k : Int} {t : List UInt8} (h : turn x k t = .ok y) (hk : k = 1 ∨ k = 2 ∨ k = 3 ∨ k = 4 ∨ k = 5 ∨ k = 12 ∨ k = 6 ∨ k = 13) : y.top.text = x.top.text ∧ y.below = x.below := by
  unfold turn at h
  rcases hk with rfl | rfl | rfl | rfl | rfl | rfl | rfl | rfl
  all_goals (simp at h; subst h; exact ⟨rfl, rfl⟩)
/-- T tells of a text its tokens, where it tells any. -/
def Tells (T : List UInt8 → List Tok) : Prop := ∀ l a r, T l = a :: r → lexA start l = (a :: r, 0)
end Go.Proofs.YtmoamfcaokefiaaGreatDoor.Lx

/-
  Mathematics of layer 5: two tokens that stand side by side in a source.
-/
namespace Go.Proofs.YtmoamfcaokefiaaGreatDoor.Lx
open Go.RowKit (wrap64)
open Sg (run cB cW cD cL at' stop Wd)
set_option linter.unusedVariables false

/-- Two tokens, one behind the other, where a lexer stands at them. -/
structure Side (a b : Tok) where
  x : Lex
  y : Lex
  l : List UInt8
  hf : find (tried x) l = some (a.1, a.2.length)
  ha : a.2 = l.take a.2.length
  ht : turn x a.1 a.2 = .ok y
  hg : find (tried y) (l.drop a.2.length) = some (b.1, b.2.length)
  hb : b.2 = (l.drop a.2.length).take b.2.length
theorem Side.kind {a b : Tok} (s : Side a b) : 1 ≤ a.1 ∧ 1 ≤ b.1 ∧ a.2 ≠ [] ∧ b.2 ≠ [] := by
  have key : ∀ x : Lex, ∀ e ∈ tried x, 1 ≤ e.1 := by
    intro x e he
    unfold tried at he
    split at he
    · simp only [inside, List.mem_cons, List.not_mem_nil, or_false] at he
      rcases he with rfl | rfl | rfl <;> decide
    · have : e ∈ closing := by
        split at he
        · exact he
        · exact List.mem_cons_of_mem _ he
      simp only [closing, outside, List.mem_cons, List.not_mem_nil, or_false] at this
      rcases this with rfl | rfl | rfl | rfl | rfl | rfl | rfl | rfl | rfl | rfl <;> decide
  obtain ⟨h1, e1, he1, hk1, _⟩ := find_some s.hf
  obtain ⟨h2, e2, he2, hk2, _⟩ := find_some s.hg
  exact ⟨by rw [← hk1]; exact key _ _ he1, by rw [← hk2]; exact key _ _ he2, fun e => h1 (by rw [e]; rfl), fun e => h2 (by rw [e]; rfl)⟩
theorem Side.find_b {a b : Tok} (s : Side a b) : find (tried s.y) b.2 = some (b.1, b.2.length) := by
  have := find_take (keeps_tried s.y) s.hg (Nat.le_refl _)
  rwa [← s.hb] at this
theorem Side.find_ab {a b : Tok} (s : Side a b) : find (tried s.x) (a.2 ++ b.2) = some (a.1, a.2.length) := by
  have h : a.2 ++ b.2 = s.l.take (a.2.length + b.2.length) := by
    rw [List.take_add, ← s.ha, ← s.hb]
  rw [h]
  exact find_take (keeps_tried s.x) s.hf (Nat.le_add_right _ _)
/-- What the law asks of two tokens: a space is never tight, nor a number with a number or a word, nor two colons. -/
def spaceT (a b : Tok) : Bool := decide (a.1 < 3) || decide (b.1 < 3) || numT a b || (a.2 == [58] && b.2 == [58] && a.1 == 13)
theorem plain_text {x : Lex} {l : List UInt8} {k : Int} {n : Nat} (h : find (tried x) l = some (k, n)) (hk : k = 3 ∨ k = 4 ∨ k = 5 ∨ k = 12 ∨ k = 6 ∨ k = 13) : x.top.text = false := by
  cases ht : x.top.text with
  | false => rfl
  | true =>
    exfalso
    rcases in_kinds ht h with ⟨e, _⟩ | ⟨e, _⟩ | ⟨e, _⟩ <;> omega
/-- Two tokens side by side that are no strings: alone they are two. -/
theorem Side.two {a b : Tok} (s : Side a b) (hia : ¬ a.1 < 3) (hsa : strT a = false) (hib : ¬ b.1 < 3) (hsb : strT b = false) : lexA start (a.2 ++ b.2) = ([a, b], 0) := by
  obtain ⟨_, _, hna, hnb⟩ := s.kind
  have ka : a.1 < 7 ∨ 11 < a.1 := by
    unfold strT at hsa
    rw [Bool.and_eq_false_iff, decide_eq_false_iff_not, decide_eq_false_iff_not] at hsa
    omega
  have kb : b.1 < 7 ∨ 11 < b.1 := by
    unfold strT at hsb
    rw [Bool.and_eq_false_iff, decide_eq_false_iff_not, decide_eq_false_iff_not] at hsb
    omega
  have hxt : s.x.top.text = false := by
    cases ht : s.x.top.text with
    | false => rfl
    | true => exfalso; rcases in_kinds ht s.hf with ⟨e, _⟩ | ⟨e, _⟩ | ⟨e, _⟩ <;> omega
  have hfo : find outside (a.2 ++ b.2) = some (a.1, a.2.length) := by
    rcases out_kinds hxt s.find_ab with ⟨e, _⟩ | ⟨h, _⟩
    · omega
    · exact h
  have hka := kinds_out hfo
  have hyt : s.y.top.text = false := by
    rw [← hxt]; exact (turn_out s.ht (by omega)).1
  have hbo : find outside b.2 = some (b.1, b.2.length) := by
    rcases out_kinds hyt s.find_b with ⟨e, _⟩ | ⟨h, _⟩
    · omega
    · exact h
  have hkb := kinds_out hbo
  have t1 : ∃ z, turn start a.1 a.2 = .ok z ∧ z.top.text = false ∧ z.below = [] := by
    unfold turn
    rw [if_neg (by omega), if_neg (by omega), if_neg (by omega), if_neg (by omega)]
    split
    · exact ⟨_, rfl, rfl, rfl⟩
    · exact ⟨_, rfl, rfl, rfl⟩
  obtain ⟨z, hz, zt, zb⟩ := t1
  have tz : tried z = outside := by unfold tried; rw [zt, zb]; simp
  have t2 : ∃ u, turn z b.1 b.2 = .ok u ∧ u.top.text = false ∧ u.below = [] := by
    unfold turn
    rw [if_neg (by omega), if_neg (by omega), if_neg (by omega), if_neg (by omega)]
    split
    · exact ⟨_, rfl, zt, zb⟩
    · exact ⟨_, rfl, zt, zb⟩
  obtain ⟨u, hu, ut, ub⟩ := t2
  have n1 : next start (a.2 ++ b.2) = .ok (a.1, a.2.length, z) := by
    unfold next
    rw [show tried start = outside from rfl, hfo]
    simp only [List.take_left, hz]
  have n2 : next z b.2 = .ok (b.1, b.2.length, u) := by
    unfold next
    rw [tz, hbo]
    simp only [List.take_length, hu]
  rw [lexA_ok n1 (by simp [hna])]
  simp only [List.take_left, List.drop_left]
  rw [lexA_ok n2 hnb, List.drop_length, lexA_nil, List.take_length]
  have : ended u = true := by unfold ended; rw [ub, ut]; rfl
  rw [this]; rfl
/-- Tight is what the law says of two tokens side by side. -/
theorem Side.tight {a b : Tok} (s : Side a b) (T : List UInt8 → List Tok) (hT : lexA start (a.2 ++ b.2) = ([a, b], 0) → T (a.2 ++ b.2) = [a, b]) : tightT T a b = !spaceT a b := by
  obtain ⟨h1, h2, hna, hnb⟩ := s.kind
  have hia : idleT a = decide (a.1 < 3) := by
    unfold idleT; rw [Bool.eq_iff_iff]; simp; omega
  have hib : idleT b = decide (b.1 < 3) := by
    unfold idleT; rw [Bool.eq_iff_iff]; simp; omega
  have hcol : colT a b = (a.2 == [58] && b.2 == [58] && a.1 == 13) := by
    rw [Bool.eq_iff_iff]
    unfold colT
    simp only [Bool.and_eq_true, beq_iff_eq]
    constructor
    · rintro ⟨e1, e2⟩; rw [e1, e2]; simp
    · rintro ⟨⟨e1, e2⟩, e3⟩
      refine ⟨Prod.ext e3 e1, Prod.ext ?_ e2⟩
      have hxt := plain_text s.hf (by simp [e3])
      have hfo : find outside (a.2 ++ b.2) = some (a.1, a.2.length) := by
        rcases out_kinds hxt s.find_ab with ⟨e, _⟩ | ⟨h, _⟩
        · omega
        · exact h
      have hyt : s.y.top.text = false := by rw [← hxt]; exact (turn_out s.ht (by simp [e3])).1
      rcases out_kinds hyt s.find_b with ⟨_, _, q, e⟩ | ⟨h, _⟩
      · rw [e2] at e; cases e
      · rw [e2, find_colon] at h
        exact (congrArg (fun o => (o.getD (0, 0)).1) h).symm
  unfold tightT spaceT
  rw [hia, hib, hcol]
  cases hsp : (decide (a.1 < 3) || decide (b.1 < 3) || numT a b || (a.2 == [58] && b.2 == [58] && a.1 == 13)) with
  | true => simp
  | false =>
    rw [Bool.or_eq_false_iff, Bool.or_eq_false_iff, Bool.or_eq_false_iff, decide_eq_false_iff_not, decide_eq_false_iff_not] at hsp
    cases hsa : strT a with
    | true => simp
    | false =>
      cases hsb : strT b with
      | true => simp
      | false =>
        have := s.two hsp.1.1.1 hsa hsp.1.1.2 hsb
        rw [hT this]
        simp
end Go.Proofs.YtmoamfcaokefiaaGreatDoor.Lx
