/-
  Plain mathematics of layer 1 (texts and places): lines as spans, places, offsets; no program, no model's run.
-/
import Derived.Lib.Bytealg
namespace Go.Proofs.YtmoamfcaokefiaaGreatDoor.Sp

/-- The lines of a text: number, first place, end. n: the number of the line that is open, f: where it begins, c: where we stand. -/
def spans : List UInt8 → Nat → Nat → Nat → List (Nat × Nat × Nat)
  | [], n, f, c => [(n, f, c)]
  | b :: r, n, f, c => if b = 10 then (n, f, c) :: spans r (n + 1) (c + 1) (c + 1) else spans r n f (c + 1)

theorem spans_index (l : List UInt8) : ∀ (n f c : Nat),
    (Lib.indexByte l 10 = -1 ∧ spans l n f c = [(n, f, c + l.length)]) ∨
    (∃ k : Nat, Lib.indexByte l 10 = (k : Int) ∧ k < l.length ∧ spans l n f c = (n, f, c + k) :: spans (l.drop (k + 1)) (n + 1) (c + k + 1) (c + k + 1)) := by
  induction l with
  | nil => intro n f c; exact .inl ⟨rfl, by simp [spans]⟩
  | cons b r ih =>
    intro n f c
    by_cases hb : b = 10
    · subst hb
      exact .inr ⟨0, by simp [Lib.indexByte], by simp, by simp [spans]⟩
    · rcases ih n f (c + 1) with ⟨h1, h2⟩ | ⟨k, h1, hk, h2⟩
      · refine .inl ⟨by simp [Lib.indexByte, hb, h1], ?_⟩
        simp only [spans, if_neg hb, h2, List.length_cons]
        congr 3; omega
      · refine .inr ⟨k + 1, ?_, by simp; omega, ?_⟩
        · have : ¬ ((k : Int) = -1) := by omega
          simp [Lib.indexByte, hb, h1, this]
        · simp only [spans, if_neg hb, h2, List.drop_succ_cons]
          have e1 : c + 1 + k = c + (k + 1) := by omega
          rw [e1]

/-- Every span lies in order, inside of the text. -/
theorem spans_bd (l : List UInt8) : ∀ (n f c : Nat), f ≤ c → ∀ x ∈ spans l n f c, n ≤ x.1 ∧ f ≤ x.2.1 ∧ x.2.1 ≤ x.2.2 ∧ c ≤ x.2.2 ∧ x.2.2 ≤ c + l.length ∧ x.1 ≤ n + l.length := by
  induction l with
  | nil => intro n f c h x hx; simp [spans] at hx; subst hx; simp; omega
  | cons b r ih =>
    intro n f c h x hx
    simp only [spans] at hx
    split at hx
    · rcases List.mem_cons.1 hx with rfl | hx
      · simp; omega
      · have := ih _ _ _ (Nat.le_refl _) x hx
        simp; omega
    · have := ih _ _ _ (by omega) x hx
      simp; omega

theorem spans_ne (l : List UInt8) (n f c : Nat) : spans l n f c ≠ [] := by
  induction l generalizing n f c with
  | nil => simp [spans]
  | cons b r ih => simp only [spans]; split <;> simp [ih]

theorem spans_len (l : List UInt8) : ∀ n f c, (spans l n f c).length ≤ l.length + 1 := by
  induction l with
  | nil => intro n f c; simp [spans]
  | cons b r ih => intro n f c; simp only [spans]; split <;> (have := ih (n + 1) (c + 1) (c + 1); have := ih n f (c + 1); simp; omega)

def spansOf (l : List UInt8) : List (Nat × Nat × Nat) := spans l 0 0 0

/-- Place: the line and the column. -/
def placeF (l : List UInt8) (at' : Int) : Int × Int × Bool :=
  if at' < 0 then (0, 0, false) else match (spansOf l).find? (fun x => decide (at' ≤ (x.2.2 : Int))) with
    | some x => ((x.1 : Int), at' - (x.2.1 : Int), true)
    | none => (0, 0, false)

def offIn (x : Nat × Nat × Nat) (col : Int) : Int × Bool := if col < 0 ∨ (x.2.2 : Int) - (x.2.1 : Int) < col then (0, false) else ((x.2.1 : Int) + col, true)

/-- Offset: the way back. -/
def offF (l : List UInt8) (line col : Int) : Int × Bool :=
  match (spansOf l).find? (fun x => (x.1 : Int) == line) with
    | some x => offIn x col
    | none => (0, false)

def cut (l : List UInt8) (x : Nat × Nat × Nat) : List UInt8 := (l.drop x.2.1).take (x.2.2 - x.2.1)
def linesF (l : List UInt8) : List (List UInt8) := (spansOf l).map (cut l)

end Go.Proofs.YtmoamfcaokefiaaGreatDoor.Sp
