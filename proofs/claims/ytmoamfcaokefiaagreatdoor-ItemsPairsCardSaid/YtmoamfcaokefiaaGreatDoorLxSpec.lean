/-
  Plain mathematics of layer 4 (tokens): no program, no model's run.
-/
import Derived.WalkKit
import Derived.Test.YtmoamfcaokefiaaGreatDoorSgSpec
namespace Go.Proofs.YtmoamfcaokefiaaGreatDoor.Lx
open Go.RowKit (wrap64)
open Sg (run cB cW cD)

/-- A kind of token, and how many bytes the one at the front has. -/
abbrev Kd := Int × (List UInt8 → Nat)

/-- Between a note's bytes: 0: a line feed ends it; 1: behind an odd number of slashes; 2: and one carriage return. -/
def nstep (st : Nat) (b : UInt8) : Nat := if b = 92 then (if st = 1 then 0 else 1) else if b = 13 ∧ st = 1 then 2 else 0
def nst (l : List UInt8) : Nat := l.foldl nstep 0
def noteR : Nat → List UInt8 → Nat
  | _, [] => 0
  | st, b :: r => if b = 10 ∧ st = 0 then 0 else 1 + noteR (nstep st b) r
def note (l : List UInt8) : Nat := if Lib.hasPrefix l [35] then noteR 0 l else 0

def pieceF : Nat → List UInt8 → Nat
  | 0, _ => 0
  | _ + 1, [] => 0
  | f + 1, b :: r => if b = 34 then 0 else if b = 92 then (if Sg.escape (b :: r) = 0 then 0 else Sg.escape (b :: r) + pieceF f ((b :: r).drop (Sg.escape (b :: r)))) else 1 + pieceF f r
def piece (l : List UInt8) : Nat := pieceF l.length l

def just (t l : List UInt8) : Nat := if Lib.hasPrefix l t then t.length else 0
def marked (m : List UInt8) (f : List UInt8 → Nat) (l : List UInt8) : Nat := if Lib.hasPrefix l m then (if f (l.drop m.length) = 0 then 0 else m.length + f (l.drop m.length)) else 0

def outside : List Kd := [(1, run cB), (2, note), (3, Sg.word), (4, marked [46] Sg.simple), (5, marked [36] Sg.word), (12, marked [64] (run cW)), (6, Sg.number), (7, just [34]), (13, Sg.oper)]
def closing : List Kd := (10, just [41]) :: outside
def inside : List Kd := [(8, piece), (11, just [34]), (9, just [92, 40])]

structure St where
  text : Bool
  br : Int
deriving DecidableEq
structure Lex where
  top : St
  below : List St
deriving DecidableEq

def start : Lex := ⟨⟨false, 0⟩, []⟩
def ended (x : Lex) : Bool := x.below.isEmpty && !x.top.text
def tried (x : Lex) : List Kd := if x.top.text then inside else if 0 < x.below.length ∧ x.top.br = 0 then closing else outside
def find : List Kd → List UInt8 → Option (Int × Nat)
  | [], _ => none
  | h :: t, l => if h.2 l = 0 then find t l else some (h.1, h.2 l)
def bracket (t : List UInt8) : Int := if t = [40] then 1 else if t = [41] then -1 else 0
/-- The state behind a token; or the error. -/
def turn (x : Lex) (k : Int) (t : List UInt8) : Except Int Lex :=
  if k = 7 then .ok { x with top := { x.top with text := true } }
  else if k = 11 then .ok { x with top := { x.top with text := false } }
  else if k = 9 then (if 256 ≤ x.below.length then .error 21 else .ok ⟨⟨false, 0⟩, x.below ++ [x.top]⟩)
  else if k = 10 then .ok ⟨x.below.getLastD ⟨false, 0⟩, x.below.dropLast⟩
  else if k = 13 then .ok { x with top := { x.top with br := wrap64 (x.top.br + bracket t) } }
  else .ok x
def next (x : Lex) (l : List UInt8) : Except Int (Int × Nat × Lex) :=
  match find (tried x) l with
  | none => .error (if x.top.text then 12 else 11)
  | some (k, n) =>
    match turn x k (l.take n) with
    | .error e => .error e
    | .ok y => .ok (k, n, y)

abbrev Tok := Int × List UInt8
/-- The tokens that are told, and the error behind them (0: none). -/
def lex : Nat → Lex → List UInt8 → List Tok × Int
  | _, x, [] => ([], if ended x then 0 else 13)
  | 0, _, _ :: _ => ([], 0)
  | f + 1, x, b :: r =>
    match next x (b :: r) with
    | .error e => ([], e)
    | .ok (k, n, y) => ((k, (b :: r).take n) :: (lex f y ((b :: r).drop n)).1, (lex f y ((b :: r).drop n)).2)

def size (l : List Tok) : Nat := (l.map (·.2.length)).sum
def join (l : List Tok) : List UInt8 := (l.map (·.2)).flatten

theorem size_join (l : List Tok) : (join l).length = size l := by simp [join, size, List.length_flatten, List.map_map, Function.comp_def]

theorem noteR_le (st : Nat) (l : List UInt8) : noteR st l ≤ l.length := by
  induction l generalizing st with
  | nil => exact Nat.le_refl _
  | cons b r ih => simp only [noteR, List.length_cons]; have := ih (nstep st b); split <;> omega
theorem note_le (l : List UInt8) : note l ≤ l.length := by unfold note; split; exact noteR_le _ _; exact Nat.zero_le _
theorem pieceF_le (f : Nat) (l : List UInt8) : pieceF f l ≤ l.length := by
  induction f generalizing l with
  | zero => simp [pieceF]
  | succ f ih =>
    cases l with
    | nil => simp [pieceF]
    | cons b r =>
      have h1 := Sg.escape_le (b :: r)
      have h2 := ih ((b :: r).drop (Sg.escape (b :: r)))
      rw [List.length_drop] at h2
      have h3 := ih r
      simp only [pieceF, List.length_cons] at *
      split
      · omega
      · split
        · split <;> omega
        · omega
theorem piece_le (l : List UInt8) : piece l ≤ l.length := pieceF_le _ _
theorem just_le (t l : List UInt8) : just t l ≤ l.length := by
  unfold just; split
  · rename_i h; exact Sg.pre_length h
  · exact Nat.zero_le _
theorem marked_le (m : List UInt8) (f : List UInt8 → Nat) (hf : ∀ l, f l ≤ l.length) (l : List UInt8) : marked m f l ≤ l.length := by
  unfold marked
  split
  · rename_i h
    have h1 := Sg.pre_length h
    have h2 := hf (l.drop m.length)
    rw [List.length_drop] at h2
    split <;> omega
  · exact Nat.zero_le _

/-- Shapes whose sizes are those of what is there. -/
def Good (sh : List Kd) : Prop := ∀ h ∈ sh, ∀ l, h.2 l ≤ l.length
theorem good_outside : Good outside := by
  intro h hm l
  simp only [outside, List.mem_cons, List.not_mem_nil, or_false] at hm
  rcases hm with rfl | rfl | rfl | rfl | rfl | rfl | rfl | rfl | rfl
  · exact Sg.run_le _ _
  · exact note_le _
  · exact Sg.word_le _
  · exact marked_le _ _ Sg.simple_le _
  · exact marked_le _ _ Sg.word_le _
  · exact marked_le _ _ (Sg.run_le _) _
  · exact Sg.number_le _
  · exact just_le _ _
  · exact Sg.oper_le _
theorem good_closing : Good closing := by
  intro h hm l
  rcases List.mem_cons.1 hm with rfl | hm
  · exact just_le _ _
  · exact good_outside h hm l
theorem good_inside : Good inside := by
  intro h hm l
  simp only [inside, List.mem_cons, List.not_mem_nil, or_false] at hm
  rcases hm with rfl | rfl | rfl
  · exact piece_le _
  · exact just_le _ _
  · exact just_le _ _
theorem good_tried (x : Lex) : Good (tried x) := by
  unfold tried; split
  · exact good_inside
  · split
    · exact good_closing
    · exact good_outside
theorem find_some {sh : List Kd} {l : List UInt8} {k : Int} {n : Nat} (h : find sh l = some (k, n)) : n ≠ 0 ∧ ∃ e ∈ sh, e.1 = k ∧ e.2 l = n := by
  induction sh with
  | nil => cases h
  | cons e t ih =>
    simp only [find] at h
    split at h
    · obtain ⟨h1, e', h2, h3⟩ := ih h
      exact ⟨h1, e', List.mem_cons_of_mem _ h2, h3⟩
    · rename_i hn
      cases h
      exact ⟨hn, e, List.mem_cons_self .., rfl, rfl⟩
theorem find_le {x : Lex} {l : List UInt8} {k : Int} {n : Nat} (h : find (tried x) l = some (k, n)) : 0 < n ∧ n ≤ l.length := by
  obtain ⟨h1, e, h2, rfl, rfl⟩ := find_some h
  exact ⟨by omega, good_tried x e h2 l⟩
theorem next_le {x y : Lex} {l : List UInt8} {k : Int} {n : Nat} (h : next x l = .ok (k, n, y)) : 0 < n ∧ n ≤ l.length := by
  unfold next at h
  cases hf : find (tried x) l with
  | none => rw [hf] at h; cases h
  | some p =>
    obtain ⟨k', n'⟩ := p
    rw [hf] at h
    simp only at h
    cases ht : turn x k' (l.take n') with
    | error e => rw [ht] at h; cases h
    | ok z => rw [ht] at h; cases h; exact find_le hf
/-- Enough of it: how much is no matter. -/
theorem lex_fuel (f g : Nat) (x : Lex) (l : List UInt8) (hf : l.length ≤ f) (hg : l.length ≤ g) : lex f x l = lex g x l := by
  induction f generalizing g x l with
  | zero =>
    obtain rfl : l = [] := List.length_eq_zero_iff.1 (by omega)
    cases g <;> simp [lex]
  | succ f ih =>
    cases l with
    | nil => cases g <;> simp [lex]
    | cons b r =>
      cases g with
      | zero => simp at hg
      | succ g =>
        simp only [lex]
        cases hn : next x (b :: r) with
        | error e => rfl
        | ok p =>
          obtain ⟨k, n, y⟩ := p
          have hl := next_le hn
          simp only
          rw [ih g y _ (by rw [List.length_drop]; simp at *; omega) (by rw [List.length_drop]; simp at *; omega)]
def lexA (x : Lex) (l : List UInt8) : List Tok × Int := lex l.length x l
theorem lexA_nil (x : Lex) : lexA x [] = ([], if ended x then 0 else 13) := by simp [lexA, lex]
theorem lexA_err {x : Lex} {l : List UInt8} {e : Int} (h : next x l = .error e) (h0 : l ≠ []) : lexA x l = ([], e) := by
  cases l with
  | nil => exact absurd rfl h0
  | cons b r => simp [lexA, lex, h]
theorem lexA_ok {x y : Lex} {l : List UInt8} {k : Int} {n : Nat} (h : next x l = .ok (k, n, y)) (h0 : l ≠ []) : lexA x l = ((k, l.take n) :: (lexA y (l.drop n)).1, (lexA y (l.drop n)).2) := by
  have hl := next_le h
  cases l with
  | nil => exact absurd rfl h0
  | cons b r =>
    simp only [lexA, List.length_cons, lex, h]
    rw [lex_fuel r.length ((b :: r).drop n).length y _ (by rw [List.length_drop]; simp at *; omega) (Nat.le_refl _)]

/-- What the iterator tells: the tokens, each without an error, and then the error, if there is one. -/
abbrev Told := Tok × Int
def told (x : Lex) (l : List UInt8) : List Told := (lexA x l).1.map (fun t => (t, 0)) ++ (if (lexA x l).2 = 0 then [] else [(((0, []) : Tok), (lexA x l).2)])
theorem told_nil (x : Lex) : told x [] = if ended x then [] else [((0, []), 13)] := by
  unfold told; rw [lexA_nil]; cases ended x <;> simp
theorem told_err {x : Lex} {l : List UInt8} {e : Int} (h : next x l = .error e) (h0 : l ≠ []) (he : e ≠ 0) : told x l = [((0, []), e)] := by
  unfold told; rw [lexA_err h h0]; simp [he]
theorem told_ok {x y : Lex} {l : List UInt8} {k : Int} {n : Nat} (h : next x l = .ok (k, n, y)) (h0 : l ≠ []) : told x l = ((k, l.take n), 0) :: told y (l.drop n) := by
  unfold told; rw [lexA_ok h h0]; simp
theorem next_err_ne {x : Lex} {l : List UInt8} {e : Int} (h : next x l = .error e) : e = 11 ∨ e = 12 ∨ e = 21 := by
  unfold next at h
  cases hf : find (tried x) l with
  | none => rw [hf] at h; simp only at h; cases h; split <;> simp
  | some p =>
    obtain ⟨k', n'⟩ := p
    rw [hf] at h
    simp only at h
    cases ht : turn x k' (l.take n') with
    | error e' =>
      rw [ht] at h; cases h
      unfold turn at ht
      repeat' split at ht
      all_goals first | (cases ht; simp; done) | cases ht
    | ok z => rw [ht] at h; cases h
theorem told_length (x : Lex) (l : List UInt8) : (told x l).length ≤ l.length + 1 := by
  generalize hn : l.length = n
  induction n using Nat.strongRecOn generalizing x l with
  | ind n ih =>
    subst hn
    rcases Nat.eq_zero_or_pos l.length with h0 | h0
    · obtain rfl := List.length_eq_zero_iff.1 h0
      rw [told_nil]; split <;> simp
    · have hne : l ≠ [] := fun e => by simp [e] at h0
      cases hx : next x l with
      | error e =>
        rw [told_err hx hne (by rcases next_err_ne hx with h | h | h <;> omega)]; simp
      | ok p =>
        obtain ⟨k, n, y⟩ := p
        have hl := next_le hx
        rw [told_ok hx hne, List.length_cons]
        have := ih (l.drop n).length (by rw [List.length_drop]; omega) y (l.drop n) rfl
        rw [List.length_drop] at this
        omega
end Go.Proofs.YtmoamfcaokefiaaGreatDoor.Lx
