/-
  Plain mathematics of layer 3 (what stands at the front): no program, no model's run.
-/
import Derived.Lib.Strings
namespace Go.Proofs.YtmoamfcaokefiaaGreatDoor.Sg

def cL (n : Int) : Bool := n == 95 || (decide (97 ≤ n) && decide (n ≤ 122)) || (decide (65 ≤ n) && decide (n ≤ 90))
def cD (n : Int) : Bool := decide (48 ≤ n) && decide (n ≤ 57)
def cB (n : Int) : Bool := n == 32 || n == 9 || n == 10 || n == 13
def cW (n : Int) : Bool := cL n || cD n
def cH (n : Int) : Bool := cD n || (decide (97 ≤ n) && decide (n ≤ 102)) || (decide (65 ≤ n) && decide (n ≤ 70))

/-- How many at the front are of a class. -/
def run (p : Int → Bool) : List UInt8 → Nat
  | [] => 0
  | b :: r => if p (b.toNat : Int) then run p r + 1 else 0

/-- One of the class stands at a place. -/
def at' (p : Int → Bool) (l : List UInt8) (k : Nat) : Bool := decide (k < l.length) && p ((l.getD k 0).toNat : Int)

theorem run_le (p : Int → Bool) (l : List UInt8) : run p l ≤ l.length := by
  induction l with
  | nil => exact Nat.le_refl _
  | cons b r ih => simp only [run, List.length_cons]; split <;> omega

/-- Behind k of the class: one more, or the end. -/
theorem run_step (p : Int → Bool) (l : List UInt8) (k : Nat) : run p l = run p (l.take k) + (if run p (l.take k) = min k l.length then run p (l.drop k) else 0) := by
  induction l generalizing k with
  | nil => simp [run]
  | cons b r ih =>
    cases k with
    | zero => simp [run]
    | succ k =>
      have h := ih k
      have hl := run_le p (r.take k)
      rw [List.length_take] at hl
      simp only [List.take_succ_cons, List.drop_succ_cons, run, List.length_cons]
      split
      · rename_i hp
        rw [h]
        by_cases e : run p (r.take k) = min k r.length
        · rw [if_pos e, if_pos (by omega)]; omega
        · rw [if_neg e, if_neg (by omega)]
      · rw [if_neg (by omega)]

theorem run_take (p : Int → Bool) (l : List UInt8) (k : Nat) : run p (l.take k) = min k (run p l) := by
  induction l generalizing k with
  | nil => simp [run]
  | cons b r ih =>
    cases k with
    | zero => simp [run]
    | succ k =>
      simp only [List.take_succ_cons, run]
      split
      · rw [ih]; omega
      · simp

/-- What stands at the front of r is not of the class. -/
def stop (p : Int → Bool) (r : List UInt8) : Prop := ∀ b, r.head? = some b → p (b.toNat : Int) = false
theorem stop_nil (p : Int → Bool) : stop p [] := by simp [stop]
theorem stop_cons {p : Int → Bool} {b : UInt8} (h : p (b.toNat : Int) = false) (r : List UInt8) : stop p (b :: r) := by simp [stop, h]
theorem run_stop {p : Int → Bool} {r : List UInt8} (h : stop p r) : run p r = 0 := by
  cases r with
  | nil => rfl
  | cons b r => simp only [run]; rw [h b rfl]; rfl
theorem run_all {p : Int → Bool} {l : List UInt8} (h : run p l = l.length) (r : List UInt8) : run p (l ++ r) = l.length + run p r := by
  induction l with
  | nil => simp
  | cons b t ih =>
    simp only [run, List.length_cons, List.cons_append] at h ⊢
    split at h
    · rename_i hp
      rw [if_pos hp, ih (by omega)]; omega
    · omega
theorem run_full (p : Int → Bool) (l : List UInt8) : run p (l.take (run p l)) = (l.take (run p l)).length := by
  rw [run_take, List.length_take]; have := run_le p l; omega
/-- Cut where it ends, and followed by what is not of it, it is the same. -/
theorem run_cut {p : Int → Bool} {l r : List UInt8} (h : stop p r) : run p (l.take (run p l) ++ r) = run p l := by
  rw [run_all (run_full p l), run_stop h, List.length_take]; have := run_le p l; omega
theorem run_drop_stop (p : Int → Bool) (l : List UInt8) : stop p (l.drop (run p l)) := by
  induction l with
  | nil => exact stop_nil p
  | cons b r ih =>
    simp only [run]
    split
    · exact ih
    · rename_i h; exact stop_cons (by simpa using h) r
/-- If k are of the class, and the next one is not, it is k. -/
theorem run_eq {p : Int → Bool} {l : List UInt8} {k : Nat} (h : run p (l.take k) = k) (hs : stop p (l.drop k)) : run p l = k := by
  have := run_step p l k
  rw [h, run_stop hs] at this
  split at this <;> omega
theorem run_snoc {p : Int → Bool} {l : List UInt8} {k : Nat} (hk : k < l.length) (h : run p (l.take k) = k) (hp : p ((l.getD k 0).toNat : Int) = true) : run p (l.take (k + 1)) = k + 1 := by
  rw [List.take_succ_eq_append_getElem hk]
  have hl : (l.take k).length = k := by rw [List.length_take]; omega
  rw [run_all (by rw [h, hl]), hl]
  have e : l.getD k 0 = l[k] := by simp [List.getD, hk]
  rw [e] at hp
  simp [run, hp]
theorem drop_head {l : List UInt8} {k : Nat} (hk : k < l.length) : l.drop k = l.getD k 0 :: l.drop (k + 1) := by
  have e : l.getD k 0 = l[k] := by simp [List.getD, hk]
  rw [e]; exact List.drop_eq_getElem_cons hk

/-- A simple name. -/
def simple (l : List UInt8) : Nat := if at' cL l 0 then run cW l else 0
/-- Two colons, and a simple name. -/
def further (l : List UInt8) : Nat := if Lib.hasPrefix l [58, 58] then (if simple (l.drop 2) = 0 then 0 else 2 + simple (l.drop 2)) else 0
def tail : Nat → List UInt8 → Nat
  | 0, _ => 0
  | f + 1, l => if further l = 0 then 0 else further l + tail f (l.drop (further l))
def word (l : List UInt8) : Nat := if simple l = 0 then 0 else simple l + tail l.length (l.drop (simple l))

def decimal (l : List UInt8) : Nat :=
  if at' (· == 46) l (run cD l) then
    (if run cD l + run cD (l.drop (run cD l + 1)) = 0 then 0 else run cD l + 1 + run cD (l.drop (run cD l + 1)))
  else run cD l
def signs (l : List UInt8) : Nat := if at' (fun n => n == 43 || n == 45) l 1 then 2 else 1
def exponent (l : List UInt8) : Nat :=
  if at' (fun n => n == 101 || n == 69) l 0 then (if run cD (l.drop (signs l)) = 0 then 0 else signs l + run cD (l.drop (signs l))) else 0
def number (l : List UInt8) : Nat := if decimal l = 0 then 0 else decimal l + exponent (l.drop (decimal l))

def opers : List (List UInt8) := [[63, 47, 47], [47, 47, 61], [33, 61], [61, 61], [60, 61], [62, 61], [124, 61], [43, 61], [45, 61], [42, 61], [47, 61], [37, 61], [47, 47], [46, 46],
  [46], [91], [93], [40], [41], [123], [125], [44], [58], [59], [61], [124], [43], [45], [42], [47], [37], [60], [62], [63]]
def oper (l : List UInt8) : Nat := match opers.find? (fun o => Lib.hasPrefix l o) with
  | some o => o.length
  | none => 0

def cE (n : Int) : Bool := n == 34 || n == 92 || n == 47 || n == 98 || n == 102 || n == 110 || n == 114 || n == 116
def escape (l : List UInt8) : Nat := if at' (· == 92) l 0 then (if at' cE l 1 then 2 else if at' (· == 117) l 1 && decide (4 ≤ run cH (l.drop 2)) then 6 else 0) else 0

def keys : List (List UInt8) := [[97, 110, 100], [97, 115], [98, 114, 101, 97, 107], [99, 97, 116, 99, 104], [100, 101, 102], [101, 108, 105, 102], [101, 108, 115, 101], [101, 110, 100], [102, 111, 114, 101, 97, 99, 104], [105, 102], [105, 109, 112, 111, 114, 116], [105, 110, 99, 108, 117, 100, 101], [108, 97, 98, 101, 108], [109, 111, 100, 117, 108, 101], [111, 114], [114, 101, 100, 117, 99, 101], [116, 104, 101, 110], [116, 114, 121]]
def key (l : List UInt8) : Bool := keys.contains l
def plain (l : List UInt8) : Bool := !l.isEmpty && decide (simple l = l.length) && !key l

theorem simple_le (l : List UInt8) : simple l ≤ l.length := by unfold simple; split; exact run_le _ _; exact Nat.zero_le _
theorem further_le (l : List UInt8) : further l ≤ l.length := by
  unfold further
  split
  · rename_i h
    have := simple_le (l.drop 2)
    rw [List.length_drop] at this
    split
    · exact Nat.zero_le _
    · omega
  · exact Nat.zero_le _
theorem tail_le (f : Nat) (l : List UInt8) : tail f l ≤ l.length := by
  induction f generalizing l with
  | zero => exact Nat.zero_le _
  | succ f ih =>
    simp only [tail]
    have h := further_le l
    have := ih (l.drop (further l))
    rw [List.length_drop] at this
    split <;> omega
/-- With enough of it, how much is no matter. -/
theorem tail_fuel (f g : Nat) (l : List UInt8) (hf : l.length ≤ f) (hg : l.length ≤ g) : tail f l = tail g l := by
  induction f generalizing l g with
  | zero =>
    have : l = [] := List.length_eq_zero_iff.1 (by omega)
    subst this
    cases g with
    | zero => rfl
    | succ g => simp [tail, further, Lib.hasPrefix, List.isPrefixOf]
  | succ f ih =>
    cases g with
    | zero =>
      have : l = [] := List.length_eq_zero_iff.1 (by omega)
      subst this
      simp [tail, further, Lib.hasPrefix, List.isPrefixOf]
    | succ g =>
      simp only [tail]
      have h := further_le l
      split
      · rfl
      · rename_i hn
        rw [ih g _ (by rw [List.length_drop]; omega) (by rw [List.length_drop]; omega)]
theorem word_le (l : List UInt8) : word l ≤ l.length := by
  unfold word
  have h := simple_le l
  have := tail_le l.length (l.drop (simple l))
  rw [List.length_drop] at this
  split <;> omega
theorem decimal_le (l : List UInt8) : decimal l ≤ l.length := by
  unfold decimal at'
  have h := run_le cD l
  have h2 := run_le cD (l.drop (run cD l + 1))
  rw [List.length_drop] at h2
  split
  · rename_i hp
    rw [Bool.and_eq_true, decide_eq_true_eq] at hp
    split <;> omega
  · exact h
theorem signs_le (l : List UInt8) (h : at' (fun n => n == 101 || n == 69) l 0 = true) : signs l ≤ l.length := by
  unfold signs
  unfold at' at h ⊢
  rw [Bool.and_eq_true, decide_eq_true_eq] at h
  split
  · rename_i hp; rw [Bool.and_eq_true, decide_eq_true_eq] at hp; omega
  · omega
theorem exponent_le (l : List UInt8) : exponent l ≤ l.length := by
  unfold exponent
  split
  · rename_i h
    have h1 := signs_le l h
    have h2 := run_le cD (l.drop (signs l))
    rw [List.length_drop] at h2
    split <;> omega
  · exact Nat.zero_le _
theorem number_le (l : List UInt8) : number l ≤ l.length := by
  unfold number
  have h := decimal_le l
  have h2 := exponent_le (l.drop (decimal l))
  rw [List.length_drop] at h2
  split <;> omega
theorem pre_length {l o : List UInt8} (h : Lib.hasPrefix l o = true) : o.length ≤ l.length := by
  unfold Lib.hasPrefix at h
  exact (List.isPrefixOf_iff_prefix.1 h).length_le
theorem oper_le (l : List UInt8) : oper l ≤ l.length := by
  unfold oper
  cases h : opers.find? (fun o => Lib.hasPrefix l o) with
  | none => exact Nat.zero_le _
  | some o => exact pre_length (List.find?_some h)
theorem escape_le (l : List UInt8) : escape l ≤ l.length := by
  unfold escape
  have h2 := run_le cH (l.drop 2)
  rw [List.length_drop] at h2
  split
  · split
    · rename_i hp; unfold at' at hp; rw [Bool.and_eq_true, decide_eq_true_eq] at hp; omega
    · split
      · rename_i hp; rw [Bool.and_eq_true, decide_eq_true_eq] at hp; omega
      · omega
  · omega

theorem at_lt {p : Int → Bool} {l : List UInt8} {k : Nat} (h : at' p l k = true) : k < l.length := by
  unfold at' at h; rw [Bool.and_eq_true, decide_eq_true_eq] at h; exact h.1
theorem LW0 (n : Int) (h : cL n = true) : cW n = true := by simp [cW, h]

end Go.Proofs.YtmoamfcaokefiaaGreatDoor.Sg
