/-
  Edits as plain data: what Right, Apply, Back, Shift and Diff are, by the chapter. No program.
-/
import Derived.IntWalk
namespace Go.Proofs.Ytepniobmhplphaa.ed
open Go.RowKit

structure Ed where
  f : Int
  t : Int
  x : ByteArray

abbrev wr (z : Int) : Int := wrap64 z
def grow (e : Ed) : Int := wr ((e.x.size : Int) - wr (e.t - e.f))
def placed : Int → List Ed → List (Int × Ed)
  | _, [] => []
  | m, e :: r => (wr (e.f + m), e) :: placed (wr (m + grow e)) r
def more : Int → List Ed → Int
  | m, [] => m
  | m, e :: r => more (wr (m + grow e)) r

theorem placed_snd : ∀ (m : Int) (l : List Ed), (placed m l).map (·.2) = l
  | _, [] => rfl
  | m, e :: r => by simp [placed, placed_snd _ r]
theorem placed_length (m : Int) (l : List Ed) : (placed m l).length = l.length := by
  have := congrArg List.length (placed_snd m l); simpa using this
theorem placed_append : ∀ (m : Int) (a b : List Ed), placed m (a ++ b) = placed m a ++ placed (more m a) b
  | _, [], _ => rfl
  | m, e :: r, b => by simp [placed, more, placed_append _ r b]
theorem more_append : ∀ (m : Int) (a b : List Ed), more m (a ++ b) = more (more m a) b
  | _, [], _ => rfl
  | m, e :: r, b => by simp [more, more_append _ r b]
theorem placed_pre {m : Int} {l : List Ed} {p : List (Int × Ed)} (h : p <+: placed m l) : p.map (·.2) <+: l := by
  have := h.map (·.2); rwa [placed_snd] at this
theorem placed_of_pre {m : Int} {l : List Ed} {p : List (Int × Ed)} (h : p <+: placed m l) : p = placed m (p.map (·.2)) := by
  obtain ⟨r, hr⟩ := h
  have h1 : l = p.map (·.2) ++ r.map (·.2) := by rw [← placed_snd m l, ← hr, List.map_append]
  rw [h1, placed_append] at hr
  exact (List.append_inj hr (by rw [placed_length, List.length_map])).1

/-- An edit behind f, t may not be made. -/
def bad (f t n : Int) (e : Ed) : Bool := decide (e.f < t) || decide (e.f ≤ f) || decide (e.t < e.f) || decide (n < e.t)
def rightG : Int → Int → Int → List Ed → Bool
  | _, _, _, [] => true
  | f, t, n, e :: r => !bad f t n e && rightG e.f e.t n r
def lastF : Int → List Ed → Int
  | f, [] => f
  | _, e :: r => lastF e.f r
def lastT : Int → List Ed → Int
  | t, [] => t
  | _, e :: r => lastT e.t r
theorem rightG_append : ∀ (f t n : Int) (a b : List Ed), rightG f t n (a ++ b) = (rightG f t n a && rightG (lastF f a) (lastT t a) n b)
  | _, _, _, [], _ => by simp [rightG, lastF, lastT]
  | f, t, n, e :: r, b => by simp [rightG, lastF, lastT, rightG_append _ _ _ r b, Bool.and_assoc]
theorem lastF_snoc : ∀ (f : Int) (a : List Ed) (e : Ed), lastF f (a ++ [e]) = e.f
  | _, [], _ => rfl
  | _, _ :: r, e => by simp [lastF, lastF_snoc _ r e]
theorem lastT_snoc : ∀ (f : Int) (a : List Ed) (e : Ed), lastT f (a ++ [e]) = e.t
  | _, [], _ => rfl
  | _, _ :: r, e => by simp [lastT, lastT_snoc _ r e]
def rightF (l : List Ed) (n : Int) : Bool := decide (l.length ≤ 1000) && rightG (-1) 0 n l

theorem rightG_pre {f t n : Int} {p l : List Ed} (h : p <+: l) (hp : rightG f t n p = false) : rightG f t n l = false := by
  obtain ⟨r, rfl⟩ := h; rw [rightG_append, hp]; rfl

/-- What stands at s from a up to b. -/
def piece (s : ByteArray) (a b : Int) : ByteArray := s.extract a.toNat b.toNat
def madeL (s : ByteArray) : Int → List Ed → List UInt8
  | _, [] => []
  | at', e :: r => (piece s at' e.f).data.toList ++ (e.x.data.toList ++ madeL s e.t r)
def madeAll (s : ByteArray) (l : List Ed) : List UInt8 := madeL s 0 l ++ (piece s (lastT 0 l) s.size).data.toList
def applyR (s : ByteArray) (l : List Ed) : ByteArray × Int := if rightF l s.size = true then (⟨(madeAll s l).toArray⟩, 0) else (⟨#[]⟩, 1)
def sumX : List Ed → Nat
  | [] => 0
  | e :: r => e.x.size + sumX r
theorem sumX_append : ∀ a b, sumX (a ++ b) = sumX a + sumX b
  | [], _ => by simp [sumX]
  | e :: r, b => by simp [sumX, sumX_append r b, Nat.add_assoc]
theorem madeL_snoc (s : ByteArray) : ∀ (at' : Int) (a : List Ed) (e : Ed), madeL s at' (a ++ [e]) = madeL s at' a ++ (piece s (lastT at' a) e.f).data.toList ++ e.x.data.toList
  | _, [], _ => by simp [madeL, lastT]
  | at', _ :: r, e => by simp [madeL, lastT, madeL_snoc s _ r e, List.append_assoc]
theorem size_toList (s : ByteArray) : s.data.toList.length = s.size := by rw [Array.length_toList]; rfl
theorem piece_size (s : ByteArray) (a b : Int) : (piece s a b).size = min b.toNat s.size - a.toNat := by unfold piece; rw [ByteArray.size_extract]
theorem madeL_len (s : ByteArray) : ∀ (f t n : Int) (l : List Ed), rightG f t n l = true → 0 ≤ t → ((madeL s t l).length : Int) + t ≤ lastT t l + sumX l
  | _, t, _, [], _, _ => by simp [madeL, lastT, sumX]
  | f, t, n, e :: r, h, h0 => by
    simp only [rightG, bad, Bool.and_eq_true, Bool.not_eq_true', Bool.or_eq_false_iff, decide_eq_false_iff_not] at h
    have ih := madeL_len s e.f e.t n r h.2 (by omega)
    have hp := piece_size s t e.f
    simp only [madeL, lastT, sumX, List.length_append, size_toList]
    omega
theorem right_bd : ∀ (f t n : Int) (l : List Ed), rightG f t n l = true → 0 ≤ t → t ≤ n → t ≤ lastT t l ∧ lastT t l ≤ n
  | _, t, _, [], _, _, _ => by simp [lastT]; assumption
  | f, t, n, e :: r, h, h0, hn => by
    simp only [rightG, bad, Bool.and_eq_true, Bool.not_eq_true', Bool.or_eq_false_iff, decide_eq_false_iff_not] at h
    have ih := right_bd e.f e.t n r h.2 (by omega) (by omega)
    simp only [lastT]
    omega
/-- Of a list that may be made: what is known of the edit behind some. -/
theorem right_next {n : Int} {l pre : List Ed} {e : Ed} {rest : List Ed} (h : rightG (-1) 0 n l = true) (hn : 0 ≤ n) (hl : l = pre ++ e :: rest) :
    rightG (-1) 0 n pre = true ∧ 0 ≤ lastT 0 pre ∧ lastT 0 pre ≤ e.f ∧ e.f ≤ e.t ∧ e.t ≤ n ∧ lastF (-1) pre < e.f := by
  rw [hl, rightG_append, Bool.and_eq_true] at h
  have hb := right_bd (-1) 0 n pre h.1 (by omega) hn
  have h2 := h.2
  simp only [rightG, bad, Bool.and_eq_true, Bool.not_eq_true', Bool.or_eq_false_iff, decide_eq_false_iff_not] at h2
  exact ⟨h.1, hb.1, by omega, by omega, by omega, by omega⟩

/-- An edit's value; what the iterator hands over. -/
abbrev edV (e : Ed) : Value := .agg #[.int .i64 e.f, .int .i64 e.t, .string e.x]
abbrev encP (x : Int × Ed) : Array Value := #[.int .i64 x.1, edV x.2]

/-- A slice of edits that lies in a block below n. -/
def EdsAt (n : Nat) (W : World) (v : Value) (l : List Ed) : Prop :=
  ∃ ao cap, v = .slice ao l.length cap ∧ l.length ≤ maxLen ∧ ∀ (i : Nat) (e : Ed), l[i]? = some e → ∃ g o, ao = some ⟨g, o, none⟩ ∧ g < n ∧
    W.cell? ⟨g, o + i * 3, none⟩ = some (.int .i64 e.f) ∧ W.cell? ⟨g, o + i * 3 + 1, none⟩ = some (.int .i64 e.t) ∧ W.cell? ⟨g, o + i * 3 + 2, none⟩ = some (.string e.x)

end Go.Proofs.Ytepniobmhplphaa.ed
