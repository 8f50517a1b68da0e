/-
  Plain mathematics of runes: which bytes begin one, that a rune is known by its own bytes, and what follows for Check and Wide. No walk of a program.
-/
import Derived.Lib.TrimUEq
import Derived.Test.YtmoamfcaokefiaaGreatDoorUtfRune
namespace Go.Proofs.YtmoamfcaokefiaaGreatDoor.utf
set_option linter.unusedVariables false

/-- How many bytes the rune at the front has; 0: there is none. -/
def oneN (n b0 b1 b2 b3 : Nat) : Nat :=
  if b0 < 128 then 1
  else if b0 / 32 = 6 ∧ (1 < n ∧ b1 / 64 = 2) then (if b0 % 32 * 64 + b1 % 64 ≥ 128 then 2 else 0)
  else if b0 / 16 = 14 ∧ (1 < n ∧ b1 / 64 = 2) ∧ (2 < n ∧ b2 / 64 = 2) then
    (if b0 % 16 * 4096 + b1 % 64 * 64 + b2 % 64 ≥ 2048 ∧ (b0 % 16 * 4096 + b1 % 64 * 64 + b2 % 64 < 55296 ∨ 57344 ≤ b0 % 16 * 4096 + b1 % 64 * 64 + b2 % 64) then 3 else 0)
  else if b0 / 8 = 30 ∧ (1 < n ∧ b1 / 64 = 2) ∧ (2 < n ∧ b2 / 64 = 2) ∧ (3 < n ∧ b3 / 64 = 2) then
    (if b0 % 8 * 262144 + b1 % 64 * 4096 + b2 % 64 * 64 + b3 % 64 ≥ 65536 ∧ b0 % 8 * 262144 + b1 % 64 * 4096 + b2 % 64 * 64 + b3 % 64 ≤ 1114111 then 4 else 0)
  else 0

theorem oneN_le (n b0 b1 b2 b3 : Nat) (hn : 1 ≤ n) : oneN n b0 b1 b2 b3 ≤ n ∧ oneN n b0 b1 b2 b3 ≤ 4 := by
  unfold oneN
  repeat' split
  all_goals omega

theorem oneN_local (n n' b0 b1 b2 b3 c1 c2 c3 w : Nat) (h : oneN n b0 b1 b2 b3 = w) (hw : w ≠ 0) (h1 : 1 < w → c1 = b1) (h2 : 2 < w → c2 = b2) (h3 : 3 < w → c3 = b3) (hn : w ≤ n') : oneN n' b0 c1 c2 c3 = w := by
  unfold oneN at h
  split at h
  · rw [← h]; unfold oneN; rw [if_pos (by assumption)]
  · split at h
    · split at h
      · have e1 := h1 (by omega)
        subst e1
        unfold oneN
        rw [if_neg (by assumption), if_pos (by omega), if_pos (by assumption), h]
      · omega
    · split at h
      · split at h
        · have e1 := h1 (by omega)
          have e2 := h2 (by omega)
          subst e1 e2
          unfold oneN
          rw [if_neg (by assumption), if_neg (by omega), if_pos (by omega), if_pos (by assumption), h]
        · omega
      · split at h
        · split at h
          · have e1 := h1 (by omega)
            have e2 := h2 (by omega)
            have e3 := h3 (by omega)
            subst e1 e2 e3
            unfold oneN
            rw [if_neg (by assumption), if_neg (by omega), if_neg (by omega), if_pos (by omega), if_pos (by assumption), h]
          · omega
        · omega

set_option maxRecDepth 100000 in
set_option maxHeartbeats 4000000 in
theorem decodeN_one (n b0 b1 b2 b3 : Nat) (h0 : b0 < 256) (h1 : b1 < 256) (h2 : b2 < 256) (h3 : b3 < 256) (hn : 1 ≤ n) :
    (oneN n b0 b1 b2 b3 = 0 → Lib.decodeN n b0 b1 b2 b3 = (65533, 1) ∧ ¬ (3 ≤ n ∧ b0 = 239 ∧ b1 = 191 ∧ b2 = 189)) ∧
    (oneN n b0 b1 b2 b3 ≠ 0 → (Lib.decodeN n b0 b1 b2 b3).2 = oneN n b0 b1 b2 b3 ∧ ((Lib.decodeN n b0 b1 b2 b3).1 = 65533 → 3 ≤ n ∧ b0 = 239 ∧ b1 = 191 ∧ b2 = 189)) := by
  unfold oneN Lib.decodeN
  repeat' split
  all_goals first | (exfalso; omega) | (refine ⟨fun h => ?_, fun h => ?_⟩ <;> first | (exfalso; omega) | exact absurd h (by decide) | exact absurd rfl h | exact ⟨rfl, by omega⟩ | exact ⟨rfl, fun e => by simp at e; omega⟩ | exact ⟨rfl, fun e => by simp at e⟩)

def oneL (l : List UInt8) : Nat := if l = [] then 0 else oneN l.length (l.getD 0 0).toNat (l.getD 1 0).toNat (l.getD 2 0).toNat (l.getD 3 0).toNat

theorem pref_iff (l : List UInt8) : Lib.hasPrefix l [239, 191, 189] = true ↔ 3 ≤ l.length ∧ (l.getD 0 0).toNat = 239 ∧ (l.getD 1 0).toNat = 191 ∧ (l.getD 2 0).toNat = 189 := by
  have e : ∀ (a : UInt8) (k : Nat) (h : k < 256), a = UInt8.ofNat k ↔ a.toNat = k := fun a k h => by
    constructor
    · rintro rfl; simp [Nat.mod_eq_of_lt h]
    · intro h'; apply UInt8.toNat_inj.1; simp [h', Nat.mod_eq_of_lt h]
  have e0 : ∀ a : UInt8, a = 239 ↔ a.toNat = 239 := fun a => e a 239 (by decide)
  have e1 : ∀ a : UInt8, a = 191 ↔ a.toNat = 191 := fun a => e a 191 (by decide)
  have e2 : ∀ a : UInt8, a = 189 ↔ a.toNat = 189 := fun a => e a 189 (by decide)
  unfold Lib.hasPrefix
  match l with
  | [] => simp
  | [a] => simp
  | [a, b] => simp
  | a :: b :: c :: r =>
    simp [List.isPrefixOf, List.getD, ← e0, ← e1, ← e2]
    constructor
    · rintro ⟨rfl, rfl, rfl⟩; simp
    · rintro ⟨h1, h2, h3⟩; exact ⟨h1.symm, h2.symm, h3.symm⟩

theorem lt256 (a : UInt8) : a.toNat < 256 := a.toNat_lt

/-- What runeBad and the width come to. -/
theorem bad_one (s : ByteArray) (pos : Nat) (h : pos < s.size) :
    runeBad s pos = (oneL (s.data.toList.drop pos) == 0) ∧ (Utf8.decode s pos).2 = (if oneL (s.data.toList.drop pos) = 0 then 1 else oneL (s.data.toList.drop pos)) := by
  have hne : s.data.toList.drop pos ≠ [] := by
    intro e
    have := congrArg List.length e
    rw [List.length_drop, size_toList] at this
    simp at this; omega
  have hlen : 1 ≤ (s.data.toList.drop pos).length := by rw [List.length_drop, size_toList]; omega
  have hd := Lib.decodeL_drop s pos
  have hN := Lib.decodeL_N (s.data.toList.drop pos)
  have hp := pref_iff (s.data.toList.drop pos)
  unfold runeBad oneL
  rw [if_neg hne, ← hd, hN]
  generalize s.data.toList.drop pos = l at *
  obtain ⟨k1, k2⟩ := decodeN_one l.length (l.getD 0 0).toNat (l.getD 1 0).toNat (l.getD 2 0).toNat (l.getD 3 0).toNat (lt256 _) (lt256 _) (lt256 _) (lt256 _) hlen
  by_cases h0 : oneN l.length (l.getD 0 0).toNat (l.getD 1 0).toNat (l.getD 2 0).toNat (l.getD 3 0).toNat = 0
  · obtain ⟨e1, e2⟩ := k1 h0
    have hpf : Lib.hasPrefix l [239, 191, 189] = false := by
      cases hq : Lib.hasPrefix l [239, 191, 189] with
      | false => rfl
      | true => exact absurd (hp.1 hq) e2
    rw [e1, h0, hpf]
    simp
  · obtain ⟨e1, e2⟩ := k2 h0
    rw [if_neg h0, e1]
    refine ⟨?_, rfl⟩
    by_cases hv : (Lib.decodeN l.length (l.getD 0 0).toNat (l.getD 1 0).toNat (l.getD 2 0).toNat (l.getD 3 0).toNat).1 = 65533
    · rw [hp.2 (e2 hv), beq_eq_false_iff_ne.2 h0]
      simp
    · rw [beq_eq_false_iff_ne.2 h0, beq_eq_false_iff_ne.2 hv]
      rfl

theorem oneL_le (l : List UInt8) (h : l ≠ []) : oneL l ≤ l.length := by
  unfold oneL
  rw [if_neg h]
  exact (oneN_le _ _ _ _ _ (by cases l with | nil => exact absurd rfl h | cons a r => simp)).1

theorem getD_app (p m : List UInt8) (i : Nat) (h : i < p.length) : (p ++ m).getD i 0 = p.getD i 0 := by simp [List.getD, List.getElem?_append_left h]
theorem getD_take' (l : List UInt8) (w i : Nat) (h : i < w) : (l.take w).getD i 0 = l.getD i 0 := by simp [List.getD, h]

/-- A rune is known by its own bytes. -/
theorem oneL_local (l m : List UInt8) (h : oneL l ≠ 0) : oneL (l.take (oneL l) ++ m) = oneL l := by
  have hne : l ≠ [] := fun e => h (by simp [oneL, e])
  have hle := oneL_le l hne
  obtain ⟨w, hw⟩ : ∃ w, oneL l = w := ⟨_, rfl⟩
  rw [hw] at h hle ⊢
  have hlt : (l.take w).length = w := by rw [List.length_take]; omega
  have hne2 : l.take w ++ m ≠ [] := fun e => by
    have := congrArg List.length e
    rw [List.length_append, hlt] at this
    simp at this; omega
  unfold oneL at hw ⊢
  rw [if_neg hne] at hw
  rw [if_neg hne2]
  have g : ∀ i, i < w → (l.take w ++ m).getD i 0 = l.getD i 0 := fun i hi => by rw [getD_app _ _ _ (by omega), getD_take' _ _ _ hi]
  rw [g 0 (by omega)]
  refine oneN_local _ _ _ _ _ _ _ _ _ w hw h (fun h1 => by rw [g 1 h1]) (fun h2 => by rw [g 2 h2]) (fun h3 => by rw [g 3 h3]) ?_
  rw [List.length_append, hlt]; omega

/-- Check over a list. -/
def chkL : Nat → List UInt8 → Nat → Int
  | 0, _, _ => -1
  | b + 1, l, pos => if l = [] then -1 else if oneL l = 0 then (pos : Int) else chkL b (l.drop (oneL l)) (pos + oneL l)
def wideL : Nat → List UInt8 → Nat
  | 0, _ => 0
  | b + 1, l => if l = [] then 0 else wideL b (l.drop (if oneL l = 0 then 1 else oneL l)) + 1

theorem drop_ne (s : ByteArray) (pos : Nat) : (s.data.toList.drop pos = []) ↔ ¬ pos < s.size := by
  rw [List.drop_eq_nil_iff, size_toList]; omega

theorem checkFrom_L (s : ByteArray) : ∀ b pos, checkFrom s b pos = chkL b (s.data.toList.drop pos) pos := by
  intro b
  induction b with
  | zero => intro pos; rfl
  | succ b ih =>
    intro pos
    simp only [checkFrom, chkL]
    by_cases h : pos < s.size
    · have hne : s.data.toList.drop pos ≠ [] := fun e => (drop_ne s pos).1 e h
      obtain ⟨h1, h2⟩ := bad_one s pos h
      rw [if_pos h, if_neg hne, h1, h2, ih]
      by_cases h0 : oneL (s.data.toList.drop pos) = 0
      · simp [h0]
      · simp [h0, List.drop_drop]
    · rw [if_neg h, if_pos ((drop_ne s pos).2 h)]
theorem wideFrom_L (s : ByteArray) : ∀ b pos, wideFrom s b pos = wideL b (s.data.toList.drop pos) := by
  intro b
  induction b with
  | zero => intro pos; rfl
  | succ b ih =>
    intro pos
    simp only [wideFrom, wideL]
    by_cases h : pos < s.size
    · have hne : s.data.toList.drop pos ≠ [] := fun e => (drop_ne s pos).1 e h
      obtain ⟨h1, h2⟩ := bad_one s pos h
      rw [if_pos h, if_neg hne, h2, ih, List.drop_drop]
    · rw [if_neg h, if_pos ((drop_ne s pos).2 h)]
theorem checkF_L (s : ByteArray) : checkF s = chkL s.data.toList.length s.data.toList 0 := by rw [checkF, checkFrom_L, size_toList]; rfl
theorem wideF_L (s : ByteArray) : wideF s = wideL s.data.toList.length s.data.toList := by rw [wideF, wideFrom_L, size_toList]; rfl

theorem chkL_fuel : ∀ (b b' : Nat) (l : List UInt8) (pos : Nat), l.length ≤ b → l.length ≤ b' → chkL b l pos = chkL b' l pos := by
  intro b
  induction b with
  | zero =>
    intro b' l pos h _
    have : l = [] := by simpa using h
    subst this
    cases b' <;> simp [chkL]
  | succ b ih =>
    intro b' l pos h h'
    cases b' with
    | zero =>
      have : l = [] := by simpa using h'
      subst this
      simp [chkL]
    | succ b' =>
      simp only [chkL]
      split
      · rfl
      · rename_i hne
        split
        · rfl
        · rename_i h0
          have := oneL_le l hne
          exact ih b' _ _ (by rw [List.length_drop]; omega) (by rw [List.length_drop]; omega)
theorem wideL_fuel : ∀ (b b' : Nat) (l : List UInt8), l.length ≤ b → l.length ≤ b' → wideL b l = wideL b' l := by
  intro b
  induction b with
  | zero =>
    intro b' l h _
    have : l = [] := by simpa using h
    subst this
    cases b' <;> simp [wideL]
  | succ b ih =>
    intro b' l h h'
    cases b' with
    | zero =>
      have : l = [] := by simpa using h'
      subst this
      simp [wideL]
    | succ b' =>
      simp only [wideL]
      split
      · rfl
      · rename_i hne
        have hl : 1 ≤ l.length := by cases l with | nil => exact absurd rfl hne | cons a r => simp
        rw [ih b' _ (by rw [List.length_drop]; split <;> omega) (by rw [List.length_drop]; split <;> omega)]

theorem chkL_nil (b pos : Nat) : chkL b [] pos = -1 := by cases b <;> simp [chkL]
theorem drop_take_app (l m : List UInt8) (w : Nat) (h : w ≤ l.length) : (l ++ m).drop w = l.drop w ++ m := by rw [List.drop_append_of_le_length h]

/-- What is told is the first place: ahead of it all is told, and none goes on there. -/
theorem chk_first : ∀ (b : Nat) (l : List UInt8) (pos : Nat), l.length ≤ b →
    chkL b l pos = -1 ∨ ∃ k, k < l.length ∧ chkL b l pos = ((pos + k : Nat) : Int) ∧ (∀ b' p', k ≤ b' → chkL b' (l.take k) p' = -1) ∧ (∀ b' p', chkL (b' + 1) (l.drop k) p' = (p' : Int)) := by
  intro b
  induction b with
  | zero => intro l pos h; exact .inl rfl
  | succ b ih =>
    intro l pos h
    by_cases hne : l = []
    · exact .inl (by rw [hne, chkL_nil])
    · have hle := oneL_le l hne
      have hl : 1 ≤ l.length := by cases l with | nil => exact absurd rfl hne | cons a r => simp
      by_cases h0 : oneL l = 0
      · refine .inr ⟨0, by omega, by simp [chkL, hne, h0], fun b' p' _ => by rw [List.take_zero, chkL_nil], fun b' p' => by simp [chkL, hne, h0]⟩
      · have e : chkL (b + 1) l pos = chkL b (l.drop (oneL l)) (pos + oneL l) := by simp [chkL, hne, h0]
        rcases ih (l.drop (oneL l)) (pos + oneL l) (by rw [List.length_drop]; omega) with h1 | ⟨k, hk, h1, h2, h3⟩
        · exact .inl (by rw [e, h1])
        · rw [List.length_drop] at hk
          refine .inr ⟨oneL l + k, by omega, by rw [e, h1]; congr 1; omega, fun b' p' hb => ?_, fun b' p' => ?_⟩
          · have ht : l.take (oneL l + k) = l.take (oneL l) ++ (l.drop (oneL l)).take k := List.take_add
            have ho : oneL (l.take (oneL l + k)) = oneL l := by rw [ht]; exact oneL_local l _ h0
            have hne2 : l.take (oneL l + k) ≠ [] := fun e' => by
              have := congrArg List.length e'
              rw [List.length_take, List.length_nil] at this
              omega
            obtain ⟨b'', rfl⟩ : ∃ b'', b' = b'' + 1 := ⟨b' - 1, by omega⟩
            have hd : (l.take (oneL l + k)).drop (oneL l) = (l.drop (oneL l)).take k := by
              rw [ht, List.drop_append_of_le_length (by rw [List.length_take]; omega)]
              simp
            simp only [chkL]
            rw [if_neg hne2, ho, if_neg h0, hd]
            exact h2 b'' _ (by omega)
          · have := h3 b' p'
            rwa [List.drop_drop] at this

/-- A text that is told goes on with another one. -/
theorem chk_join : ∀ (b : Nat) (l m : List UInt8) (pos b1 b2 : Nat), l.length ≤ b → chkL b l pos = -1 → l.length + m.length ≤ b1 → m.length ≤ b2 →
    chkL b1 (l ++ m) pos = chkL b2 m (pos + l.length) ∧ wideL b1 (l ++ m) = wideL b l + wideL b2 m := by
  intro b
  induction b with
  | zero =>
    intro l m pos b1 b2 h _ hb1 hb2
    have : l = [] := by simpa using h
    subst this
    simp only [List.nil_append, List.length_nil, Nat.add_zero] at *
    exact ⟨chkL_fuel _ _ _ _ (by omega) hb2, by rw [wideL_fuel b1 b2 m (by omega) hb2]; simp [wideL]⟩
  | succ b ih =>
    intro l m pos b1 b2 h hc hb1 hb2
    by_cases hne : l = []
    · subst hne
      simp only [List.nil_append, List.length_nil, Nat.add_zero] at *
      exact ⟨chkL_fuel _ _ _ _ (by omega) hb2, by rw [wideL_fuel b1 b2 m (by omega) hb2]; simp [wideL]⟩
    · have hle := oneL_le l hne
      have hl : 1 ≤ l.length := by cases l with | nil => exact absurd rfl hne | cons a r => simp
      have h0 : oneL l ≠ 0 := fun e => by simp [chkL, hne, e] at hc
      have e : chkL (b + 1) l pos = chkL b (l.drop (oneL l)) (pos + oneL l) := by simp [chkL, hne, h0]
      rw [e] at hc
      obtain ⟨b1', rfl⟩ : ∃ b', b1 = b' + 1 := ⟨b1 - 1, by omega⟩
      have ho : oneL (l ++ m) = oneL l := by
        have := oneL_local l (l.drop (oneL l) ++ m) h0
        rwa [← List.append_assoc, List.take_append_drop] at this
      have hne2 : l ++ m ≠ [] := by simp [hne]
      have hd : (l ++ m).drop (oneL l) = l.drop (oneL l) ++ m := drop_take_app l m _ hle
      obtain ⟨g1, g2⟩ := ih (l.drop (oneL l)) m (pos + oneL l) b1' b2 (by rw [List.length_drop]; omega) hc (by rw [List.length_drop]; omega) hb2
      rw [List.length_drop, show pos + oneL l + (l.length - oneL l) = pos + l.length from by omega] at g1
      simp only [chkL, wideL]
      rw [if_neg hne2, if_neg hne2, if_neg hne, ho, if_neg h0, if_neg h0, hd]
      exact ⟨g1, by rw [g2]; omega⟩
end Go.Proofs.YtmoamfcaokefiaaGreatDoor.utf
