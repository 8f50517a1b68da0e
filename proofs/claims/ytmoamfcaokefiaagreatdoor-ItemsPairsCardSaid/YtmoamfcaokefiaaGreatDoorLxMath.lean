/-
  Plain mathematics of layer 4, for the program's own way of telling notes, pieces and simple names.
-/
import Derived.Lib.TrimByte
import Derived.Lib.IndexLaws
import Derived.Lib.IndexAny
import Derived.Test.YtmoamfcaokefiaaGreatDoorLxSpec
namespace Go.Proofs.YtmoamfcaokefiaaGreatDoor.Lx

theorem nst_snoc (l : List UInt8) (b : UInt8) : nst (l ++ [b]) = nstep (nst l) b := by simp [nst]
theorem nst_app (l m : List UInt8) : nst (l ++ m) = m.foldl nstep (nst l) := by simp [nst]

/-- How many backslashes stand at the end. -/
def trail (l : List UInt8) : Nat := (l.reverse.takeWhile (· == 92)).length
theorem trail_nil : trail [] = 0 := rfl
theorem trail_snoc (l : List UInt8) (b : UInt8) : trail (l ++ [b]) = if b = 92 then trail l + 1 else 0 := by
  unfold trail
  rw [List.reverse_append, List.reverse_singleton, List.singleton_append, List.takeWhile_cons]
  by_cases h : b = 92 <;> simp [h]
theorem trimRight_length (l : List UInt8) : l.length - (Lib.trimRightB l 92).length = trail l ∧ (Lib.trimRightB l 92).length ≤ l.length := by
  unfold Lib.trimRightB trail
  have h := congrArg List.length (List.takeWhile_append_dropWhile (p := (· == (92 : UInt8))) (l := l.reverse))
  rw [List.length_append, List.length_reverse] at h
  rw [List.length_reverse]
  omega

theorem snoc_cases (l : List UInt8) : l = [] ∨ ∃ t b, l = t ++ [b] := by
  rcases List.eq_nil_or_concat l with h | ⟨t, b, h⟩
  · exact .inl h
  · exact .inr ⟨t, b, by rw [h, List.concat_eq_append]⟩

theorem nst_one (l : List UInt8) : nst l = 1 ↔ trail l % 2 = 1 := by
  generalize hn : l.length = n
  induction n generalizing l with
  | zero =>
    obtain rfl := List.length_eq_zero_iff.1 hn
    simp [nst, trail_nil]
  | succ n ih =>
    rcases snoc_cases l with rfl | ⟨t, b, rfl⟩
    · simp at hn
    · have ht : t.length = n := by simp at hn; exact hn
      have := ih t ht
      rw [nst_snoc, trail_snoc]
      unfold nstep
      by_cases hb : b = 92
      · rw [if_pos hb, if_pos hb]
        by_cases h1 : nst t = 1
        · rw [if_pos h1]; have := this.1 h1; omega
        · rw [if_neg h1]
          have : ¬ trail t % 2 = 1 := fun e => h1 (this.2 e)
          omega
      · rw [if_neg hb, if_neg hb]
        split <;> simp

/-- Does a line feed behind it belong to the note? -/
def goes (l : List UInt8) : Bool := decide (nst l ≠ 0)
theorem goes_trail (l : List UInt8) : goes l = decide (trail (Lib.trimSuffix l [13]) % 2 = 1) := by
  unfold goes
  rw [decide_eq_decide]
  rcases snoc_cases l with rfl | ⟨t, b, rfl⟩
  · simp [nst, Lib.trimSuffix, Lib.hasSuffix, trail_nil, List.isSuffixOf]
  · by_cases hb : b = 13
    · subst hb
      have e : Lib.trimSuffix (t ++ [13]) [13] = t := by
        have : Lib.hasSuffix (t ++ [13]) [13] = true := by unfold Lib.hasSuffix; simp
        unfold Lib.trimSuffix
        rw [if_pos this]
        simp
      rw [e, nst_snoc, ← nst_one]
      unfold nstep
      rw [if_neg (by decide)]
      by_cases h1 : nst t = 1
      · rw [if_pos ⟨rfl, h1⟩]; simp [h1]
      · rw [if_neg (fun h => h1 h.2)]; simp [h1]
    · have e : Lib.trimSuffix (t ++ [b]) [13] = t ++ [b] := by
        unfold Lib.trimSuffix
        rw [if_neg]
        unfold Lib.hasSuffix
        rw [List.isSuffixOf_iff_suffix]
        rintro ⟨p, hp⟩
        have := congrArg List.getLast? hp
        simp at this
        exact hb this.symm
      rw [e, ← nst_one, nst_snoc]
      unfold nstep
      by_cases h92 : b = 92
      · rw [if_pos h92]; split <;> simp
      · rw [if_neg h92, if_neg (fun h => hb h.1)]; simp

theorem noteR_skip (st : Nat) (l : List UInt8) (k : Nat) (hk : k ≤ l.length) (h : ∀ j, j < k → l[j]? ≠ some 10) : noteR st l = k + noteR ((l.take k).foldl nstep st) (l.drop k) := by
  induction k generalizing st l with
  | zero => simp
  | succ k ih =>
    cases l with
    | nil => simp at hk
    | cons b r =>
      have hb : b ≠ 10 := fun e => h 0 (by omega) (by simp [e])
      have := ih (nstep st b) r (by simpa using hk) (fun j hj => by have := h (j + 1) (by omega); simpa using this)
      simp only [noteR, List.take_succ_cons, List.drop_succ_cons, List.foldl_cons]
      rw [if_neg (fun e => hb e.1), this]
      omega
/-- In the middle of a note: n bytes have been gone over. -/
def NoteI (l : List UInt8) (n : Nat) : Prop := n ≤ l.length ∧ noteR 0 l = n + noteR (nst (l.take n)) (l.drop n)
theorem NoteI.start (l : List UInt8) : NoteI l 0 := ⟨Nat.zero_le _, by simp [nst]⟩
theorem NoteI.none {l : List UInt8} {n : Nat} (h : NoteI l n) (hn : Lib.indexByte (l.drop n) 10 = -1) : noteR 0 l = l.length := by
  have := noteR_skip (nst (l.take n)) (l.drop n) (l.drop n).length (Nat.le_refl _) (fun j _ => Lib.indexByte_none hn j)
  rw [h.2, this, List.drop_length, List.length_drop]
  have := h.1
  simp [noteR]; omega
theorem NoteI.found {l : List UInt8} {n k : Nat} (h : NoteI l n) (hn : Lib.indexByte (l.drop n) 10 = (k : Int)) :
    n + k < l.length ∧ (goes (l.take (n + k)) = false → noteR 0 l = n + k) ∧ (goes (l.take (n + k)) = true → NoteI l (n + k + 1)) := by
  obtain ⟨h1, h2⟩ := Lib.indexByte_some hn
  rw [List.getElem?_drop] at h1
  have hlt : n + k < l.length := (List.getElem?_eq_some_iff.1 h1).1
  have hs := noteR_skip (nst (l.take n)) (l.drop n) k (by rw [List.length_drop]; omega) (fun j hj => h2 j hj)
  have e1 : ((l.drop n).take k).foldl nstep (nst (l.take n)) = nst (l.take (n + k)) := by rw [← nst_app, ← List.take_add]
  have e2 : (l.drop n).drop k = 10 :: l.drop (n + k + 1) := by
    rw [List.drop_drop, List.drop_eq_getElem_cons hlt]
    congr 1
    rw [List.getElem?_eq_getElem hlt] at h1
    exact Option.some.inj h1
  rw [e1, e2] at hs
  have hall : noteR 0 l = n + (k + noteR (nst (l.take (n + k))) (10 :: l.drop (n + k + 1))) := by rw [h.2, hs]
  refine ⟨hlt, fun hg => ?_, fun hg => ⟨hlt, ?_⟩⟩
  · have h0 : nst (l.take (n + k)) = 0 := by unfold goes at hg; simpa using hg
    rw [hall, h0]
    simp [noteR]
  · have h0 : nst (l.take (n + k)) ≠ 0 := by unfold goes at hg; simpa using hg
    have e3 : nst (l.take (n + k + 1)) = nstep (nst (l.take (n + k))) 10 := by
      rw [List.take_succ_eq_append_getElem hlt, nst_snoc]
      congr 1
      rw [List.getElem?_eq_getElem hlt] at h1
      exact Option.some.inj h1
    rw [hall, e3]
    simp only [noteR]
    rw [if_neg (fun e => h0 e.2)]
    omega

/-- Neither a quote nor a backslash. -/
def cN (n : Int) : Bool := !(n == 34 || n == 92)
theorem cN_not (b : UInt8) : cN (b.toNat : Int) = false ↔ b = 34 ∨ b = 92 := by
  unfold cN
  have h1 : ((b.toNat : Int) == 34) = (b == 34) := by
    rw [Bool.eq_iff_iff, beq_iff_eq, beq_iff_eq]
    exact ⟨fun h => UInt8.toNat_inj.1 (by show b.toNat = 34; omega), fun h => by subst h; rfl⟩
  have h2 : ((b.toNat : Int) == 92) = (b == 92) := by
    rw [Bool.eq_iff_iff, beq_iff_eq, beq_iff_eq]
    exact ⟨fun h => UInt8.toNat_inj.1 (by show b.toNat = 92; omega), fun h => by subst h; rfl⟩
  rw [h1, h2]
  cases ha : (b == 34) <;> cases hb : (b == 92) <;> simp_all

theorem indexAny_run (l : List UInt8) : Lib.indexAny l [34, 92] = if Sg.run cN l = l.length then -1 else (Sg.run cN l : Int) := by
  induction l with
  | nil => rfl
  | cons b r ih =>
    have hle := Sg.run_le cN r
    simp only [Lib.indexAny, List.length_cons]
    rcases Bool.eq_false_or_eq_true (cN (b.toNat : Int)) with hc | hc
    rotate_left
    · have : [34, 92].contains b = true := by
        rcases (cN_not b).1 hc with rfl | rfl <;> rfl
      have e1 : Sg.run cN (b :: r) = 0 := by simp [Sg.run, hc]
      rw [if_pos this, e1, if_neg (by omega)]
      rfl
    · have : [34, 92].contains b = false := by
        cases hq : [34, 92].contains b with
        | false => rfl
        | true =>
          have : b = 34 ∨ b = 92 := by simpa using hq
          rw [(cN_not b).2 this] at hc; cases hc
      have e1 : Sg.run cN (b :: r) = Sg.run cN r + 1 := by simp [Sg.run, hc]
      rw [this, ih, e1]
      simp only [Bool.false_eq_true, if_false]
      by_cases h : Sg.run cN r = r.length
      · have h' : Sg.run cN r + 1 = r.length + 1 := by omega
        rw [if_pos h, if_pos h']; rfl
      · have h' : ¬ (Sg.run cN r + 1 = r.length + 1) := by omega
        have h2 : ¬ (((Sg.run cN r : Int) == -1) = true) := by rw [beq_iff_eq]; omega
        rw [if_neg h, if_neg h', if_neg h2]; omega

theorem pieceF_fuel (f g : Nat) (l : List UInt8) (hf : l.length ≤ f) (hg : l.length ≤ g) : pieceF f l = pieceF g l := by
  induction f generalizing g l with
  | zero =>
    obtain rfl : l = [] := List.length_eq_zero_iff.1 (by omega)
    cases g <;> rfl
  | succ f ih =>
    cases l with
    | nil => cases g <;> rfl
    | cons b r =>
      cases g with
      | zero => simp at hg
      | succ g =>
        have hf' : r.length ≤ f := by simpa using hf
        have hg' : r.length ≤ g := by simpa using hg
        have hk : ∀ k, k ≠ 0 → ((b :: r).drop k).length ≤ r.length := fun k h => by rw [List.length_drop, List.length_cons]; omega
        simp only [pieceF]
        rw [ih g r hf' hg']
        split
        · rfl
        · split
          · split
            · rfl
            · rename_i h0
              have hx := hk _ h0
              rw [ih g _ (by omega) (by omega)]
          · rfl
theorem piece_nil : piece [] = 0 := rfl
theorem piece_quote (r : List UInt8) : piece (34 :: r) = 0 := by simp [piece, pieceF]
theorem piece_none (r : List UInt8) (h : Sg.escape (92 :: r) = 0) : piece (92 :: r) = 0 := by simp [piece, pieceF, h]
theorem piece_esc (r : List UInt8) (h : Sg.escape (92 :: r) ≠ 0) : piece (92 :: r) = Sg.escape (92 :: r) + piece ((92 :: r).drop (Sg.escape (92 :: r))) := by
  have hx : ((92 :: r).drop (Sg.escape (92 :: r))).length ≤ r.length := by rw [List.length_drop, List.length_cons]; omega
  unfold piece
  simp only [List.length_cons, pieceF]
  rw [if_neg (by decide), if_pos trivial, if_neg h, pieceF_fuel r.length _ _ hx (Nat.le_refl _)]
theorem piece_one (b : UInt8) (r : List UInt8) (h : cN (b.toNat : Int) = true) : piece (b :: r) = 1 + piece r := by
  have hb : ¬ (b = 34 ∨ b = 92) := fun e => by rw [(cN_not b).2 e] at h; cases h
  unfold piece
  simp only [List.length_cons, pieceF]
  rw [if_neg (fun e => hb (.inl e)), if_neg (fun e => hb (.inr e))]
theorem piece_run (l : List UInt8) : piece l = Sg.run cN l + piece (l.drop (Sg.run cN l)) := by
  induction l with
  | nil => rfl
  | cons b r ih =>
    simp only [Sg.run]
    split
    · rename_i h
      rw [piece_one b r h, ih, List.drop_succ_cons]
      omega
    · simp
/-- Behind what stands for itself: the end, a quote, or a backslash. -/
theorem escape_head {l : List UInt8} (h : Sg.escape l ≠ 0) : ∃ r, l = 92 :: r := by
  unfold Sg.escape at h
  split at h
  · rename_i hp
    cases l with
    | nil => simp [Sg.at'] at hp
    | cons b r =>
      refine ⟨r, ?_⟩
      simp [Sg.at'] at hp
      congr 1
      exact UInt8.toNat_inj.1 (by show b.toNat = 92; omega)
  · exact absurd rfl h
theorem piece_stop (l : List UInt8) (h : Sg.escape (l.drop (Sg.run cN l)) = 0) : piece l = Sg.run cN l := by
  rw [piece_run]
  have hs := Sg.run_drop_stop cN l
  cases hd : l.drop (Sg.run cN l) with
  | nil => rfl
  | cons b r =>
    rw [hd] at h hs
    rcases (cN_not b).1 (hs b rfl) with rfl | rfl
    · rw [piece_quote]; rfl
    · rw [piece_none r h]; rfl
theorem piece_go (l : List UInt8) (h : Sg.escape (l.drop (Sg.run cN l)) ≠ 0) : piece l = Sg.run cN l + Sg.escape (l.drop (Sg.run cN l)) + piece (l.drop (Sg.run cN l + Sg.escape (l.drop (Sg.run cN l)))) := by
  rw [piece_run l]
  obtain ⟨r, hr⟩ := escape_head h
  rw [hr] at h
  rw [← List.drop_drop, hr, piece_esc r h]
  omega
/-- In the middle of a piece. -/
def PieceI (l : List UInt8) (n : Nat) : Prop := n ≤ l.length ∧ piece l = n + piece (l.drop n)

/-- The simple name in front: a word up to its first colon. -/
theorem simple_cut (l : List UInt8) : (Lib.indexByte (l.take (Sg.word l)) 58 = -1 → Sg.word l = Sg.simple l) ∧ (∀ k : Nat, Lib.indexByte (l.take (Sg.word l)) 58 = (k : Int) → k = Sg.simple l) := by
  have hsl := Sg.simple_le l
  have hno : ∀ j, j < Sg.simple l → l[j]? ≠ some 58 := by
    intro j hj e
    unfold Sg.simple at hj
    split at hj
    · have hrun : ∀ (l : List UInt8) j, j < Sg.run Sg.cW l → l[j]? ≠ some 58 := by
        intro l
        induction l with
        | nil => intro j hj; simp [Sg.run] at hj
        | cons b r ih =>
          intro j hj
          simp only [Sg.run] at hj
          split at hj
          · rename_i hb
            cases j with
            | zero => intro e; simp at e; subst e; revert hb; decide
            | succ j => simpa using ih j (by omega)
          · omega
      exact hrun l j hj e
    · omega
  have hword : Sg.word l = Sg.simple l ∨ (Sg.simple l < Sg.word l ∧ l[Sg.simple l]? = some 58) := by
    by_cases h0 : Sg.simple l = 0
    · exact .inl (by unfold Sg.word; rw [if_pos h0, h0])
    · unfold Sg.word
      rw [if_neg h0]
      by_cases ht : Sg.tail l.length (l.drop (Sg.simple l)) = 0
      · exact .inl (by omega)
      · refine .inr ⟨by omega, ?_⟩
        have hf : Sg.further (l.drop (Sg.simple l)) ≠ 0 := by
          intro e
          cases hl : l.length with
          | zero => rw [hl] at ht; exact ht rfl
          | succ n => rw [hl] at ht; simp only [Sg.tail] at ht; rw [if_pos e] at ht; exact ht rfl
        unfold Sg.further at hf
        split at hf
        · rename_i hp
          unfold Lib.hasPrefix at hp
          obtain ⟨t, ht'⟩ := List.isPrefixOf_iff_prefix.1 hp
          have := congrArg (fun l => l[0]?) ht'
          simp at this
          exact this.symm
        · exact absurd rfl hf
  constructor
  · intro hn
    rcases hword with h | ⟨h1, h2⟩
    · exact h
    · exact absurd (by rw [List.getElem?_take_of_lt h1]; exact h2) (Lib.indexByte_none hn (Sg.simple l))
  · intro k hk
    obtain ⟨h1, h2⟩ := Lib.indexByte_some hk
    rcases hword with h | ⟨h3, h4⟩
    · have hlt : k < Sg.word l := by
        rcases Nat.lt_or_ge k (Sg.word l) with h' | h'
        · exact h'
        · rw [List.getElem?_take_eq_none h'] at h1; cases h1
      rw [List.getElem?_take_of_lt hlt] at h1
      exact absurd h1 (hno k (by omega))
    · rcases Nat.lt_trichotomy k (Sg.simple l) with h' | h' | h'
      · rw [List.getElem?_take_of_lt (by omega)] at h1
        exact absurd h1 (hno k h')
      · exact h'
      · exact absurd (by rw [List.getElem?_take_of_lt h3]; exact h4) (h2 _ h')
theorem word_simple (l : List UInt8) : Sg.simple l ≤ Sg.word l := by unfold Sg.word; split <;> omega
end Go.Proofs.YtmoamfcaokefiaaGreatDoor.Lx
