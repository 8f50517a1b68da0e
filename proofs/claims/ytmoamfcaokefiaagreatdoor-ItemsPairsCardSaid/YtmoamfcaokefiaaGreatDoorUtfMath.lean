/-
  Plain mathematics of layer 1: places and offsets are each other's way back; the spans' ends; no program.
-/
import Derived.Test.YtmoamfcaokefiaaGreatDoorUtfSpec
namespace Go.Proofs.YtmoamfcaokefiaaGreatDoor.Sp

def step (p : Nat × Nat) (b : UInt8) : Nat × Nat := if b = 10 then (p.1 + 1, 0) else (p.1, p.2 + 1)
/-- Line and column behind so many bytes. -/
def pl (l : List UInt8) : Nat × Nat := l.foldl step (0, 0)

theorem spans_head (l : List UInt8) : ∀ n f c, ∃ t r, spans l n f c = (n, f, t) :: r ∧ c ≤ t := by
  induction l with
  | nil => intro n f c; exact ⟨c, [], rfl, Nat.le_refl _⟩
  | cons b r ih =>
    intro n f c
    simp only [spans]
    split
    · exact ⟨c, _, rfl, Nat.le_refl _⟩
    · obtain ⟨t, r', h, ht⟩ := ih n f (c + 1)
      exact ⟨t, r', h, by omega⟩

theorem spans_place (l : List UInt8) : ∀ (n f c k : Nat), f ≤ c → k ≤ l.length →
    ∃ x, (spans l n f c).find? (fun x => decide (c + k ≤ x.2.2)) = some x ∧ x.2.1 ≤ c + k ∧ c + k ≤ x.2.2 ∧ (x.1, c + k - x.2.1) = (l.take k).foldl step (n, c - f) := by
  induction l with
  | nil =>
    intro n f c k hf hk
    have : k = 0 := by simpa using hk
    subst this
    exact ⟨(n, f, c), by simp [spans], by simpa using hf, by simp, by simp⟩
  | cons b r ih =>
    intro n f c k hf hk
    cases k with
    | zero =>
      obtain ⟨t, r', h, ht⟩ := spans_head (b :: r) n f c
      exact ⟨(n, f, t), by rw [h]; simp [ht], by simpa using hf, by simpa using ht, by simp⟩
    | succ k =>
      have hk' : k ≤ r.length := by simpa using hk
      by_cases hb : b = 10
      · obtain ⟨x, h1, h2, h3, h4⟩ := ih (n + 1) (c + 1) (c + 1) k (Nat.le_refl _) hk'
        have e : c + 1 + k = c + (k + 1) := by omega
        rw [e] at h1 h2 h3 h4
        refine ⟨x, ?_, h2, h3, ?_⟩
        · simp only [spans, if_pos hb]
          rw [List.find?_cons_of_neg (by simp)]
          exact h1
        · rw [h4]
          simp [step, hb]
      · obtain ⟨x, h1, h2, h3, h4⟩ := ih n f (c + 1) k (by omega) hk'
        have e : c + 1 + k = c + (k + 1) := by omega
        rw [e] at h1 h2 h3 h4
        refine ⟨x, ?_, h2, h3, ?_⟩
        · simp only [spans, if_neg hb]
          exact h1
        · rw [h4]
          simp [step, hb, show c + 1 - f = c - f + 1 from by omega]

theorem spans_find (l : List UInt8) : ∀ (n f c : Nat), f ≤ c → ∀ x ∈ spans l n f c, (spans l n f c).find? (fun y => y.1 == x.1) = some x := by
  induction l with
  | nil => intro n f c _ x hx; simp [spans] at hx; subst hx; simp [spans]
  | cons b r ih =>
    intro n f c hf x hx
    simp only [spans] at hx ⊢
    split at hx
    · rename_i hb
      rw [if_pos hb]
      rcases List.mem_cons.1 hx with rfl | hx
      · simp
      · have := spans_bd r (n + 1) (c + 1) (c + 1) (Nat.le_refl _) x hx
        rw [List.find?_cons_of_neg (by simp; omega)]
        exact ih _ _ _ (Nat.le_refl _) x hx
    · rename_i hb
      rw [if_neg hb]
      exact ih _ _ _ (by omega) x hx

theorem spans_get (l : List UInt8) : ∀ (n f c i : Nat) x, (spans l n f c)[i]? = some x → x.1 = n + i := by
  induction l with
  | nil =>
    intro n f c i x h
    cases i with
    | zero => simp [spans] at h; subst h; rfl
    | succ i => simp [spans] at h
  | cons b r ih =>
    intro n f c i x h
    simp only [spans] at h
    split at h
    · cases i with
      | zero => simp at h; subst h; rfl
      | succ i => have := ih (n + 1) (c + 1) (c + 1) i x (by simpa using h); omega
    · exact ih n f (c + 1) i x h

theorem spans_end (l : List UInt8) : ∀ (n f c : Nat), f ≤ c → ∀ x ∈ spans l n f c, x.2.2 = c + l.length ∨ (c ≤ x.2.2 ∧ l[x.2.2 - c]? = some 10) := by
  induction l with
  | nil => intro n f c _ x hx; simp [spans] at hx; subst hx; simp
  | cons b r ih =>
    intro n f c hf x hx
    simp only [spans] at hx
    split at hx
    · rename_i hb
      rcases List.mem_cons.1 hx with rfl | hx
      · right; simp [hb]
      · rcases ih _ _ _ (Nat.le_refl _) x hx with h | ⟨h1, h2⟩
        · left; simp; omega
        · right
          refine ⟨by omega, ?_⟩
          rw [show x.2.2 - c = (x.2.2 - (c + 1)) + 1 from by omega]
          simpa using h2
    · rcases ih _ _ _ (by omega) x hx with h | ⟨h1, h2⟩
      · left; simp; omega
      · right
        refine ⟨by omega, ?_⟩
        rw [show x.2.2 - c = (x.2.2 - (c + 1)) + 1 from by omega]
        simpa using h2

theorem spans_count (l : List UInt8) : ∀ n f c, (spans l n f c).length = l.count 10 + 1 := by
  induction l with
  | nil => intro n f c; simp [spans]
  | cons b r ih =>
    intro n f c
    simp only [spans]
    split
    · rename_i hb; subst hb; simp [ih]
    · rename_i hb; rw [ih, List.count_cons_of_ne hb]

/-- No span has a line feed. -/
theorem spans_clean (L : List UInt8) : ∀ (l : List UInt8) (n f c : Nat), L.drop c = l → f ≤ c → (∀ j, f ≤ j → j < c → L[j]? ≠ some 10) → ∀ x ∈ spans l n f c, ∀ j, x.2.1 ≤ j → j < x.2.2 → L[j]? ≠ some 10 := by
  intro l
  induction l with
  | nil => intro n f c _ _ h x hx; simp [spans] at hx; subst hx; exact h
  | cons b r ih =>
    intro n f c hl hf h x hx
    have hb : L[c]? = some b := by
      have := congrArg (fun l : List UInt8 => l[0]?) hl
      simpa using this
    have hr : L.drop (c + 1) = r := by
      have := congrArg (fun l : List UInt8 => l.drop 1) hl
      simpa [List.drop_drop] using this
    simp only [spans] at hx
    split at hx
    · rcases List.mem_cons.1 hx with rfl | hx
      · exact h
      · exact ih _ _ _ hr (Nat.le_refl _) (fun j h1 h2 => by omega) x hx
    · rename_i hn
      refine ih _ _ _ hr (by omega) (fun j h1 h2 => ?_) x hx
      by_cases e : j = c
      · subst e; rw [hb]; simpa using hn
      · exact h j h1 (by omega)

def joinNL : List (List UInt8) → List UInt8
  | [] => []
  | [a] => a
  | a :: b :: r => a ++ 10 :: joinNL (b :: r)

theorem cut_full (L : List UInt8) (n f c : Nat) (h : L.drop c = []) (hf : f ≤ c) (hc : c ≤ L.length) : cut L (n, f, c) = L.drop f := by
  have : L.length ≤ c := by simpa using h
  simp only [cut]
  rw [List.take_of_length_le (by rw [List.length_drop]; omega)]

theorem spans_join (L : List UInt8) : ∀ (l : List UInt8) (n f c : Nat), L.drop c = l → f ≤ c → c ≤ L.length → joinNL ((spans l n f c).map (cut L)) = L.drop f := by
  intro l
  induction l with
  | nil => intro n f c h hf hc; simp [spans, joinNL, cut_full L n f c h hf hc]
  | cons b r ih =>
    intro n f c hl hf hc
    have hlen : c < L.length := by
      rcases Nat.lt_or_ge c L.length with h | h
      · exact h
      · rw [List.drop_eq_nil_of_le h] at hl; cases hl
    have hr : L.drop (c + 1) = r := by
      have := congrArg (fun l : List UInt8 => l.drop 1) hl
      simpa [List.drop_drop] using this
    simp only [spans]
    split
    · rename_i hb
      have h1 := ih (n + 1) (c + 1) (c + 1) hr (Nat.le_refl _) (by omega)
      obtain ⟨t, r', h2, _⟩ := spans_head r (n + 1) (c + 1) (c + 1)
      rw [h2] at h1 ⊢
      simp only [List.map_cons, joinNL] at h1 ⊢
      rw [h1, hr]
      simp only [cut]
      have e : L.drop f = (L.drop f).take (c - f) ++ (L.drop f).drop (c - f) := (List.take_append_drop _ _).symm
      have e2 : (L.drop f).drop (c - f) = b :: r := by rw [List.drop_drop, show f + (c - f) = c from by omega, hl]
      rw [e2] at e
      rw [e, hb]
      congr 1
      rw [← hb, ← e]
    · exact ih n f (c + 1) hr (by omega) (by omega)

/-- Place is what counting says. -/
theorem placeF_in (l : List UInt8) (k : Nat) (hk : k ≤ l.length) : placeF l (k : Int) = (((pl (l.take k)).1 : Int), ((pl (l.take k)).2 : Int), true) := by
  obtain ⟨x, h1, h2, h3, h4⟩ := spans_place l 0 0 0 k (Nat.le_refl _) hk
  have e : (fun x : Nat × Nat × Nat => decide ((k : Int) ≤ (x.2.2 : Int))) = fun x => decide (0 + k ≤ x.2.2) := by
    funext x; congr 1; apply propext; omega
  unfold placeF spansOf
  rw [if_neg (by omega), e, h1]
  have e1 : x.1 = (pl (l.take k)).1 := congrArg Prod.fst h4
  have e2 : 0 + k - x.2.1 = (pl (l.take k)).2 := congrArg Prod.snd h4
  simp only [Prod.mk.injEq, and_true]
  constructor <;> omega

theorem placeF_out (l : List UInt8) (a : Int) (h : a < 0 ∨ (l.length : Int) < a) : placeF l a = (0, 0, false) := by
  unfold placeF
  by_cases h0 : a < 0
  · rw [if_pos h0]
  · rw [if_neg h0, List.find?_eq_none.2 (fun x hx => ?_)]
    have := spans_bd l 0 0 0 (Nat.le_refl _) x hx
    simp
    omega

theorem find_int (xs : List (Nat × Nat × Nat)) (n : Nat) : xs.find? (fun x => (x.1 : Int) == (n : Int)) = xs.find? (fun x => x.1 == n) := by
  congr 1
  funext x
  rw [Bool.eq_iff_iff]
  simp
  omega

/-- The way back. -/
theorem offF_place (l : List UInt8) (k : Nat) (hk : k ≤ l.length) : offF l ((pl (l.take k)).1 : Int) ((pl (l.take k)).2 : Int) = ((k : Int), true) := by
  obtain ⟨x, h1, h2, h3, h4⟩ := spans_place l 0 0 0 k (Nat.le_refl _) hk
  have e1 : x.1 = (pl (l.take k)).1 := congrArg Prod.fst h4
  have e2 : 0 + k - x.2.1 = (pl (l.take k)).2 := congrArg Prod.snd h4
  have hm := List.mem_of_find?_eq_some h1
  have hf := spans_find l 0 0 0 (Nat.le_refl _) x hm
  unfold offF spansOf
  rw [find_int, ← e1, hf]
  simp only [offIn]
  rw [if_neg (by omega)]
  simp
  omega

theorem pl_snoc (l : List UInt8) (b : UInt8) : pl (l ++ [b]) = step (pl l) b := by simp [pl]
theorem pl_succ (l : List UInt8) (k : Nat) (h : k < l.length) : pl (l.take (k + 1)) = step (pl (l.take k)) l[k] := by
  rw [List.take_succ_eq_append_getElem h, pl_snoc]

theorem offF_get (l : List UInt8) (i : Nat) (x : Nat × Nat × Nat) (h : (spansOf l)[i]? = some x) (col : Int) : offF l (i : Int) col = offIn x col := by
  have h1 := spans_get l 0 0 0 i x h
  have hm : x ∈ spansOf l := List.mem_of_getElem? h
  have hf := spans_find l 0 0 0 (Nat.le_refl _) x hm
  unfold offF
  have e : i = x.1 := by omega
  rw [e, find_int]
  unfold spansOf
  rw [hf]
theorem offF_beyond (l : List UInt8) (n : Nat) (h : (spansOf l).length ≤ n) (col : Int) : offF l (n : Int) col = (0, false) := by
  unfold offF
  rw [find_int, List.find?_eq_none.2 (fun x hx => ?_)]
  obtain ⟨i, hi, he⟩ := List.getElem_of_mem hx
  have := spans_get l 0 0 0 i x (by rw [← he]; exact List.getElem?_eq_getElem hi)
  simp
  omega
theorem spans_apart (l : List UInt8) : ∀ n f c, f ≤ c → (spans l n f c).Pairwise (fun a b => a.2.2 < b.2.1) := by
  induction l with
  | nil => intro n f c _; simp [spans]
  | cons b r ih =>
    intro n f c hf
    simp only [spans]
    split
    · refine List.pairwise_cons.2 ⟨fun y hy => ?_, ih _ _ _ (Nat.le_refl _)⟩
      have := spans_bd r (n + 1) (c + 1) (c + 1) (Nat.le_refl _) y hy
      simp; omega
    · exact ih _ _ _ (by omega)

theorem pairwise_mem {α : Type} {R : α → α → Prop} {l : List α} (h : l.Pairwise R) {x y : α} (hx : x ∈ l) (hy : y ∈ l) : x = y ∨ R x y ∨ R y x := by
  induction l with
  | nil => cases hx
  | cons a r ih =>
    obtain ⟨h1, h2⟩ := List.pairwise_cons.1 h
    rcases List.mem_cons.1 hx with e1 | hx'
    · rcases List.mem_cons.1 hy with e2 | hy'
      · exact .inl (by rw [e1, e2])
      · rw [e1]; exact .inr (.inl (h1 y hy'))
    · rcases List.mem_cons.1 hy with e2 | hy'
      · rw [e2]; exact .inr (.inr (h1 x hx'))
      · exact ih h2 hx' hy'

theorem offF_absent (l : List UInt8) (line col : Int) (h : ∀ j, j ≤ l.length → ¬ (((pl (l.take j)).1 : Int) = line ∧ ((pl (l.take j)).2 : Int) = col)) : offF l line col = (0, false) := by
  unfold offF
  cases hx : (spansOf l).find? (fun x => (x.1 : Int) == line) with
  | none => rfl
  | some x =>
    have hm : x ∈ spans l 0 0 0 := List.mem_of_find?_eq_some hx
    have hl : (x.1 : Int) = line := by have := List.find?_some hx; exact eq_of_beq this
    have hbd := spans_bd l 0 0 0 (Nat.le_refl _) x hm
    simp only [offIn]
    split
    · rfl
    · rename_i hc
      exfalso
      obtain ⟨k, hk⟩ : ∃ k : Nat, col = (k : Int) := ⟨col.toNat, by omega⟩
      obtain ⟨y, h1, h2, h3, h4⟩ := spans_place l 0 0 0 (x.2.1 + k) (Nat.le_refl _) (by omega)
      have hy : y ∈ spans l 0 0 0 := List.mem_of_find?_eq_some h1
      have hxy : x = y := by
        rcases pairwise_mem (spans_apart l 0 0 0 (Nat.le_refl _)) hm hy with e | e | e
        · exact e
        · omega
        · omega
      subst hxy
      have e1 : x.1 = (pl (l.take (x.2.1 + k))).1 := congrArg Prod.fst h4
      have e2 : 0 + (x.2.1 + k) - x.2.1 = (pl (l.take (x.2.1 + k))).2 := congrArg Prod.snd h4
      exact h (x.2.1 + k) (by omega) ⟨by omega, by omega⟩

theorem pl_le (l : List UInt8) : (pl l).1 ≤ l.length ∧ (pl l).2 ≤ l.length := by
  have : ∀ (l : List UInt8) (p : Nat × Nat), (l.foldl step p).1 ≤ p.1 + l.length ∧ (l.foldl step p).2 ≤ p.2 + l.length := by
    intro l
    induction l with
    | nil => intro p; simp
    | cons b r ih =>
      intro p
      have := ih (step p b)
      simp only [List.foldl_cons, List.length_cons]
      unfold step at this ⊢
      split at this <;> simp_all <;> omega
  simpa [pl] using this l (0, 0)
end Go.Proofs.YtmoamfcaokefiaaGreatDoor.Sp
