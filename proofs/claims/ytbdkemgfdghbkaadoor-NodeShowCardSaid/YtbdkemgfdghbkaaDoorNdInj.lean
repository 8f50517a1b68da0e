/-
  node: trees of choices are shown the same only if they are. No program.
-/
import Derived.Test.YtbdkemgfdghbkaaDoorNdTree0
import Derived.Lib.ItoaMem
namespace Go.Proofs.YtbdkemgfdghbkaaDoor.nd
open Go.RowKit sx ed
set_option linter.unusedVariables false

def lab (T : Lib.PrintTabs) (k : Int) (t : ByteArray) : List UInt8 := Lib.itoa k ++ 32 :: (quoteB T t).data.toList
theorem headL_lab (T : Lib.PrintTabs) (k : Int) (t : ByteArray) : headL T k t = 40 :: lab T k t := rfl
/-- Numerals of two digits at most. -/
def dig (a : Nat) : List UInt8 := if a < 10 then [UInt8.ofNat (48 + a)] else [UInt8.ofNat (48 + a / 10), UInt8.ofNat (48 + a % 10)]
theorem itoa_dig {a : Nat} (h : a < 40) : Lib.itoa (a : Int) = dig a := by
  rw [Lib.itoa_nonneg]
  unfold dig
  by_cases h10 : a < 10
  · rw [if_pos h10, Lib.decDigits_one h10]
  · rw [if_neg h10, Lib.decDigits_two h10 (by omega)]
/-- The texts, quoted. -/
def quo : Nat → List UInt8
  | 0 => [34, 34] | 1 => [34, 97, 34] | 2 => [34, 124, 34] | 3 => [34, 36, 120, 34] | 4 => [34, 46, 34] | 5 => [34, 101, 108, 115, 101, 34] | 6 => [34, 98, 48, 34] | _ => [34, 92, 110, 34]
theorem quote_quo (T : Lib.PrintTabs) : ∀ b : Nat, (quoteB T (txtB b)).data.toList = quo b
  | 0 => rfl | 1 => rfl | 2 => rfl | 3 => rfl | 4 => rfl | 5 => rfl | 6 => rfl | _ + 7 => rfl
theorem txt_mod (b : Nat) : ∃ c, c < 8 ∧ txtB b = txtB c := by
  rcases Nat.lt_or_ge b 8 with h | h
  · exact ⟨b, h, rfl⟩
  · refine ⟨7, by omega, ?_⟩
    unfold txtB
    split <;> first | omega | rfl
theorem dig_facts : ∀ a, a < 40 → (∀ x ∈ dig a, x ≠ 40 ∧ x ≠ 41 ∧ x ≠ 32) ∧ ∀ b, b < 40 → dig a = dig b → a = b := by decide
theorem quo_facts : ∀ a, a < 8 → (∀ x ∈ quo a, x ≠ 40 ∧ x ≠ 41) ∧ ∀ b, b < 8 → quo a = quo b → a = b := by decide
/-- Two lists that go on with a stop, split. -/
theorem split_at (p : UInt8 → Prop) : ∀ {a b : List UInt8} {x y : UInt8} {r s : List UInt8}, (∀ c ∈ a, ¬ p c) → (∀ c ∈ b, ¬ p c) → p x → p y → a ++ x :: r = b ++ y :: s → a = b ∧ x :: r = y :: s
  | [], [], _, _, _, _, _, _, _, _, h => ⟨rfl, h⟩
  | [], c :: b, x, _, _, _, _, hb, hx, _, h => by
    simp only [List.nil_append, List.cons_append, List.cons.injEq] at h
    exact absurd (h.1 ▸ hx) (hb c (List.mem_cons_self ..))
  | c :: a, [], _, y, _, _, ha, _, _, hy, h => by
    simp only [List.nil_append, List.cons_append, List.cons.injEq] at h
    exact absurd (h.1.symm ▸ hy) (ha c (List.mem_cons_self ..))
  | c :: a, d :: b, _, _, _, _, ha, hb, hx, hy, h => by
    simp only [List.cons_append, List.cons.injEq] at h
    obtain ⟨h1, h2⟩ := split_at p (fun z hz => ha z (List.mem_cons_of_mem _ hz)) (fun z hz => hb z (List.mem_cons_of_mem _ hz)) hx hy h.2
    exact ⟨by rw [h.1, h1], h2⟩
theorem lab_inj {T : Lib.PrintTabs} {a a' b b' : Nat} (ha : a < 40) (ha' : a' < 40) (h : lab T (a : Int) (txtB b) = lab T (a' : Int) (txtB b')) : a = a' ∧ txtB b = txtB b' := by
  obtain ⟨c, hc, ec⟩ := txt_mod b
  obtain ⟨c', hc', ec'⟩ := txt_mod b'
  unfold lab at h
  rw [ec, ec', itoa_dig ha, itoa_dig ha', quote_quo, quote_quo] at h
  obtain ⟨h1, h2⟩ := split_at (fun x => x = 32) (fun x hx => ((dig_facts a ha).1 x hx).2.2) (fun x hx => ((dig_facts a' ha').1 x hx).2.2) rfl rfl h
  simp only [List.cons.injEq, true_and] at h2
  have := (quo_facts c hc).2 c' hc' h2
  exact ⟨(dig_facts a ha).2 a' ha' h1, by rw [ec, ec', this]⟩
theorem lab_clean {T : Lib.PrintTabs} {a b : Nat} (ha : a < 40) : ∀ x ∈ lab T (a : Int) (txtB b), ¬ (x = 40 ∨ x = 41) := by
  obtain ⟨c, hc, ec⟩ := txt_mod b
  intro x hx
  unfold lab at hx
  rw [ec, itoa_dig ha, quote_quo, List.mem_append, List.mem_cons] at hx
  rcases hx with h | h | h
  · have := (dig_facts a ha).1 x h
    exact fun e => e.elim this.1 this.2.1
  · subst h; decide
  · have := (quo_facts c hc).1 x h
    exact fun e => e.elim this.1 this.2
theorem show_head (T : Lib.PrintTabs) (f : Fo) (r : List UInt8) : ∃ x s, f.show T ++ 41 :: r = x :: s ∧ (x = 40 ∨ x = 41) := by
  cases f with
  | nil => exact ⟨41, r, rfl, .inr rfl⟩
  | cons k t kids f => exact ⟨40, (lab T k t ++ (kids.show T ++ 41 :: f.show T)) ++ 41 :: r, rfl, .inl rfl⟩
theorem Fo.show_inj (T : Lib.PrintTabs) : ∀ (f g : Fo) (r s : List UInt8), f.Nice → g.Nice → f.show T ++ 41 :: r = g.show T ++ 41 :: s → f = g ∧ r = s
  | .nil, .nil, _, _, _, _, h => ⟨rfl, by simpa [Fo.show] using h⟩
  | .nil, .cons _ _ _ _, _, _, _, _, h => by simp [Fo.show, headL_lab] at h
  | .cons _ _ _ _, .nil, _, _, _, _, h => by simp [Fo.show, headL_lab] at h
  | .cons k t kids f, .cons k' t' kids' f', r, s, ⟨⟨a, e1, ha⟩, ⟨b, e2⟩, hk, hf⟩, ⟨⟨a', e1', ha'⟩, ⟨b', e2'⟩, hk', hf'⟩, h => by
    subst e1 e1' e2 e2'
    simp only [Fo.show, headL_lab, List.cons_append, List.append_assoc, List.cons.injEq, true_and] at h
    obtain ⟨x, u, hx, px⟩ := show_head T kids (f.show T ++ 41 :: r)
    obtain ⟨y, v, hy, py⟩ := show_head T kids' (f'.show T ++ 41 :: s)
    rw [hx, hy] at h
    obtain ⟨h1, h2⟩ := split_at (fun x => x = 40 ∨ x = 41) (lab_clean ha) (lab_clean ha') px py h
    rw [← hx, ← hy] at h2
    obtain ⟨h3, h4⟩ := Fo.show_inj T kids kids' _ _ hk hk' h2
    obtain ⟨h5, h6⟩ := Fo.show_inj T f f' _ _ hf hf' h4
    obtain ⟨h7, h8⟩ := lab_inj ha ha' h1
    exact ⟨by rw [h7, h8, h3, h5], h6⟩
theorem Nd.show_inj {T : Lib.PrintTabs} {x y : Nd} (hx : x.Nice) (hy : y.Nice) (h : x.show T = y.show T) : x = y := by
  obtain ⟨k, t, f⟩ := x
  obtain ⟨k', t', f'⟩ := y
  have := (Fo.show_inj T (.cons k t f .nil) (.cons k' t' f' .nil) [] [] ⟨hx.1, hx.2.1, hx.2.2, trivial⟩ ⟨hy.1, hy.2.1, hy.2.2, trivial⟩ (by
    simp only [Nd.show] at h
    simp only [Fo.show, List.append_assoc, List.cons_append, List.nil_append]
    have h' := congrArg (· ++ [(41 : UInt8)]) h
    simpa using h')).1
  cases this
  rfl
/-- The longest path, and one, is how deep it lies. -/
theorem Fo.paths_long : ∀ (i : Nat) (f : Fo) (a : Nat), (Fo.paths i f).foldl (fun m p => max m p.length) a = max a f.deep
  | _, .nil, a => by simp [Fo.paths, Fo.deep]
  | i, .cons k t kids r, a => by
    have hmap : ∀ (l : List (List Nat)) (a : Nat), (l.map (i :: ·)).foldl (fun m p => max m p.length) (a + 1) = l.foldl (fun m p => max m p.length) a + 1 := by
      intro l
      induction l with
      | nil => intro a; rfl
      | cons q l ih =>
        intro a
        simp only [List.map_cons, List.foldl_cons, List.length_cons]
        rw [show max (a + 1) (q.length + 1) = max a q.length + 1 by omega, ih]
    have h1 := Fo.paths_long 0 kids
    have h2 := Fo.paths_long (i + 1) r
    simp only [Fo.paths, List.foldl_append, List.map_cons, List.foldl_cons, List.length_cons, List.length_nil, Fo.deep]
    have e : max a (0 + 1) = (max a 1 - 1) + 1 := by omega
    rw [e, hmap, h1, h2]
    omega
theorem Nd.paths_long (x : Nd) : x.paths.foldl (fun m p => max m p.length) 0 + 1 = x.deep := by
  simp only [Nd.paths, List.foldl_cons, List.length_nil, Fo.paths_long, Nd.deep]
  omega
end Go.Proofs.YtbdkemgfdghbkaaDoor.nd
