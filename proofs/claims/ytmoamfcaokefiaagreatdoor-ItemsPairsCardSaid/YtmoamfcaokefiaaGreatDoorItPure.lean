/-
  ItPure: several texts in one, each with its own head.
-/
import Derived.Test.YtmoamfcaokefiaaGreatDoorSgSpec
import Derived.Test.YtmoamfcaokefiaaGreatDoorLxCut

/-
  Mathematics of layer 3's laws: what stands at the front, cut where it ends, is the same.
-/
namespace Go.Proofs.YtmoamfcaokefiaaGreatDoor.Sg

/-- What ends all: nothing, or a blank. -/
def brk (r : List UInt8) : Prop := r = [] ∨ ∃ t, r = 32 :: t
theorem brk.stop {r : List UInt8} (h : brk r) {p : Int → Bool} (hp : p 32 = false) : stop p r := by
  rcases h with rfl | ⟨t, rfl⟩
  · exact stop_nil p
  · exact stop_cons hp t
theorem brk.at' {r : List UInt8} (h : brk r) {p : Int → Bool} (hp : p 32 = false) : at' p r 0 = false := by
  rcases h with rfl | ⟨t, rfl⟩
  · rfl
  · simp [Sg.at', hp]

theorem run_take_app {p : Int → Bool} {r : List UInt8} (h : stop p r) (l : List UInt8) (k : Nat) (hk : k ≤ l.length) : run p (l.take k ++ r) = min k (run p l) := by
  induction l generalizing k with
  | nil => simp only [List.length_nil, Nat.le_zero] at hk; subst hk; simp [run_stop h, run]
  | cons b t ih =>
    cases k with
    | zero => simp [run_stop h]
    | succ k =>
      simp only [List.length_cons] at hk
      simp only [List.take_succ_cons, List.cons_append, run]
      split
      · rw [ih k (by omega)]; omega
      · simp
theorem at_take_lt (p : Int → Bool) (l r : List UInt8) {k j : Nat} (hk : k ≤ l.length) (hj : j < k) : at' p (l.take k ++ r) j = at' p l j := by
  unfold at'
  have e : (l.take k ++ r).getD j 0 = l.getD j 0 := by
    simp only [List.getD]
    rw [List.getElem?_append_left (by rw [List.length_take]; omega), List.getElem?_take_of_lt hj]
  rw [e]
  have h1 : j < (l.take k ++ r).length := by rw [List.length_append, List.length_take]; omega
  have h2 : j < l.length := by omega
  simp only [h1, h2, decide_true]
theorem at_take_eq (p : Int → Bool) (l r : List UInt8) {k : Nat} (hk : k ≤ l.length) : at' p (l.take k ++ r) k = at' p r 0 := by
  unfold at'
  have hl : (l.take k).length = k := by rw [List.length_take]; omega
  have e : (l.take k ++ r).getD k 0 = r.getD 0 0 := by
    simp only [List.getD]
    rw [List.getElem?_append_right (by rw [hl]; exact Nat.le_refl _), hl, Nat.sub_self]
  rw [e, List.length_append, hl]
  congr 2
  rw [eq_iff_iff]; omega
theorem drop_take_app (l r : List UInt8) {k j : Nat} (hk : k ≤ l.length) (hj : j ≤ k) : (l.take k ++ r).drop j = (l.drop j).take (k - j) ++ r := by
  rw [List.drop_append_of_le_length (by rw [List.length_take]; omega), List.drop_take]
theorem pre_take (l r o : List UInt8) {k : Nat} (hk : k ≤ l.length) (ho : o.length ≤ k) : Lib.hasPrefix (l.take k ++ r) o = Lib.hasPrefix l o := by
  unfold Lib.hasPrefix
  rw [Bool.eq_iff_iff, List.isPrefixOf_iff_prefix, List.isPrefixOf_iff_prefix]
  have hl : (l.take k).length = k := by rw [List.length_take]; omega
  constructor
  · intro h
    have : o <+: l.take k := List.prefix_of_prefix_length_le h (List.prefix_append _ _) (by omega)
    exact this.trans (List.take_prefix _ _)
  · intro h
    have : o <+: l.take k := List.prefix_of_prefix_length_le h (List.take_prefix _ _) (by omega)
    exact this.trans (List.prefix_append _ _)

theorem at_len {p : Int → Bool} {l : List UInt8} {k : Nat} (h : at' p l k = true) : k < l.length := by
  unfold at' at h; rw [Bool.and_eq_true, decide_eq_true_eq] at h; exact h.1

/-! Numbers. -/
theorem decimal_cut {l r : List UInt8} (h : brk r) {k : Nat} (h0 : decimal l ≠ 0) (hd : decimal l ≤ k) (hk : k ≤ l.length) : decimal (l.take k ++ r) = decimal l := by
  have hs : stop cD r := h.stop rfl
  have ha : run cD l ≤ k := by
    unfold decimal at hd h0
    split at hd
    · rename_i hp
      rw [if_pos hp] at h0
      split at hd
      · rename_i hz; rw [if_pos hz] at h0; exact absurd rfl h0
      · omega
    · exact hd
  have hr : run cD (l.take k ++ r) = run cD l := by rw [run_take_app hs l k hk]; omega
  unfold decimal at hd h0 ⊢
  rw [hr]
  by_cases hp : at' (· == 46) l (run cD l) = true
  · rw [if_pos hp] at hd h0 ⊢
    have hz : run cD l + run cD (l.drop (run cD l + 1)) ≠ 0 := fun hz => by rw [if_pos hz] at h0; exact h0 rfl
    rw [if_neg hz] at hd ⊢
    have hp' : at' (· == 46) (l.take k ++ r) (run cD l) = true := by rw [at_take_lt _ _ _ hk (by omega)]; exact hp
    rw [if_pos hp', drop_take_app l r hk (by omega), run_take_app hs _ _ (by rw [List.length_drop]; omega)]
    have e : min (k - (run cD l + 1)) (run cD (l.drop (run cD l + 1))) = run cD (l.drop (run cD l + 1)) := by omega
    rw [e, if_neg hz]
  · rw [if_neg hp] at hd h0 ⊢
    have hp' : at' (· == 46) (l.take k ++ r) (run cD l) = false := by
      rcases Nat.lt_or_ge (run cD l) k with hlt | hge
      · rw [at_take_lt _ _ _ hk hlt]; simpa using hp
      · have : run cD l = k := by omega
        rw [this, at_take_eq _ _ _ hk]
        exact h.at' rfl
    rw [hp']; rfl
theorem exponent_brk {r : List UInt8} (h : brk r) : exponent r = 0 := by unfold exponent; rw [h.at' rfl]; rfl
theorem exponent_cut {l r : List UInt8} (h : brk r) : exponent (l.take (exponent l) ++ r) = exponent l := by
  have hs : stop cD r := h.stop rfl
  have hl := exponent_le l
  by_cases h0 : exponent l = 0
  · rw [h0]; simpa using exponent_brk h
  · unfold exponent at h0
    split at h0
    · rename_i hp
      split at h0
      · exact absurd rfl h0
      · rename_i hd
        have e : exponent l = signs l + run cD (l.drop (signs l)) := by unfold exponent; rw [if_pos hp, if_neg hd]
        rw [e] at hl ⊢
        have hsg : 1 ≤ signs l := by unfold signs; split <;> omega
        have hp' : at' (fun n => n == 101 || n == 69) (l.take (signs l + run cD (l.drop (signs l))) ++ r) 0 = true := by rw [at_take_lt _ _ _ hl (by omega)]; exact hp
        have hsn : signs (l.take (signs l + run cD (l.drop (signs l))) ++ r) = signs l := by
          show (if at' (fun n => n == 43 || n == 45) (l.take (signs l + run cD (l.drop (signs l))) ++ r) 1 = true then 2 else 1) = signs l
          rw [at_take_lt _ _ _ hl (by omega)]; rfl
        unfold exponent
        rw [if_pos hp', hsn, drop_take_app l r hl (by omega), run_take_app hs _ _ (by rw [List.length_drop]; omega)]
        have e2 : min (signs l + run cD (l.drop (signs l)) - signs l) (run cD (l.drop (signs l))) = run cD (l.drop (signs l)) := by omega
        rw [e2, if_neg hd]
    · exact absurd rfl h0
theorem number_brk {r : List UInt8} (h : brk r) : number r = 0 := by
  have e : decimal r = 0 := by
    unfold decimal
    rw [run_stop (h.stop rfl), h.at' rfl]; rfl
  unfold number; rw [if_pos e]
theorem number_cut {l r : List UInt8} (h : brk r) : number (l.take (number l) ++ r) = number l := by
  have hl := number_le l
  by_cases h0 : decimal l = 0
  · have e : number l = 0 := by unfold number; rw [if_pos h0]
    rw [e]; simpa using number_brk h
  · have e : number l = decimal l + exponent (l.drop (decimal l)) := by unfold number; rw [if_neg h0]
    have hd : decimal (l.take (number l) ++ r) = decimal l := decimal_cut h h0 (by omega) hl
    have e2 : (l.take (number l) ++ r).drop (decimal l) = (l.drop (decimal l)).take (exponent (l.drop (decimal l))) ++ r := by
      rw [drop_take_app l r hl (by omega)]
      congr 2; omega
    have e3 : number (l.take (number l) ++ r) = decimal l + exponent ((l.take (number l) ++ r).drop (decimal l)) := by
      unfold number at hd ⊢
      rw [hd, if_neg h0]
    rw [e3, e2, exponent_cut h, e]

/-! Words. -/
theorem simple_pos {l : List UInt8} (h : simple l ≠ 0) : at' cL l 0 = true ∧ simple l = run cW l := by
  unfold simple at h ⊢
  split at h
  · rename_i hp; rw [if_pos hp]; exact ⟨hp, rfl⟩
  · exact absurd rfl h
theorem simple_brk {r : List UInt8} (h : brk r) : simple r = 0 := by unfold simple; rw [h.at' rfl]; rfl
theorem simple_cut {l r : List UInt8} (h : brk r) {k : Nat} (hk : k ≤ l.length) (hs : simple l ≤ k) : simple (l.take k ++ r) = simple l := by
  by_cases h0 : simple l = 0
  · rw [h0]
    unfold simple at h0 ⊢
    by_cases hp : at' cL l 0 = true
    · rw [if_pos hp] at h0
      have hl := at_len hp
      rw [drop_zero_run hp] at h0
      omega
    · have : at' cL (l.take k ++ r) 0 = false := by
        rcases Nat.eq_zero_or_pos k with rfl | hk0
        · rw [at_take_eq _ _ _ hk]; exact h.at' rfl
        · rw [at_take_lt _ _ _ hk hk0]; simpa using hp
      rw [this]; rfl
  · obtain ⟨hp, hr⟩ := simple_pos h0
    have hp' : at' cL (l.take k ++ r) 0 = true := by rw [at_take_lt _ _ _ hk (by omega)]; exact hp
    have e : simple (l.take k ++ r) = run cW (l.take k ++ r) := by unfold simple; rw [if_pos hp']
    rw [e, run_take_app (h.stop rfl) l k hk]
    omega
where
  drop_zero_run {l : List UInt8} (hp : at' cL l 0 = true) : run cW l = run cW (l.drop 1) + 1 := by
    cases l with
    | nil => simp [at'] at hp
    | cons b t =>
      have : cL (b.toNat : Int) = true := by simpa [at'] using hp
      simp [run, cW, this]
theorem further_brk {r : List UInt8} (h : brk r) : further r = 0 := by
  unfold further
  rcases h with rfl | ⟨t, rfl⟩
  · rfl
  · rfl
theorem further_cut {l r : List UInt8} (h : brk r) {k : Nat} (hk : k ≤ l.length) (h0 : further l ≠ 0) (hs : further l ≤ k) : further (l.take k ++ r) = further l := by
  unfold further at h0 hs ⊢
  by_cases hp : Lib.hasPrefix l [58, 58] = true
  · rw [if_pos hp] at h0 hs ⊢
    by_cases hz : simple (l.drop 2) = 0
    · rw [if_pos hz] at h0; exact absurd rfl h0
    · rw [if_neg hz] at hs ⊢
      have hl := pre_length hp
      simp only [List.length_cons, List.length_nil] at hl
      rw [pre_take l r _ hk (by simp; omega), if_pos hp, drop_take_app l r hk (by omega), simple_cut h (by rw [List.length_drop]; omega) (by omega), if_neg hz]
  · rw [if_neg hp] at h0; exact absurd rfl h0
theorem tail_eq (f : Nat) (x : List UInt8) : tail (f + 1) x = if further x = 0 then 0 else further x + tail f (x.drop (further x)) := rfl
theorem tail_cut {r : List UInt8} (h : brk r) (f : Nat) (l : List UInt8) : tail f (l.take (tail f l) ++ r) = tail f l := by
  induction f generalizing l with
  | zero => rfl
  | succ f ih =>
    have hl := tail_le (f + 1) l
    by_cases h0 : further l = 0
    · have e : tail (f + 1) l = 0 := by simp only [tail]; rw [if_pos h0]
      rw [e, List.take_zero, List.nil_append, tail_eq, if_pos (further_brk h)]
    · have e : tail (f + 1) l = further l + tail f (l.drop (further l)) := by simp only [tail]; rw [if_neg h0]
      have hf : further (l.take (tail (f + 1) l) ++ r) = further l := further_cut h hl h0 (by omega)
      have e2 : (l.take (tail (f + 1) l) ++ r).drop (further l) = (l.drop (further l)).take (tail f (l.drop (further l))) ++ r := by
        rw [drop_take_app l r hl (by omega)]
        congr 2; omega
      have e3 : tail (f + 1) (l.take (tail (f + 1) l) ++ r) = further l + tail f ((l.take (tail (f + 1) l) ++ r).drop (further l)) := by
        rw [tail_eq, hf, if_neg h0]
      rw [e3, e2, ih, e]
theorem word_brk {r : List UInt8} (h : brk r) : word r = 0 := by unfold word; rw [if_pos (simple_brk h)]
theorem word_cut {l r : List UInt8} (h : brk r) : word (l.take (word l) ++ r) = word l := by
  have hl := word_le l
  by_cases h0 : simple l = 0
  · have e : word l = 0 := by unfold word; rw [if_pos h0]
    rw [e]; simpa using word_brk h
  · have e : word l = simple l + tail l.length (l.drop (simple l)) := by unfold word; rw [if_neg h0]
    have hs : simple (l.take (word l) ++ r) = simple l := simple_cut h hl (by omega)
    have e2 : (l.take (word l) ++ r).drop (simple l) = (l.drop (simple l)).take (tail l.length (l.drop (simple l))) ++ r := by
      rw [drop_take_app l r hl (by omega)]
      congr 2; omega
    have e3 : ∀ x : List UInt8, word x = if simple x = 0 then 0 else simple x + tail x.length (x.drop (simple x)) := fun x => rfl
    have ht := tail_le l.length (l.drop (simple l))
    have hd : (l.drop (simple l)).length ≤ l.length := by rw [List.length_drop]; omega
    rw [e3 (l.take (word l) ++ r), hs, if_neg h0, e2]
    obtain ⟨M, hM⟩ : ∃ M, M = (l.take (word l) ++ r).length := ⟨_, rfl⟩
    rw [← hM]
    have hM2 : ((l.drop (simple l)).take (tail l.length (l.drop (simple l))) ++ r).length ≤ M := by
      rw [hM, List.length_append, List.length_append, List.length_take, List.length_take, List.length_drop]
      rw [List.length_drop] at ht
      omega
    rw [tail_fuel M (M + l.length) _ hM2 (by omega), e, tail_fuel l.length (M + l.length) (l.drop (simple l)) hd (by omega), tail_cut h]

/-! Escapes and operators. -/
theorem escape_cut (l : List UInt8) : escape (l.take (escape l)) = escape l := by
  have hl := escape_le l
  have key : ∀ k, k ≤ l.length → ∀ p j, j < k → at' p (l.take k) j = at' p l j := fun k hk p j hj => by
    have := at_take_lt p l [] hk hj
    rwa [List.append_nil] at this
  by_cases h1 : at' (· == 92) l 0 = true
  · by_cases h2 : at' cE l 1 = true
    · have e : escape l = 2 := by unfold escape; rw [if_pos h1, if_pos h2]
      rw [e] at hl ⊢
      unfold escape
      rw [key 2 hl _ 0 (by omega), key 2 hl _ 1 (by omega), if_pos h1, if_pos h2]
    · by_cases h3 : (at' (· == 117) l 1 && decide (4 ≤ run cH (l.drop 2))) = true
      · have e : escape l = 6 := by unfold escape; rw [if_pos h1, if_neg h2, if_pos h3]
        rw [e] at hl ⊢
        have hr : run cH ((l.take 6).drop 2) = 4 := by
          rw [List.drop_take, run_take]
          simp only [Bool.and_eq_true, decide_eq_true_eq] at h3
          omega
        unfold escape
        rw [key 6 hl _ 0 (by omega), key 6 hl _ 1 (by omega), key 6 hl _ 1 (by omega), if_pos h1, if_neg h2, hr]
        simp only [Bool.and_eq_true, decide_eq_true_eq] at h3
        rw [h3.1]; rfl
      · have e : escape l = 0 := by unfold escape; rw [if_pos h1, if_neg h2, if_neg h3]
        rw [e]; rfl
  · have e : escape l = 0 := by unfold escape; rw [if_neg h1]
    rw [e]; rfl
theorem oper_self : ∀ o ∈ opers, oper o = o.length := by decide +kernel
theorem oper_cut (l : List UInt8) : oper (l.take (oper l)) = oper l := by
  cases h : opers.find? (fun o => Lib.hasPrefix l o) with
  | none =>
    have e : oper l = 0 := by unfold oper; rw [h]
    rw [e]; rfl
  | some o =>
    have e : oper l = o.length := by unfold oper; rw [h]
    have hp := List.find?_some h
    have hm := List.mem_of_find?_eq_some h
    have : l.take o.length = o := by
      unfold Lib.hasPrefix at hp
      obtain ⟨t, rfl⟩ := List.isPrefixOf_iff_prefix.1 hp
      simp
    rw [e, this, oper_self o hm]

end Go.Proofs.YtmoamfcaokefiaaGreatDoor.Sg

/-
  Mathematics of layer 5: words, cut where they end, with anything behind that does not go on.
-/
namespace Go.Proofs.YtmoamfcaokefiaaGreatDoor.Sg
set_option linter.unusedVariables false

/-- What ends a word. -/
def Wd (r : List UInt8) : Prop := stop cW r ∧ Lib.hasPrefix r [58, 58] = false
theorem stop_at {p : Int → Bool} {r : List UInt8} (h : stop p r) : at' p r 0 = false := by
  cases r with
  | nil => rfl
  | cons b t => simp [at', h b rfl]
theorem stop_sub {p q : Int → Bool} {r : List UInt8} (h : stop p r) (hq : ∀ n, q n = true → p n = true) : stop q r := fun b hb => by
  cases hc : q (b.toNat : Int) with
  | false => rfl
  | true => have := h b hb; rw [hq _ hc] at this; cases this
theorem stop_L {r : List UInt8} (h : stop cW r) : stop cL r := stop_sub h LW0
theorem stop_D {r : List UInt8} (h : stop cW r) : stop cD r := stop_sub h (fun n e => by simp [cW, e])
theorem Wd.at' {r : List UInt8} (h : Wd r) : Sg.at' cL r 0 = false := stop_at (stop_L h.1)
theorem simpleW_none {r : List UInt8} (h : Wd r) : simple r = 0 := by unfold simple; rw [h.at']; rfl
theorem simpleW_cut {l r : List UInt8} (h : Wd r) {k : Nat} (hk : k ≤ l.length) (hs : simple l ≤ k) : simple (l.take k ++ r) = simple l := by
  by_cases h0 : simple l = 0
  · rw [h0]
    unfold simple at h0 ⊢
    by_cases hp : at' cL l 0 = true
    · rw [if_pos hp] at h0
      have hl := at_len hp
      rw [drop_zero_run hp] at h0
      omega
    · have : at' cL (l.take k ++ r) 0 = false := by
        rcases Nat.eq_zero_or_pos k with rfl | hk0
        · rw [at_take_eq _ _ _ hk]; exact h.at'
        · rw [at_take_lt _ _ _ hk hk0]; simpa using hp
      rw [this]; rfl
  · obtain ⟨hp, hr⟩ := simple_pos h0
    have hp' : at' cL (l.take k ++ r) 0 = true := by rw [at_take_lt _ _ _ hk (by omega)]; exact hp
    have e : simple (l.take k ++ r) = run cW (l.take k ++ r) := by unfold simple; rw [if_pos hp']
    rw [e, run_take_app h.1 l k hk]
    omega
where
  drop_zero_run {l : List UInt8} (hp : at' cL l 0 = true) : run cW l = run cW (l.drop 1) + 1 := by
    cases l with
    | nil => simp [at'] at hp
    | cons b t =>
      have : cL (b.toNat : Int) = true := by simpa [at'] using hp
      simp [run, cW, this]
theorem furtherW_none {r : List UInt8} (h : Wd r) : further r = 0 := by
  unfold further
  rw [if_neg (by rw [h.2]; decide)]
theorem furtherW_cut {l r : List UInt8} (h : Wd r) {k : Nat} (hk : k ≤ l.length) (h0 : further l ≠ 0) (hs : further l ≤ k) : further (l.take k ++ r) = further l := by
  unfold further at h0 hs ⊢
  by_cases hp : Lib.hasPrefix l [58, 58] = true
  · rw [if_pos hp] at h0 hs ⊢
    by_cases hz : simple (l.drop 2) = 0
    · rw [if_pos hz] at h0; exact absurd rfl h0
    · rw [if_neg hz] at hs ⊢
      have hl := pre_length hp
      simp only [List.length_cons, List.length_nil] at hl
      rw [pre_take l r _ hk (by simp; omega), if_pos hp, drop_take_app l r hk (by omega), simpleW_cut h (by rw [List.length_drop]; omega) (by omega), if_neg hz]
  · rw [if_neg hp] at h0; exact absurd rfl h0
theorem tailW_eq (f : Nat) (x : List UInt8) : tail (f + 1) x = if further x = 0 then 0 else further x + tail f (x.drop (further x)) := rfl
theorem tailW_cut {r : List UInt8} (h : Wd r) (f : Nat) (l : List UInt8) : tail f (l.take (tail f l) ++ r) = tail f l := by
  induction f generalizing l with
  | zero => rfl
  | succ f ih =>
    have hl := tail_le (f + 1) l
    by_cases h0 : further l = 0
    · have e : tail (f + 1) l = 0 := by simp only [tail]; rw [if_pos h0]
      rw [e, List.take_zero, List.nil_append, tailW_eq, if_pos (furtherW_none h)]
    · have e : tail (f + 1) l = further l + tail f (l.drop (further l)) := by simp only [tail]; rw [if_neg h0]
      have hf : further (l.take (tail (f + 1) l) ++ r) = further l := furtherW_cut h hl h0 (by omega)
      have e2 : (l.take (tail (f + 1) l) ++ r).drop (further l) = (l.drop (further l)).take (tail f (l.drop (further l))) ++ r := by
        rw [drop_take_app l r hl (by omega)]
        congr 2; omega
      have e3 : tail (f + 1) (l.take (tail (f + 1) l) ++ r) = further l + tail f ((l.take (tail (f + 1) l) ++ r).drop (further l)) := by
        rw [tailW_eq, hf, if_neg h0]
      rw [e3, e2, ih, e]
theorem wordW_none {r : List UInt8} (h : Wd r) : word r = 0 := by unfold word; rw [if_pos (simpleW_none h)]
theorem wordW_cut {l r : List UInt8} (h : Wd r) : word (l.take (word l) ++ r) = word l := by
  have hl := word_le l
  by_cases h0 : simple l = 0
  · have e : word l = 0 := by unfold word; rw [if_pos h0]
    rw [e]; simpa using wordW_none h
  · have e : word l = simple l + tail l.length (l.drop (simple l)) := by unfold word; rw [if_neg h0]
    have hs : simple (l.take (word l) ++ r) = simple l := simpleW_cut h hl (by omega)
    have e2 : (l.take (word l) ++ r).drop (simple l) = (l.drop (simple l)).take (tail l.length (l.drop (simple l))) ++ r := by
      rw [drop_take_app l r hl (by omega)]
      congr 2; omega
    have e3 : ∀ x : List UInt8, word x = if simple x = 0 then 0 else simple x + tail x.length (x.drop (simple x)) := fun x => rfl
    have ht := tail_le l.length (l.drop (simple l))
    have hd : (l.drop (simple l)).length ≤ l.length := by rw [List.length_drop]; omega
    rw [e3 (l.take (word l) ++ r), hs, if_neg h0, e2]
    obtain ⟨M, hM⟩ : ∃ M, M = (l.take (word l) ++ r).length := ⟨_, rfl⟩
    rw [← hM]
    have hM2 : ((l.drop (simple l)).take (tail l.length (l.drop (simple l))) ++ r).length ≤ M := by
      rw [hM, List.length_append, List.length_append, List.length_take, List.length_take, List.length_drop]
      rw [List.length_drop] at ht
      omega
    rw [tail_fuel M (M + l.length) _ hM2 (by omega), e, tail_fuel l.length (M + l.length) (l.drop (simple l)) hd (by omega), tailW_cut h]

end Go.Proofs.YtmoamfcaokefiaaGreatDoor.Sg

/-
  Mathematics of layer 5: a token's shape with more behind it.
-/
namespace Go.Proofs.YtmoamfcaokefiaaGreatDoor.Lx
open Go.RowKit (wrap64)
open Sg (run cB cW cD cL at' stop Wd)
set_option linter.unusedVariables false

theorem pre_h (b c : UInt8) (r : List UInt8) : Lib.hasPrefix (b :: r) [c] = decide (b = c) := by
  rw [Bool.eq_iff_iff, decide_eq_true_eq]
  unfold Lib.hasPrefix
  rw [List.isPrefixOf_iff_prefix]
  constructor
  · intro h
    obtain ⟨t, ht⟩ := h
    simp at ht
    exact ht.1.symm
  · rintro rfl
    exact ⟨r, rfl⟩
theorem run_h {p : Int → Bool} {b : UInt8} (h : p (b.toNat : Int) = false) (r : List UInt8) : run p (b :: r) = 0 := by simp [run, h]
theorem note_h {b : UInt8} (h : b ≠ 35) (r : List UInt8) : note (b :: r) = 0 := by unfold note; rw [pre_h]; simp [h]
theorem marked_h {b c : UInt8} (h : b ≠ c) (f : List UInt8 → Nat) (r : List UInt8) : marked [c] f (b :: r) = 0 := by unfold marked; rw [pre_h]; simp [h]
theorem marked_e (c : UInt8) (f : List UInt8 → Nat) (r : List UInt8) : marked [c] f (c :: r) = if f r = 0 then 0 else 1 + f r := by unfold marked; rw [pre_h]; simp
theorem just_h {b c : UInt8} (h : b ≠ c) (r : List UInt8) : just [c] (b :: r) = 0 := by unfold just; rw [pre_h]; simp [h]
theorem at_h (p : Int → Bool) (b : UInt8) (r : List UInt8) : at' p (b :: r) 0 = p (b.toNat : Int) := by simp [at']
theorem simple_h {b : UInt8} (h : cL (b.toNat : Int) = false) (r : List UInt8) : Sg.simple (b :: r) = 0 := by unfold Sg.simple; rw [at_h, h]; rfl
theorem word_h {b : UInt8} (h : cL (b.toNat : Int) = false) (r : List UInt8) : Sg.word (b :: r) = 0 := by unfold Sg.word; rw [simple_h h, if_pos rfl]
theorem number_h {b : UInt8} (h : cD (b.toNat : Int) = false) (h46 : b ≠ 46) (r : List UInt8) : Sg.number (b :: r) = 0 := by
  have : Sg.decimal (b :: r) = 0 := by
    unfold Sg.decimal
    rw [run_h h, at_h, if_neg]
    intro e
    exact h46 (UInt8.toNat_inj.1 (by have := beq_iff_eq.1 e; exact_mod_cast this))
  unfold Sg.number
  rw [this, if_pos rfl]
theorem simple_head {b : UInt8} {r : List UInt8} (h : Sg.simple (b :: r) ≠ 0) : cL (b.toNat : Int) = true := by
  cases hc : cL (b.toNat : Int) with
  | true => rfl
  | false => exact absurd (simple_h hc r) h
theorem word_head {b : UInt8} {r : List UInt8} (h : Sg.word (b :: r) ≠ 0) : cL (b.toNat : Int) = true := by
  cases hc : cL (b.toNat : Int) with
  | true => rfl
  | false => exact absurd (word_h hc r) h
theorem number_head {b : UInt8} {r : List UInt8} (h : Sg.number (b :: r) ≠ 0) : cD (b.toNat : Int) = true ∨ b = 46 := by
  cases hc : cD (b.toNat : Int) with
  | true => exact .inl rfl
  | false => exact .inr (Decidable.byContradiction fun e => h (number_h hc e r))

/-- Which of the shapes of outside it is. -/
theorem find_cases {l : List UInt8} {k : Int} {n : Nat} (h : find outside l = some (k, n)) : n ≠ 0 ∧
    ((k = 1 ∧ n = run cB l) ∨ (run cB l = 0 ∧ ((k = 2 ∧ n = note l) ∨ (note l = 0 ∧ ((k = 3 ∧ n = Sg.word l) ∨ (Sg.word l = 0 ∧ ((k = 4 ∧ n = marked [46] Sg.simple l) ∨ (marked [46] Sg.simple l = 0 ∧
      ((k = 5 ∧ n = marked [36] Sg.word l) ∨ (marked [36] Sg.word l = 0 ∧ ((k = 12 ∧ n = marked [64] (run cW) l) ∨ (marked [64] (run cW) l = 0 ∧ ((k = 6 ∧ n = Sg.number l) ∨ (Sg.number l = 0 ∧
        ((k = 7 ∧ n = just [34] l) ∨ (just [34] l = 0 ∧ (k = 13 ∧ n = Sg.oper l))))))))))))))))) := by
  refine ⟨(find_some h).1, ?_⟩
  simp only [outside, find] at h
  by_cases h1 : run cB l = 0
  · rw [if_pos h1] at h; refine .inr ⟨h1, ?_⟩
    by_cases h2 : note l = 0
    · rw [if_pos h2] at h; refine .inr ⟨h2, ?_⟩
      by_cases h3 : Sg.word l = 0
      · rw [if_pos h3] at h; refine .inr ⟨h3, ?_⟩
        by_cases h4 : marked [46] Sg.simple l = 0
        · rw [if_pos h4] at h; refine .inr ⟨h4, ?_⟩
          by_cases h5 : marked [36] Sg.word l = 0
          · rw [if_pos h5] at h; refine .inr ⟨h5, ?_⟩
            by_cases h6 : marked [64] (run cW) l = 0
            · rw [if_pos h6] at h; refine .inr ⟨h6, ?_⟩
              by_cases h7 : Sg.number l = 0
              · rw [if_pos h7] at h; refine .inr ⟨h7, ?_⟩
                by_cases h8 : just [34] l = 0
                · rw [if_pos h8] at h; refine .inr ⟨h8, ?_⟩
                  split at h
                  · cases h
                  · cases h; exact ⟨rfl, rfl⟩
                · rw [if_neg h8] at h; cases h; exact .inl ⟨rfl, rfl⟩
              · rw [if_neg h7] at h; cases h; exact .inl ⟨rfl, rfl⟩
            · rw [if_neg h6] at h; cases h; exact .inl ⟨rfl, rfl⟩
          · rw [if_neg h5] at h; cases h; exact .inl ⟨rfl, rfl⟩
        · rw [if_neg h4] at h; cases h; exact .inl ⟨rfl, rfl⟩
      · rw [if_neg h3] at h; cases h; exact .inl ⟨rfl, rfl⟩
    · rw [if_neg h2] at h; cases h; exact .inl ⟨rfl, rfl⟩
  · rw [if_neg h1] at h; cases h; exact .inl ⟨rfl, rfl⟩

/-- No letter has another head's number. -/
theorem not_L {b : UInt8} (h : cL (b.toNat : Int) = true) : cB (b.toNat : Int) = false ∧ b ≠ 35 ∧ b ≠ 46 ∧ b ≠ 36 ∧ b ≠ 64 ∧ b ≠ 34 ∧ b ≠ 58 ∧ b ≠ 41 ∧ cD (b.toNat : Int) = false := by
  have key : ∀ n : Nat, n < 256 → cL (n : Int) = true → cB (n : Int) = false ∧ n ≠ 35 ∧ n ≠ 46 ∧ n ≠ 36 ∧ n ≠ 64 ∧ n ≠ 34 ∧ n ≠ 58 ∧ n ≠ 41 ∧ cD (n : Int) = false := by decide +kernel
  obtain ⟨a0, a1, a2, a3, a4, a5, a6, a7, a8⟩ := key b.toNat b.toNat_lt h
  exact ⟨a0, fun e => a1 (by rw [e]; rfl), fun e => a2 (by rw [e]; rfl), fun e => a3 (by rw [e]; rfl), fun e => a4 (by rw [e]; rfl), fun e => a5 (by rw [e]; rfl), fun e => a6 (by rw [e]; rfl), fun e => a7 (by rw [e]; rfl), a8⟩
theorem not_D {b : UInt8} (h : cD (b.toNat : Int) = true) : cB (b.toNat : Int) = false ∧ b ≠ 35 ∧ b ≠ 46 ∧ b ≠ 36 ∧ b ≠ 64 ∧ b ≠ 34 ∧ b ≠ 58 ∧ b ≠ 41 ∧ cL (b.toNat : Int) = false := by
  have key : ∀ n : Nat, n < 256 → cD (n : Int) = true → cB (n : Int) = false ∧ n ≠ 35 ∧ n ≠ 46 ∧ n ≠ 36 ∧ n ≠ 64 ∧ n ≠ 34 ∧ n ≠ 58 ∧ n ≠ 41 ∧ cL (n : Int) = false := by decide +kernel
  obtain ⟨a0, a1, a2, a3, a4, a5, a6, a7, a8⟩ := key b.toNat b.toNat_lt h
  exact ⟨a0, fun e => a1 (by rw [e]; rfl), fun e => a2 (by rw [e]; rfl), fun e => a3 (by rw [e]; rfl), fun e => a4 (by rw [e]; rfl), fun e => a5 (by rw [e]; rfl), fun e => a6 (by rw [e]; rfl), fun e => a7 (by rw [e]; rfl), a8⟩
theorem marked_some {c : UInt8} {f : List UInt8 → Nat} {l : List UInt8} (h : marked [c] f l ≠ 0) : ∃ r, l = c :: r ∧ f r ≠ 0 ∧ marked [c] f l = 1 + f r := by
  cases l with
  | nil => exact absurd rfl h
  | cons b r =>
    by_cases e : b = c
    · subst e
      rw [marked_e] at h ⊢
      by_cases h0 : f r = 0
      · rw [if_pos h0] at h; exact absurd rfl h
      · rw [if_neg h0]; exact ⟨r, rfl, h0, rfl⟩
    · exact absurd (marked_h e f r) h
theorem simple_app {t q : List UInt8} (h : Sg.simple t = t.length) (hq : Wd q) : Sg.simple (t ++ q) = t.length := by
  have := Sg.simpleW_cut (l := t) hq (Nat.le_refl _) (by omega)
  rw [List.take_length] at this
  omega
theorem word_app {t q : List UInt8} (h : Sg.word t = t.length) (hq : Wd q) : Sg.word (t ++ q) = t.length := by
  have := Sg.wordW_cut (l := t) hq
  rw [h, List.take_length] at this
  exact this
theorem run_app {p : Int → Bool} {t q : List UInt8} (h : run p t = t.length) (hq : stop p q) : run p (t ++ q) = t.length := by
  rw [Sg.run_all h, Sg.run_stop hq]; rfl

/-- A word, and what ends it. -/
theorem ext3 {t q : List UInt8} (h : find outside t = some (3, t.length)) (hq : Wd q) : find outside (t ++ q) = some (3, t.length) := by
  obtain ⟨hn, hc⟩ := find_cases h
  rcases hc with ⟨e, _⟩ | ⟨_, ⟨e, _⟩ | ⟨_, ⟨_, hw⟩ | ⟨_, ⟨e, _⟩ | ⟨_, ⟨e, _⟩ | ⟨_, ⟨e, _⟩ | ⟨_, ⟨e, _⟩ | ⟨_, ⟨e, _⟩ | ⟨_, e, _⟩⟩⟩⟩⟩⟩⟩⟩
  all_goals first | cases e; done | skip
  have hr := word_app hw.symm hq
  cases t with
  | nil => exact absurd rfl hn
  | cons b r =>
    have hL := word_head (r := r) (by rw [← hw]; exact hn)
    obtain ⟨g1, g2, _⟩ := not_L hL
    rw [List.cons_append] at hr ⊢
    simp only [outside, find]
    rw [if_pos (run_h g1 _), if_pos (note_h g2 _), if_neg (by rw [hr]; exact hn), hr]
theorem ext4 {t q : List UInt8} (h : find outside t = some (4, t.length)) (hq : Wd q) : find outside (t ++ q) = some (4, t.length) := by
  obtain ⟨hn, hc⟩ := find_cases h
  rcases hc with ⟨e, _⟩ | ⟨_, ⟨e, _⟩ | ⟨_, ⟨e, _⟩ | ⟨_, ⟨_, hw⟩ | ⟨_, ⟨e, _⟩ | ⟨_, ⟨e, _⟩ | ⟨_, ⟨e, _⟩ | ⟨_, ⟨e, _⟩ | ⟨_, e, _⟩⟩⟩⟩⟩⟩⟩⟩
  all_goals first | cases e; done | skip
  obtain ⟨r, rfl, h0, h1⟩ := marked_some (show marked [46] Sg.simple t ≠ 0 by rw [← hw]; exact hn)
  rw [h1, List.length_cons] at hw
  have hr := simple_app (t := r) (q := q) (by omega) hq
  rw [List.cons_append]
  simp only [outside, find]
  have hm : marked [46] Sg.simple (46 :: (r ++ q)) = 1 + r.length := by rw [marked_e, hr, if_neg (by omega : ¬ r.length = 0)]
  rw [if_pos (run_h (by decide) _), if_pos (note_h (by decide) _), if_pos (word_h (by decide) _), if_neg (by rw [hm]; omega), hm, List.length_cons, Nat.add_comm]
theorem ext5 {t q : List UInt8} (h : find outside t = some (5, t.length)) (hq : Wd q) : find outside (t ++ q) = some (5, t.length) := by
  obtain ⟨hn, hc⟩ := find_cases h
  rcases hc with ⟨e, _⟩ | ⟨_, ⟨e, _⟩ | ⟨_, ⟨e, _⟩ | ⟨_, ⟨e, _⟩ | ⟨_, ⟨_, hw⟩ | ⟨_, ⟨e, _⟩ | ⟨_, ⟨e, _⟩ | ⟨_, ⟨e, _⟩ | ⟨_, e, _⟩⟩⟩⟩⟩⟩⟩⟩
  all_goals first | cases e; done | skip
  obtain ⟨r, rfl, h0, h1⟩ := marked_some (show marked [36] Sg.word t ≠ 0 by rw [← hw]; exact hn)
  rw [h1, List.length_cons] at hw
  have hr := word_app (t := r) (q := q) (by omega) hq
  have hm : marked [36] Sg.word (36 :: (r ++ q)) = 1 + r.length := by rw [marked_e, hr, if_neg (by omega : ¬ r.length = 0)]
  rw [List.cons_append]
  simp only [outside, find]
  rw [if_pos (run_h (by decide) _), if_pos (note_h (by decide) _), if_pos (word_h (by decide) _), if_pos (marked_h (by decide) _ _), if_neg (by rw [hm]; omega), hm, List.length_cons, Nat.add_comm]
theorem ext12 {t q : List UInt8} (h : find outside t = some (12, t.length)) (hq : Wd q) : find outside (t ++ q) = some (12, t.length) := by
  obtain ⟨hn, hc⟩ := find_cases h
  rcases hc with ⟨e, _⟩ | ⟨_, ⟨e, _⟩ | ⟨_, ⟨e, _⟩ | ⟨_, ⟨e, _⟩ | ⟨_, ⟨e, _⟩ | ⟨_, ⟨_, hw⟩ | ⟨_, ⟨e, _⟩ | ⟨_, ⟨e, _⟩ | ⟨_, e, _⟩⟩⟩⟩⟩⟩⟩⟩
  all_goals first | cases e; done | skip
  obtain ⟨r, rfl, h0, h1⟩ := marked_some (show marked [64] (run cW) t ≠ 0 by rw [← hw]; exact hn)
  rw [h1, List.length_cons] at hw
  have hr := run_app (p := cW) (t := r) (q := q) (by omega) hq.1
  have hm : marked [64] (run cW) (64 :: (r ++ q)) = 1 + r.length := by rw [marked_e, hr, if_neg (by omega : ¬ r.length = 0)]
  rw [List.cons_append]
  simp only [outside, find]
  rw [if_pos (run_h (by decide) _), if_pos (note_h (by decide) _), if_pos (word_h (by decide) _), if_pos (marked_h (by decide) _ _), if_pos (marked_h (by decide) _ _), if_neg (by rw [hm]; omega), hm, List.length_cons, Nat.add_comm]

/-! Numbers. -/
theorem at_app_lt (p : Int → Bool) (t q : List UInt8) {k : Nat} (h : k < t.length) : at' p (t ++ q) k = at' p t k := by
  have := Sg.at_take_lt p t q (k := t.length) (j := k) (Nat.le_refl _) h
  rwa [List.take_length] at this
theorem at_app_eq (p : Int → Bool) (t q : List UInt8) : at' p (t ++ q) t.length = at' p q 0 := by
  have := Sg.at_take_eq p t q (k := t.length) (Nat.le_refl _)
  rwa [List.take_length] at this
theorem drop_app_le (t q : List UInt8) {j : Nat} (h : j ≤ t.length) : (t ++ q).drop j = t.drop j ++ q := List.drop_append_of_le_length h
theorem run_app_lt {p : Int → Bool} {t q : List UInt8} (hq : stop p q) : run p (t ++ q) = run p t := by
  have := Sg.run_take_app hq t t.length (Nat.le_refl _)
  rw [List.take_length] at this
  have hl := Sg.run_le p t
  omega
theorem exp_none {q : List UInt8} (hq : stop cW q) : Sg.exponent q = 0 := by
  unfold Sg.exponent
  rw [Sg.stop_at (Sg.stop_sub hq (q := fun n => n == 101 || n == 69) (fun n e => by
    simp only [Bool.or_eq_true, beq_iff_eq] at e
    rcases e with rfl | rfl <;> decide))]
  rfl
theorem decimal_app {t q : List UInt8} (hq : stop cW q) (h0 : Sg.decimal t ≠ 0) (hd : Sg.decimal t < t.length ∨ (run cD t = t.length → at' (· == 46) q 0 = false)) : Sg.decimal (t ++ q) = Sg.decimal t := by
  have hD : stop cD q := Sg.stop_D hq
  have hr : run cD (t ++ q) = run cD t := run_app_lt hD
  have hl := Sg.run_le cD t
  unfold Sg.decimal at h0 hd ⊢
  rw [hr]
  by_cases hp : at' (· == 46) t (run cD t) = true
  · have hlt := Sg.at_len hp
    rw [at_app_lt _ _ _ hlt, hp, if_pos rfl, if_pos rfl, drop_app_le _ _ (by omega), run_app_lt hD]
  · rw [if_neg hp] at h0 hd
    rw [if_neg hp]
    by_cases hlt : run cD t < t.length
    · rw [at_app_lt _ _ _ hlt, if_neg hp]
    · have he : run cD t = t.length := by omega
      have h46 := (hd.resolve_left (by omega)) he
      rw [he, at_app_eq, h46]
      simp
theorem exp_app {t q : List UInt8} (hq : stop cW q) (h0 : t ≠ []) (h : Sg.exponent t = t.length) : Sg.exponent (t ++ q) = t.length := by
  have hpos : 0 < t.length := List.length_pos_iff.2 h0
  unfold Sg.exponent at h ⊢
  by_cases he : at' (fun n => n == 101 || n == 69) t 0 = true
  · rw [if_pos he] at h
    rw [at_app_lt _ _ _ hpos, he, if_pos rfl]
    by_cases hz : run cD (t.drop (Sg.signs t)) = 0
    · rw [if_pos hz] at h; omega
    · rw [if_neg hz] at h
      have h1 : 1 ≤ Sg.signs t := by unfold Sg.signs; split <;> omega
      have hs : Sg.signs (t ++ q) = Sg.signs t := by unfold Sg.signs; rw [at_app_lt _ _ _ (by omega)]
      rw [hs, drop_app_le _ _ (by omega), run_app_lt (Sg.stop_D hq), if_neg hz, h]
  · rw [if_neg he] at h; omega
theorem number_app {t q : List UInt8} (hq : stop cW q) (h0 : t ≠ []) (h : Sg.number t = t.length) (hd : run cD t = t.length → at' (· == 46) q 0 = false) : Sg.number (t ++ q) = t.length := by
  have hpos : 0 < t.length := List.length_pos_iff.2 h0
  unfold Sg.number at h ⊢
  have hl := Sg.decimal_le t
  by_cases hz : Sg.decimal t = 0
  · rw [if_pos hz] at h; omega
  · rw [if_neg hz] at h
    rw [decimal_app hq hz (.inr hd), if_neg hz, drop_app_le _ _ hl]
    by_cases he : t.drop (Sg.decimal t) = []
    · have := congrArg List.length he
      rw [List.length_drop, List.length_nil] at this
      rw [he, List.nil_append, exp_none hq]; omega
    · rw [exp_app hq he (by rw [List.length_drop]; omega), List.length_drop]; omega
theorem number_dot {r : List UInt8} (h : Sg.number (46 :: r) ≠ 0) : Sg.simple r = 0 ∧ r ≠ [] := by
  have hd : run cD r ≠ 0 := by
    intro hz
    have : Sg.decimal (46 :: r) = 0 := by
      have h1 : run cD ((46 : UInt8) :: r) = 0 := run_h (by decide) r
      unfold Sg.decimal
      rw [h1, at_h, if_pos (by decide)]
      simp [hz]
    apply h
    unfold Sg.number
    rw [this, if_pos rfl]
  cases r with
  | nil => exact absurd rfl hd
  | cons b r =>
    refine ⟨?_, by simp⟩
    have hb : cD (b.toNat : Int) = true := by
      cases hc : cD (b.toNat : Int) with
      | true => rfl
      | false => exact absurd (run_h hc r) hd
    exact simple_h (not_D hb).2.2.2.2.2.2.2.2 r
theorem ext6 {t q : List UInt8} (h : find outside t = some (6, t.length)) (hq : stop cW q) (hd : run cD t = t.length → at' (· == 46) q 0 = false) : find outside (t ++ q) = some (6, t.length) := by
  obtain ⟨hn, hc⟩ := find_cases h
  rcases hc with ⟨e, _⟩ | ⟨_, ⟨e, _⟩ | ⟨_, ⟨e, _⟩ | ⟨_, ⟨e, _⟩ | ⟨h4, ⟨e, _⟩ | ⟨_, ⟨e, _⟩ | ⟨_, ⟨_, hw⟩ | ⟨_, ⟨e, _⟩ | ⟨_, e, _⟩⟩⟩⟩⟩⟩⟩⟩
  all_goals first | cases e; done | skip
  have ht : t ≠ [] := fun e => hn (by rw [e]; rfl)
  have hr := number_app hq ht hw.symm hd
  cases t with
  | nil => exact absurd rfl ht
  | cons b r =>
    rw [List.cons_append] at hr ⊢
    rcases number_head (r := r) (by rw [← hw]; exact hn) with hD | rfl
    · obtain ⟨g1, g2, g3, g4, g5, g6, _, _, g9⟩ := not_D hD
      simp only [outside, find]
      rw [if_pos (run_h g1 _), if_pos (note_h g2 _), if_pos (word_h g9 _), if_pos (marked_h g3 _ _), if_pos (marked_h g4 _ _), if_pos (marked_h g5 _ _), if_neg (by rw [hr]; exact hn), hr]
    · obtain ⟨hs, hne⟩ := number_dot (r := r) (by rw [← hw]; exact hn)
      have hs2 : Sg.simple (r ++ q) = 0 := by
        cases r with
        | nil => exact absurd rfl hne
        | cons b r =>
          cases hc : cL (b.toNat : Int) with
          | false => exact simple_h hc _
          | true =>
            unfold Sg.simple at hs
            rw [at_h, hc, if_pos rfl] at hs
            simp [run, Sg.LW0 _ hc] at hs
      simp only [outside, find]
      rw [if_pos (run_h (by decide) _), if_pos (note_h (by decide) _), if_pos (word_h (by decide) _), if_pos (show marked [46] Sg.simple (46 :: (r ++ q)) = 0 by rw [marked_e, hs2, if_pos rfl]), if_pos (marked_h (by decide) _ _), if_pos (marked_h (by decide) _ _), if_neg (by rw [hr]; exact hn), hr]

/-! Operators. -/
theorem oper_mem {l : List UInt8} (h : Sg.oper l ≠ 0) : ∃ o ∈ Sg.opers, Lib.hasPrefix l o = true ∧ Sg.oper l = o.length := by
  unfold Sg.oper at h ⊢
  cases hf : Sg.opers.find? (fun o => Lib.hasPrefix l o) with
  | none => rw [hf] at h; exact absurd rfl h
  | some o => exact ⟨o, List.mem_of_find?_eq_some hf, List.find?_some hf, rfl⟩
theorem oper_full {t : List UInt8} (h0 : t ≠ []) (h : Sg.oper t = t.length) : t ∈ Sg.opers := by
  obtain ⟨o, ho, hp, hl⟩ := oper_mem (l := t) (by rw [h]; intro e; exact h0 (List.length_eq_zero_iff.1 e))
  unfold Lib.hasPrefix at hp
  obtain ⟨r, hr⟩ := List.isPrefixOf_iff_prefix.1 hp
  have : r = [] := List.length_eq_zero_iff.1 (by rw [← hr, List.length_append] at h; rw [← hr] at hl; rw [hl] at h; omega)
  rw [this, List.append_nil] at hr
  rw [← hr]; exact ho
theorem opers_head : ∀ o ∈ Sg.opers, ∃ b r, o = b :: r ∧ cB (b.toNat : Int) = false ∧ b ≠ 35 ∧ cL (b.toNat : Int) = false ∧ b ≠ 36 ∧ b ≠ 64 ∧ b ≠ 34 ∧ cD (b.toNat : Int) = false ∧ (b = 46 → r = [] ∨ r = [46]) := by
  have key : ∀ o ∈ Sg.opers, o ≠ [] ∧ cB ((o.headD 0).toNat : Int) = false ∧ o.headD 0 ≠ 35 ∧ cL ((o.headD 0).toNat : Int) = false ∧ o.headD 0 ≠ 36 ∧ o.headD 0 ≠ 64 ∧ o.headD 0 ≠ 34 ∧ cD ((o.headD 0).toNat : Int) = false ∧ (o.headD 0 = 46 → o.drop 1 = [] ∨ o.drop 1 = [46]) := by decide +kernel
  intro o ho
  cases o with
  | nil => exact absurd rfl (key [] ho).1
  | cons b r => exact ⟨b, r, rfl, (key _ ho).2⟩
theorem number_dots (q : List UInt8) : Sg.number (46 :: 46 :: q) = 0 := by
  have : Sg.decimal (46 :: 46 :: q) = 0 := by
    have h1 : run cD ((46 : UInt8) :: 46 :: q) = 0 := run_h (by decide) _
    have h2 : run cD ((46 : UInt8) :: q) = 0 := run_h (by decide) _
    unfold Sg.decimal
    rw [h1, at_h, if_pos (by decide)]
    simp [h2]
  unfold Sg.number
  rw [this, if_pos rfl]
theorem number_dot0 {q : List UInt8} (hq : stop cD q) : Sg.number (46 :: q) = 0 := by
  have : Sg.decimal (46 :: q) = 0 := by
    have h1 : run cD ((46 : UInt8) :: q) = 0 := run_h (by decide) _
    unfold Sg.decimal
    rw [h1, at_h, if_pos (by decide)]
    simp [Sg.run_stop hq]
  unfold Sg.number
  rw [this, if_pos rfl]
theorem ext13 {t q : List UInt8} (h : find outside t = some (13, t.length)) (hq : t = [46] → stop cW q) (ho : Sg.oper (t ++ q) = t.length) : find outside (t ++ q) = some (13, t.length) := by
  obtain ⟨hn, hc⟩ := find_cases h
  rcases hc with ⟨e, _⟩ | ⟨_, ⟨e, _⟩ | ⟨_, ⟨e, _⟩ | ⟨_, ⟨e, _⟩ | ⟨_, ⟨e, _⟩ | ⟨_, ⟨e, _⟩ | ⟨_, ⟨e, _⟩ | ⟨_, ⟨e, _⟩ | ⟨_, _, hw⟩⟩⟩⟩⟩⟩⟩⟩
  all_goals first | cases e; done | skip
  have ht : t ≠ [] := fun e => hn (by rw [e]; rfl)
  obtain ⟨b, r, rfl, g1, g2, g3, g4, g5, g6, g7, g8⟩ := opers_head t (oper_full ht hw.symm)
  rw [List.cons_append] at ho ⊢
  by_cases h46 : b = 46
  · subst h46
    rcases g8 rfl with rfl | rfl
    · have hs := hq rfl
      have e1 : Sg.simple q = 0 := by unfold Sg.simple; rw [Sg.stop_at (Sg.stop_L hs)]; rfl
      simp only [List.nil_append] at ho ⊢
      simp only [outside, find]
      rw [if_pos (run_h g1 _), if_pos (note_h g2 _), if_pos (word_h g3 _), if_pos (show marked [46] Sg.simple (46 :: q) = 0 by rw [marked_e, e1, if_pos rfl]), if_pos (marked_h g4 _ _), if_pos (marked_h g5 _ _), if_pos (number_dot0 (Sg.stop_D hs)), if_pos (just_h g6 _), if_neg (by rw [ho]; exact hn), ho]
    · simp only [List.cons_append, List.nil_append] at ho ⊢
      simp only [outside, find]
      rw [if_pos (run_h g1 _), if_pos (note_h g2 _), if_pos (word_h g3 _), if_pos (show marked [46] Sg.simple (46 :: 46 :: q) = 0 by rw [marked_e, simple_h (by decide), if_pos rfl]), if_pos (marked_h g4 _ _), if_pos (marked_h g5 _ _), if_pos (number_dots _), if_pos (just_h g6 _), if_neg (by rw [ho]; exact hn), ho]
  · simp only [outside, find]
    rw [if_pos (run_h g1 _), if_pos (note_h g2 _), if_pos (word_h g3 _), if_pos (marked_h h46 _ _), if_pos (marked_h g4 _ _), if_pos (marked_h g5 _ _), if_pos (number_h g7 h46 _), if_pos (just_h g6 _), if_neg (by rw [ho]; exact hn), ho]
/-- No operator that goes on: it is the same. -/
theorem oper_app {t q : List UInt8} (h : Sg.oper t = t.length) (hno : ∀ o ∈ Sg.opers, Lib.hasPrefix (t ++ q) o = true → o.length ≤ t.length) : Sg.oper (t ++ q) = t.length := by
  have hle : Sg.oper (t ++ q) ≤ t.length := by
    by_cases h0 : Sg.oper (t ++ q) = 0
    · omega
    · obtain ⟨o, ho, hp, hl⟩ := oper_mem h0
      rw [hl]; exact hno o ho hp
  have := keeps_oper (t ++ q) t.length hle
  rw [List.take_left] at this
  rw [← this]; exact h
end Go.Proofs.YtmoamfcaokefiaaGreatDoor.Lx

/-
  Mathematics of layer 5: a row of tokens, with a blank where two are not tight, has the same tokens.
-/
namespace Go.Proofs.YtmoamfcaokefiaaGreatDoor.Lx
open Go.RowKit (wrap64)
open Sg (run cB cW cD cL at' stop Wd)
set_option linter.unusedVariables false

theorem stop_hd {p : Int → Bool} {l : List UInt8} (h : stop p l) (h0 : l ≠ []) (r : List UInt8) : stop p (l ++ r) := by
  cases l with
  | nil => exact absurd rfl h0
  | cons b t => exact Sg.stop_cons (h b rfl) _
theorem opers_tail : ∀ o ∈ Sg.opers, ∀ b ∈ o.drop 1, b ≠ 32 ∧ b ≠ 34 ∧ b ≠ 41 := by decide +kernel
theorem opers_long : ∀ o ∈ Sg.opers, o.length ≤ 3 ∧ (o.length = 3 → o = [63, 47, 47] ∨ o = [47, 47, 61]) := by decide +kernel
theorem opers_order : Sg.opers.Pairwise (fun p o => ¬ ((p.isPrefixOf o && decide (p.length < o.length)) = true)) := by decide +kernel
theorem oper_max {l o : List UInt8} (ho : o ∈ Sg.opers) (hp : Lib.hasPrefix l o = true) : o.length ≤ Sg.oper l := by
  unfold Sg.oper
  cases hf : Sg.opers.find? (fun o => Lib.hasPrefix l o) with
  | none => exact absurd hp (by simpa using List.find?_eq_none.1 hf o ho)
  | some p =>
    obtain ⟨h1, as, bs, h2, h3⟩ := List.find?_eq_some_iff_append.1 hf
    have hpw := opers_order
    rw [h2] at ho hpw
    rcases List.mem_append.1 ho with h | h
    · have := h3 o h; rw [hp] at this; cases this
    · rcases List.mem_cons.1 h with rfl | h
      · exact Nat.le_refl _
      · have h4 := (List.pairwise_cons.1 (List.pairwise_append.1 hpw).2.1).1 o h
        unfold Lib.hasPrefix at h1 hp
        rw [List.isPrefixOf_iff_prefix] at h1 hp
        show o.length ≤ p.length
        rcases Nat.lt_or_ge p.length o.length with hlt | hge
        · exfalso
          apply h4
          rw [Bool.and_eq_true, decide_eq_true_eq, List.isPrefixOf_iff_prefix]
          exact ⟨List.prefix_of_prefix_length_le h1 hp (by omega), hlt⟩
        · exact hge
theorem find_L {b : UInt8} (h : cL (b.toNat : Int) = true) (r : List UInt8) : ∃ n, find outside (b :: r) = some (3, n) := by
  obtain ⟨g1, g2, _⟩ := not_L h
  have hw : Sg.word (b :: r) ≠ 0 := by
    have hs : Sg.simple (b :: r) ≠ 0 := by
      unfold Sg.simple
      rw [at_h, h, if_pos rfl]
      simp [run, Sg.LW0 _ h]
    unfold Sg.word
    rw [if_neg hs]; omega
  refine ⟨Sg.word (b :: r), ?_⟩
  simp only [outside, find]
  rw [if_pos (run_h g1 _), if_pos (note_h g2 _), if_neg hw]
theorem find_D {b : UInt8} (h : cD (b.toNat : Int) = true) (r : List UInt8) : ∃ n, find outside (b :: r) = some (6, n) := by
  obtain ⟨g1, g2, g3, g4, g5, g6, _, _, g9⟩ := not_D h
  have hn : Sg.number (b :: r) ≠ 0 := by
    have hr : run cD (b :: r) ≠ 0 := by simp [run, h]
    have hd : Sg.decimal (b :: r) ≠ 0 := by
      unfold Sg.decimal
      split
      · rw [if_neg (by omega)]; omega
      · exact hr
    unfold Sg.number
    rw [if_neg hd]; omega
  refine ⟨Sg.number (b :: r), ?_⟩
  simp only [outside, find]
  rw [if_pos (run_h g1 _), if_pos (note_h g2 _), if_pos (word_h g9 _), if_pos (marked_h g3 _ _), if_pos (marked_h g4 _ _), if_pos (marked_h g5 _ _), if_neg hn]
theorem find_colon (r : List UInt8) : find outside (58 :: r) = some (13, 1) := rfl
theorem find_quote (r : List UInt8) : find outside (34 :: r) = some (7, 1) := rfl

/-- Behind what stands there: a blank, a quote, a closing bracket. -/
theorem ext_end {t : List UInt8} {k : Int} (h : find outside t = some (k, t.length)) (h1 : k ≠ 1) (h2 : k ≠ 2) {c : UInt8} (hc : c = 32 ∨ c = 34 ∨ c = 41) (q : List UInt8) : find outside (t ++ c :: q) = some (k, t.length) := by
  have hw : Wd (c :: q) := by
    constructor
    · refine Sg.stop_cons ?_ q
      rcases hc with rfl | rfl | rfl <;> decide
    · rcases hc with rfl | rfl | rfl <;> rfl
  have h46 : at' (· == 46) (c :: q) 0 = false := by
    rw [at_h]
    rcases hc with rfl | rfl | rfl <;> decide
  obtain ⟨hn, hcs⟩ := find_cases h
  have ht : t ≠ [] := fun e => hn (by rw [e]; rfl)
  rcases hcs with ⟨e, _⟩ | ⟨_, ⟨e, _⟩ | ⟨_, ⟨e, _⟩ | ⟨_, ⟨e, _⟩ | ⟨_, ⟨e, _⟩ | ⟨_, ⟨e, _⟩ | ⟨_, ⟨e, _⟩ | ⟨_, ⟨e, hq⟩ | ⟨_, e, ho⟩⟩⟩⟩⟩⟩⟩⟩
  · exact absurd e h1
  · exact absurd e h2
  · subst e; exact ext3 h hw
  · subst e; exact ext4 h hw
  · subst e; exact ext5 h hw
  · subst e; exact ext12 h hw
  · subst e; exact ext6 h hw.1 (fun _ => h46)
  · subst e
    cases t with
    | nil => exact absurd rfl ht
    | cons b r =>
      have hb : b = 34 := Decidable.byContradiction fun e => hn (by rw [hq]; exact just_h e r)
      subst hb
      rw [find_quote] at h
      rw [List.cons_append, find_quote]
      simpa using h
  · subst e
    refine ext13 h (fun _ => hw.1) (oper_app ho.symm (fun o hm hp => ?_))
    rcases Nat.lt_or_ge t.length o.length with hlt | hge
    · exfalso
      unfold Lib.hasPrefix at hp
      rw [List.isPrefixOf_iff_prefix] at hp
      have h3 : t ++ [c] <+: t ++ c :: q := by rw [show c :: q = [c] ++ q from rfl, ← List.append_assoc]; exact List.prefix_append _ _
      have h4 : t ++ [c] <+: o := List.prefix_of_prefix_length_le h3 hp (by simp; omega)
      obtain ⟨z, hz⟩ := h4
      have h5 : c ∈ o.drop 1 := by
        rw [← hz]
        cases t with
        | nil => exact absurd rfl ht
        | cons b r => simp
      have := opers_tail o hm c h5
      rcases hc with rfl | rfl | rfl
      · exact this.1 rfl
      · exact this.2.1 rfl
      · exact this.2.2 rfl
    · exact hge
theorem further_stop {l : List UInt8} (h : Sg.further l ≠ 0) : stop cW (l.drop (Sg.further l)) := by
  unfold Sg.further at h ⊢
  by_cases hp : Lib.hasPrefix l [58, 58] = true
  · rw [if_pos hp] at h ⊢
    by_cases hz : Sg.simple (l.drop 2) = 0
    · rw [if_pos hz] at h; exact absurd rfl h
    · rw [if_neg hz]
      rw [← List.drop_drop, (Sg.simple_pos hz).2]
      exact Sg.run_drop_stop _ _
  · rw [if_neg hp] at h; exact absurd rfl h
theorem tail_stop (f : Nat) (l : List UInt8) (h : stop cW l) : stop cW (l.drop (Sg.tail f l)) := by
  induction f generalizing l with
  | zero => exact h
  | succ f ih =>
    simp only [Sg.tail]
    by_cases h0 : Sg.further l = 0
    · rw [if_pos h0]; exact h
    · rw [if_neg h0, ← List.drop_drop]; exact ih _ (further_stop h0)
theorem word_stop {l : List UInt8} (h : Sg.word l ≠ 0) : stop cW (l.drop (Sg.word l)) := by
  unfold Sg.word at h ⊢
  by_cases h0 : Sg.simple l = 0
  · rw [if_pos h0] at h; exact absurd rfl h
  · rw [if_neg h0, ← List.drop_drop]
    refine tail_stop _ _ ?_
    rw [(Sg.simple_pos h0).2]
    exact Sg.run_drop_stop _ _
theorem drop_len (t b : List UInt8) : (t ++ b).drop t.length = b := by simp
/-- What stands behind a token is told by its own head. -/
theorem ext_tok {k j : Int} {t b r : List UInt8} (ht : find outside t = some (k, t.length)) (h1 : k ≠ 1) (h2 : k ≠ 2) (hb : find outside b = some (j, b.length)) (hf : find outside (t ++ b) = some (k, t.length))
    (hn : ¬ (k = 6 ∧ (j = 6 ∨ j = 3))) (h58 : b = [58] → r.head? ≠ some 58) (h47 : b = [47] → r.head? ≠ some 47) : find outside (t ++ (b ++ r)) = some (k, t.length) := by
  obtain ⟨hb0, _⟩ := find_cases hb
  have hbn : b ≠ [] := fun e => hb0 (by rw [e]; rfl)
  have hp58 : Lib.hasPrefix (b ++ r) [58, 58] = false := by
    cases b with
    | nil => exact absurd rfl hbn
    | cons c b' =>
      by_cases hc : c = 58
      · subst hc
        rw [find_colon] at hb
        have hb' : b' = [] := by
          have := congrArg (fun o => (o.getD (0, 0)).2) hb
          simp at this
          exact this
        subst hb'
        have := h58 rfl
        cases r with
        | nil => rfl
        | cons d r' =>
          simp at this
          simp [Lib.hasPrefix, List.isPrefixOf, Ne.symm this]
      · simp [Lib.hasPrefix, List.isPrefixOf, Ne.symm hc]
  have hwd : stop cW b → Wd (b ++ r) := fun h => ⟨stop_hd h hbn r, hp58⟩
  obtain ⟨hn0, hcs⟩ := find_cases hf
  have htn : t ≠ [] := fun e => hn0 (by rw [e]; rfl)
  rcases hcs with ⟨e, _⟩ | ⟨_, ⟨e, _⟩ | ⟨_, ⟨e, hw⟩ | ⟨_, ⟨e, hw⟩ | ⟨h4, ⟨e, hw⟩ | ⟨_, ⟨e, hw⟩ | ⟨_, ⟨e, hw⟩ | ⟨h6, ⟨e, hw⟩ | ⟨_, e, hw⟩⟩⟩⟩⟩⟩⟩⟩
  · exact absurd e h1
  · exact absurd e h2
  · subst e
    have := word_stop (l := t ++ b) (by rw [← hw]; exact hn0)
    rw [← hw, drop_len] at this
    exact ext3 ht (hwd this)
  · subst e
    obtain ⟨x, hx, h0, h3⟩ := marked_some (show marked [46] Sg.simple (t ++ b) ≠ 0 by rw [← hw]; exact hn0)
    cases t with
    | nil => exact absurd rfl htn
    | cons c t' =>
      rw [List.cons_append] at hx
      injection hx with hx1 hx2
      rw [h3, ← hx2] at hw
      rw [← hx2] at h0
      have hs := Sg.run_drop_stop cW (t' ++ b)
      rw [← (Sg.simple_pos h0).2, show Sg.simple (t' ++ b) = t'.length by simp at hw; omega, drop_len] at hs
      exact ext4 ht (hwd hs)
  · subst e
    obtain ⟨x, hx, h0, h3⟩ := marked_some (show marked [36] Sg.word (t ++ b) ≠ 0 by rw [← hw]; exact hn0)
    cases t with
    | nil => exact absurd rfl htn
    | cons c t' =>
      rw [List.cons_append] at hx
      injection hx with hx1 hx2
      rw [h3, ← hx2] at hw
      rw [← hx2] at h0
      have hs := word_stop h0
      rw [show Sg.word (t' ++ b) = t'.length by simp at hw; omega, drop_len] at hs
      exact ext5 ht (hwd hs)
  · subst e
    obtain ⟨x, hx, h0, h3⟩ := marked_some (show marked [64] (run cW) (t ++ b) ≠ 0 by rw [← hw]; exact hn0)
    cases t with
    | nil => exact absurd rfl htn
    | cons c t' =>
      rw [List.cons_append] at hx
      injection hx with hx1 hx2
      rw [h3, ← hx2] at hw
      have hs := Sg.run_drop_stop cW (t' ++ b)
      rw [show run cW (t' ++ b) = t'.length by simp at hw; omega, drop_len] at hs
      exact ext12 ht (hwd hs)
  · subst e
    have hs : stop cW b := by
      cases b with
      | nil => exact absurd rfl hbn
      | cons c b' =>
        refine Sg.stop_cons ?_ _
        cases hc : cW (c.toNat : Int) with
        | false => rfl
        | true =>
          exfalso
          unfold Sg.cW at hc
          rw [Bool.or_eq_true] at hc
          rcases hc with hc | hc
          · obtain ⟨n, hfn⟩ := find_L hc b'
            rw [hfn] at hb; cases hb; exact hn ⟨rfl, .inr rfl⟩
          · obtain ⟨n, hfn⟩ := find_D hc b'
            rw [hfn] at hb; cases hb; exact hn ⟨rfl, .inl rfl⟩
    refine ext6 ht (stop_hd hs hbn r) (fun hr => ?_)
    cases b with
    | nil => exact absurd rfl hbn
    | cons c b' =>
      rw [List.cons_append, at_h]
      cases hc : ((c.toNat : Int) == 46) with
      | false => rfl
      | true =>
        exfalso
        have hrn : run cD (t ++ c :: b') = t.length := run_app hr (Sg.stop_D hs)
        have hd : Sg.decimal (t ++ c :: b') ≥ t.length + 1 := by
          unfold Sg.decimal
          rw [hrn, at_app_eq, at_h, hc, if_pos rfl, if_neg (by omega)]
          omega
        have : Sg.number (t ++ c :: b') ≥ t.length + 1 := by
          unfold Sg.number
          rw [if_neg (by omega)]; omega
        omega
  · subst e
    cases t with
    | nil => exact absurd rfl htn
    | cons c t' =>
      rw [List.cons_append] at hw ⊢
      have hc : c = 34 := Decidable.byContradiction fun e => hn0 (by rw [hw]; exact just_h e _)
      subst hc
      rw [find_quote] at ht ⊢
      simpa using ht
  · subst e
    refine ext13 ht (fun e => stop_hd ?_ hbn r) (oper_app ?_ (fun o hm hp => ?_))
    · subst e
      cases b with
      | nil => exact absurd rfl hbn
      | cons c b' =>
        refine Sg.stop_cons ?_ _
        cases hc : cW (c.toNat : Int) with
        | false => rfl
        | true =>
          exfalso
          unfold Sg.cW at hc
          rw [Bool.or_eq_true] at hc
          rcases hc with hc | hc
          · rw [List.cons_append, List.nil_append, marked_e] at h4
            have hs : Sg.simple (c :: b') ≠ 0 := by
              unfold Sg.simple
              rw [at_h, hc, if_pos rfl]
              simp [run, Sg.LW0 _ hc]
            rw [if_neg hs] at h4
            omega
          · have : Sg.number ([46] ++ c :: b') ≠ 0 := by
              have hd : Sg.decimal ([46] ++ c :: b') ≠ 0 := by
                have h5 : run cD ((46 : UInt8) :: c :: b') = 0 := run_h (by decide) _
                unfold Sg.decimal
                rw [List.cons_append, List.nil_append, h5, at_h, if_pos (by decide)]
                simp [run, hc]
              unfold Sg.number
              rw [if_neg hd]; omega
            omega
    · have := find_cases ht
      have h3 := keeps_oper (t ++ b) t.length (by omega)
      rw [List.take_left] at h3
      omega
    · rcases Nat.lt_or_ge t.length o.length with hlt | hge
      · exfalso
        have hp' := hp
        unfold Lib.hasPrefix at hp'
        rw [List.isPrefixOf_iff_prefix] at hp'
        by_cases hle : o.length ≤ t.length + b.length
        · have h3 : t ++ b <+: t ++ (b ++ r) := by rw [← List.append_assoc]; exact List.prefix_append _ _
          have h5 : o <+: t ++ b := List.prefix_of_prefix_length_le hp' h3 (by simp; omega)
          have := oper_max (l := t ++ b) hm (by unfold Lib.hasPrefix; exact List.isPrefixOf_iff_prefix.2 h5)
          omega
        · obtain ⟨hl, ho⟩ := opers_long o hm
          have ht1 : 0 < t.length := List.length_pos_iff.2 htn
          have hb1 : 0 < b.length := List.length_pos_iff.2 hbn
          have h3 := ho (by omega)
          match t, b, ht1, hb1, hle with
          | [c], [d], _, _, _ =>
            obtain ⟨z, hz⟩ := hp'
            rcases h3 with rfl | rfl
            · simp at hz
              obtain ⟨z1, z2, z3⟩ := hz
              subst z1; subst z2
              have := h47 rfl
              rw [← z3] at this
              simp at this
            · simp at hz
              obtain ⟨z1, z2, z3⟩ := hz
              subst z1; subst z2
              revert hw
              decide +kernel
          | c :: c2 :: t', b :: b', _, _, hle => simp at hle; omega
          | [c], d :: d2 :: b', _, _, hle => simp at hle; omega
      · exact hge
end Go.Proofs.YtmoamfcaokefiaaGreatDoor.Lx

/-
  Mathematics of layer 5: which tokens may stand side by side; a line has the same tokens.
-/
namespace Go.Proofs.YtmoamfcaokefiaaGreatDoor.Lx
open Go.RowKit (wrap64)
open Sg (run cB cW cD cL at' stop Wd)
set_option linter.unusedVariables false

def idleT (t : Tok) : Bool := t.1 == 1 || t.1 == 2
def strT (t : Tok) : Bool := decide (7 ≤ t.1) && decide (t.1 ≤ 11)
def numT (a b : Tok) : Bool := a.1 == 6 && (b.1 == 6 || b.1 == 3)
def colT (a b : Tok) : Bool := a == (13, [58]) && b == (13, [58])
/-- May one stand behind the other? T: the tokens of a text. -/
def tightT (T : List UInt8 → List Tok) (a b : Tok) : Bool := !(idleT a || idleT b || numT a b || colT a b) && (strT a || strT b || T (a.2 ++ b.2) == [a, b])
def gapT (T : List UInt8 → List Tok) (a b : Tok) : List UInt8 := if tightT T a b then [] else [32]
def lineGo (T : List UInt8 → List Tok) (a : Tok) : List Tok → List UInt8
  | [] => []
  | b :: r => gapT T a b ++ (b.2 ++ lineGo T b r)
def lineT (T : List UInt8 → List Tok) : List Tok → List UInt8
  | [] => []
  | a :: r => a.2 ++ lineGo T a r
def gapK (T : List UInt8 → List Tok) (a b : Tok) : List Tok := if tightT T a b then [] else [(1, [32])]
def spacedGo (T : List UInt8 → List Tok) (a : Tok) : List Tok → List Tok
  | [] => []
  | b :: r => gapK T a b ++ (b :: spacedGo T b r)
def spacedT (T : List UInt8 → List Tok) : List Tok → List Tok
  | [] => []
  | a :: r => a :: spacedGo T a r
/-- A state's tokens up to an end. -/
def WF : Lex → List Tok → Prop
  | x, [] => ended x = true
  | x, t :: r => ∃ y, find (tried x) t.2 = some (t.1, t.2.length) ∧ turn x t.1 t.2 = .ok y ∧ (t.1 = 8 → ∀ u, r.head? = some u → u.1 ≠ 8) ∧ WF y r

theorem piece_max (l : List UInt8) : piece (l.drop (piece l)) = 0 := by
  generalize hn : l.length = n
  induction n using Nat.strongRecOn generalizing l with
  | ind n ih =>
    subst hn
    cases l with
    | nil => rfl
    | cons b r =>
      rw [piece_cons]
      by_cases h1 : b = 34
      · subst h1; rw [if_pos rfl]; exact piece_quote r
      · rw [if_neg h1]
        by_cases h2 : b = 92
        · subst h2
          rw [if_pos rfl]
          by_cases h3 : Sg.escape (92 :: r) = 0
          · rw [if_pos h3]; exact piece_none r h3
          · have hl := Sg.escape_le (92 :: r)
            rw [if_neg h3, ← List.drop_drop]
            exact ih _ (by rw [List.length_drop]; omega) _ rfl
        · rw [if_neg h2, show (b :: r).drop (1 + piece r) = r.drop (piece r) by rw [Nat.add_comm]; rfl]
          exact ih _ (by simp) _ rfl
theorem kind_eight {x : Lex} {l : List UInt8} {n : Nat} (h : find (tried x) l = some (8, n)) : x.top.text = true ∧ n = piece l := by
  unfold tried at h
  cases ht : x.top.text with
  | true =>
    rw [ht, if_pos rfl] at h
    simp only [inside, find] at h
    split at h
    · split at h
      · split at h
        · cases h
        · cases h
      · cases h
    · cases h; exact ⟨rfl, rfl⟩
  | false =>
    exfalso
    rw [ht, if_neg (by decide)] at h
    have key : ∀ e ∈ closing, e.1 ≠ 8 := by
      intro e he
      simp only [closing, outside, List.mem_cons, List.not_mem_nil, or_false] at he
      rcases he with rfl | rfl | rfl | rfl | rfl | rfl | rfl | rfl | rfl | rfl <;> decide
    split at h
    · obtain ⟨_, e, he, hk, _⟩ := find_some h
      exact key e he hk
    · obtain ⟨_, e, he, hk, _⟩ := find_some h
      exact key e (List.mem_cons_of_mem _ he) hk
theorem wf_of_lex {x : Lex} {l : List UInt8} {ts : List Tok} (h : lexA x l = (ts, 0)) : WF x ts := by
  generalize hn : l.length = n
  induction n using Nat.strongRecOn generalizing x l ts with
  | ind n ih =>
    subst hn
    by_cases h0 : l = []
    · subst h0
      rw [lexA_nil] at h
      obtain ⟨h1, h2⟩ := Prod.mk.inj h
      subst h1
      unfold WF
      cases hx : ended x with
      | true => rfl
      | false => rw [hx] at h2; simp at h2
    · cases hx : next x l with
      | error e =>
        rw [lexA_err hx h0] at h
        cases h
        rcases next_err_ne hx with h | h | h <;> cases h
      | ok p =>
        obtain ⟨k, n, y⟩ := p
        have hl := next_le hx
        obtain ⟨hf, ht⟩ := next_find hx
        rw [lexA_ok hx h0] at h
        obtain ⟨us, hus⟩ : ∃ us, lexA y (l.drop n) = (us, 0) := ⟨(lexA y (l.drop n)).1, by rw [← (Prod.mk.inj h).2]⟩
        have hts := (Prod.mk.inj h).1
        rw [hus] at hts
        subst hts
        refine ⟨y, ?_, ht, fun h8 u hu e8 => ?_, ih (l.drop n).length (by rw [List.length_drop]; omega) hus rfl⟩
        · have := find_take (keeps_tried x) hf (Nat.le_refl n)
          simp only [List.length_take, Nat.min_eq_left hl.2]
          exact this
        · simp only at h8
          subst h8
          obtain ⟨htx, hnp⟩ := kind_eight hf
          have hy : y = x := by
            have : turn x 8 (l.take n) = .ok x := rfl
            rw [this] at ht; cases ht; rfl
          subst hy
          by_cases h1 : l.drop n = []
          · rw [h1, lexA_nil] at hus
            rw [← (Prod.mk.inj hus).1] at hu; cases hu
          · cases hx2 : next y (l.drop n) with
            | error e =>
              rw [lexA_err hx2 h1] at hus
              rw [← (Prod.mk.inj hus).1] at hu; cases hu
            | ok p2 =>
              obtain ⟨k2, n2, y2⟩ := p2
              rw [lexA_ok hx2 h1] at hus
              have := (Prod.mk.inj hus).1
              rw [← this] at hu
              simp at hu
              subst hu
              simp only at e8
              subst e8
              obtain ⟨hf2, _⟩ := next_find hx2
              have h2 := (kind_eight hf2).2
              rw [hnp, piece_max] at h2
              exact (find_some hf2).1 h2
theorem turn_idle {x : Lex} {t : Tok} (h : idleT t = true) : turn x t.1 t.2 = .ok x := by
  unfold idleT at h
  simp only [Bool.or_eq_true, beq_iff_eq] at h
  unfold turn
  rw [if_neg (by omega), if_neg (by omega), if_neg (by omega), if_neg (by omega), if_neg (by omega)]
theorem in_kinds {x : Lex} {l : List UInt8} {k : Int} {n : Nat} (ht : x.top.text = true) (h : find (tried x) l = some (k, n)) : (k = 8 ∧ n = piece l) ∨ (k = 11 ∧ n = just [34] l) ∨ (k = 9 ∧ n = just [92, 40] l) := by
  unfold tried at h
  rw [ht, if_pos rfl] at h
  simp only [inside, find] at h
  split at h
  · split at h
    · split at h
      · cases h
      · cases h; exact .inr (.inr ⟨rfl, rfl⟩)
    · cases h; exact .inr (.inl ⟨rfl, rfl⟩)
  · cases h; exact .inl ⟨rfl, rfl⟩
/-- Spaces and notes left out, it is so still. -/
theorem WF.plain {x : Lex} {ts : List Tok} (h : WF x ts) : WF x (ts.filter (fun t => !idleT t)) := by
  induction ts generalizing x with
  | nil => exact h
  | cons t r ih =>
    obtain ⟨y, h1, h2, h3, h4⟩ := h
    cases hi : idleT t with
    | true =>
      rw [turn_idle hi] at h2
      cases h2
      rw [List.filter_cons_of_neg (by simp [hi])]
      exact ih h4
    | false =>
      rw [List.filter_cons_of_pos (by simp [hi])]
      refine ⟨y, h1, h2, fun h8 u hu => ?_, ih h4⟩
      have e8 := h8
      obtain ⟨k, tx⟩ := t
      simp only at h8
      subst h8
      obtain ⟨htx, _⟩ := kind_eight h1
      have hy : y = x := by
        have : turn x 8 tx = .ok x := rfl
        rw [this] at h2; cases h2; rfl
      subst hy
      cases r with
      | nil => cases hu
      | cons b r' =>
        obtain ⟨z, g1, _⟩ := h4
        have hb : idleT b = false := by
          unfold idleT
          rcases in_kinds htx g1 with ⟨e, _⟩ | ⟨e, _⟩ | ⟨e, _⟩ <;> rw [e] <;> rfl
        rw [List.filter_cons_of_pos (by simp [hb])] at hu
        simp at hu
        subst hu
        exact h3 rfl b rfl
theorem piece_app {t : List UInt8} (h : piece t = t.length) (q : List UInt8) : piece (t ++ q) = t.length + piece q := by
  generalize hn : t.length = n
  induction n using Nat.strongRecOn generalizing t with
  | ind n ih =>
    subst hn
    cases t with
    | nil => simp
    | cons b r =>
      rw [piece_cons] at h
      rw [List.cons_append, piece_cons]
      by_cases h1 : b = 34
      · rw [if_pos h1] at h; simp at h
      · rw [if_neg h1] at h ⊢
        by_cases h2 : b = 92
        · rw [if_pos h2] at h ⊢
          by_cases h3 : Sg.escape (b :: r) = 0
          · rw [if_pos h3] at h; simp at h
          · rw [if_neg h3] at h
            have hl := Sg.escape_le (b :: r)
            have hk := keeps_escape_app h3 (q := q)
            rw [List.cons_append] at hk
            have hp : piece ((b :: r).drop (Sg.escape (b :: r))) = ((b :: r).drop (Sg.escape (b :: r))).length := by rw [List.length_drop]; omega
            have := ih _ (by rw [List.length_drop]; omega) hp rfl
            rw [hk, if_neg h3, ← List.cons_append, List.drop_append_of_le_length hl, this, List.length_drop]
            omega
        · rw [if_neg h2] at h ⊢
          have := ih r.length (by simp) (t := r) (by simp at h; omega) rfl
          rw [this]; simp; omega
where
  keeps_escape_app {l q : List UInt8} (h : Sg.escape l ≠ 0) : Sg.escape (l ++ q) = Sg.escape l := by
    unfold Sg.escape at h ⊢
    by_cases h1 : at' (· == 92) l 0 = true
    · rw [if_pos h1] at h
      rw [if_pos h1, at_app_lt _ _ _ (Sg.at_len h1), if_pos h1]
      by_cases h2 : at' Sg.cE l 1 = true
      · rw [if_pos h2, at_app_lt _ _ _ (Sg.at_len h2), if_pos h2]
      · rw [if_neg h2] at h
        rw [if_neg h2]
        by_cases h3 : (at' (· == 117) l 1 && decide (4 ≤ run Sg.cH (l.drop 2))) = true
        · have h4 := h3
          rw [Bool.and_eq_true, decide_eq_true_eq] at h4
          have hl := Sg.run_le Sg.cH (l.drop 2)
          rw [List.length_drop] at hl
          have h5 := Sg.at_len h4.1
          rw [at_app_lt _ _ _ h5, if_neg h2, at_app_lt _ _ _ h5, h4.1, drop_app_le _ _ (by omega)]
          have h6 : 4 ≤ run Sg.cH (l.drop 2 ++ q) := by
            have := Sg.run_step Sg.cH (l.drop 2 ++ q) (l.drop 2).length
            rw [List.take_left] at this
            omega
          simp [h6, h4.2]
        · rw [if_neg h3] at h; exact absurd rfl h
    · rw [if_neg h1] at h; exact absurd rfl h
theorem just_full {o t : List UInt8} (h : just o t = t.length) (h0 : t ≠ []) : t = o := by
  unfold just at h
  split at h
  · rename_i hp
    unfold Lib.hasPrefix at hp
    obtain ⟨r, hr⟩ := List.isPrefixOf_iff_prefix.1 hp
    have : r = [] := List.length_eq_zero_iff.1 (by rw [← hr, List.length_append] at h; omega)
    rw [this, List.append_nil] at hr
    exact hr.symm
  · exact absurd (List.length_eq_zero_iff.1 h.symm) h0
theorem find_ne {sh : List Kd} {l : List UInt8} {k : Int} (h : find sh l = some (k, l.length)) : l ≠ [] := fun e => (find_some h).1 (by rw [e]; rfl)
theorem closing_head {l : List UInt8} (h : l.head? ≠ some 41) : find closing l = find outside l := by
  have hj : just [41] l = 0 := by
    unfold just
    rw [if_neg]
    cases l with
    | nil => simp [Lib.hasPrefix, List.isPrefixOf]
    | cons b r => rw [pre_h]; simp at h; simp [h]
  simp only [closing, find, hj, if_true]
theorem closing_41 (r : List UInt8) : find closing (41 :: r) = some (10, 1) := rfl
/-- Outside of strings: a closing bracket that ends, or one of outside. -/
theorem out_kinds {x : Lex} {l : List UInt8} {k : Int} {n : Nat} (ht : x.top.text = false) (h : find (tried x) l = some (k, n)) : (k = 10 ∧ n = 1 ∧ ∃ r, l = 41 :: r) ∨ (find outside l = some (k, n) ∧ ∀ q, l ≠ [] → find (tried x) (l ++ q) = find outside (l ++ q)) := by
  unfold tried at h ⊢
  rw [ht, if_neg (by decide)] at h ⊢
  split at h
  · rename_i hc
    by_cases h41 : l.head? = some 41
    · cases l with
      | nil => cases h41
      | cons b r =>
        simp at h41; subst h41
        rw [closing_41] at h
        cases h
        exact .inl ⟨rfl, rfl, r, rfl⟩
    · rw [closing_head h41] at h
      refine .inr ⟨h, fun q h0 => ?_⟩
      rw [if_pos hc, closing_head]
      cases l with
      | nil => exact absurd rfl h0
      | cons b r => simpa using h41
  · rename_i hc
    exact .inr ⟨h, fun q h0 => by rw [if_neg hc]⟩
theorem kinds_out {l : List UInt8} {k : Int} {n : Nat} (h : find outside l = some (k, n)) : k = 1 ∨ k = 2 ∨ k = 3 ∨ k = 4 ∨ k = 5 ∨ k = 12 ∨ k = 6 ∨ k = 7 ∨ k = 13 := by
  obtain ⟨_, e, he, hk, _⟩ := find_some h
  simp only [outside, List.mem_cons, List.not_mem_nil, or_false] at he
  rcases he with rfl | rfl | rfl | rfl | rfl | rfl | rfl | rfl | rfl <;> simp at hk <;> omega
theorem turn_out {x y : Lex} {k : Int} {t : List UInt8} (h : turn x k t = .ok y) (hk : k = 1 ∨ k = 2 ∨ k = 3 ∨ k = 4 ∨ k = 5 ∨ k = 12 ∨ k = 6 ∨ k = 13) : y.top.text = x.top.text ∧ y.below = x.below := by
  unfold turn at h
  rcases hk with rfl | rfl | rfl | rfl | rfl | rfl | rfl | rfl
  all_goals (simp at h; subst h; exact ⟨rfl, rfl⟩)
/-- T tells of a text its tokens, where it tells any. -/
def Tells (T : List UInt8 → List Tok) : Prop := ∀ l a r, T l = a :: r → lexA start l = (a :: r, 0)
theorem two_find {T : List UInt8 → List Tok} (hT : Tells T) {a b : Tok} (h : T (a.2 ++ b.2) = [a, b]) (ha : a.2 ≠ []) : find outside (a.2 ++ b.2) = some (a.1, a.2.length) := by
  have h1 := hT _ _ _ h
  have h0 : a.2 ++ b.2 ≠ [] := by simp [ha]
  cases hx : next start (a.2 ++ b.2) with
  | error e => rw [lexA_err hx h0] at h1; cases h1
  | ok p =>
    obtain ⟨k, n, y⟩ := p
    have hl := next_le hx
    rw [lexA_ok hx h0] at h1
    have h2 := (List.cons.inj (Prod.mk.inj h1).1).1
    obtain ⟨hf, _⟩ := next_find hx
    have hk : k = a.1 := by rw [← h2]
    have hn : n = a.2.length := by rw [← h2]; simp only [List.length_take]; omega
    rw [hk, hn] at hf
    exact hf
theorem heads_str {y : Lex} {b : Tok} (ht : y.top.text = false) (hf : find (tried y) b.2 = some (b.1, b.2.length)) (hs : strT b = true) : ∃ c q, b.2 = c :: q ∧ (c = 32 ∨ c = 34 ∨ c = 41) := by
  rcases out_kinds ht hf with ⟨_, _, r, hr⟩ | ⟨hf2, _⟩
  · exact ⟨41, r, hr, .inr (.inr rfl)⟩
  · obtain ⟨hn, hc⟩ := find_cases hf2
    have h7 : b.1 = 7 := by
      unfold strT at hs
      rw [Bool.and_eq_true, decide_eq_true_eq, decide_eq_true_eq] at hs
      rcases kinds_out hf2 with e | e | e | e | e | e | e | e | e <;> omega
    have hb : b.2.length = just [34] b.2 := by
      rcases hc with ⟨e, _⟩ | ⟨_, ⟨e, _⟩ | ⟨_, ⟨e, _⟩ | ⟨_, ⟨e, _⟩ | ⟨_, ⟨e, _⟩ | ⟨_, ⟨e, _⟩ | ⟨_, ⟨e, _⟩ | ⟨_, ⟨e, h⟩ | ⟨_, e, _⟩⟩⟩⟩⟩⟩⟩⟩
      all_goals first | omega | exact h
    exact ⟨34, [], just_full hb.symm (find_ne hf2), .inr (.inl rfl)⟩

/-- A row's next token is what it is, whatever stands behind it in the row. -/
theorem head_ok {T : List UInt8 → List Tok} (hT : Tells T) {x : Lex} {a : Tok} {r : List Tok} (hw : WF x (a :: r)) (hi : ∀ t ∈ a :: r, idleT t = false) : find (tried x) (a.2 ++ lineGo T a r) = some (a.1, a.2.length) := by
  obtain ⟨y, hf, ht, h8, hr⟩ := hw
  have hai := hi a (List.mem_cons_self ..)
  have hne := find_ne hf
  cases htx : x.top.text with
  | true =>
    rcases in_kinds htx hf with ⟨e, hp⟩ | ⟨e, hj⟩ | ⟨e, hj⟩
    · have hy : y = x := by
        have : turn x a.1 a.2 = .ok x := by rw [e]; rfl
        rw [this] at ht; cases ht; rfl
      subst hy
      cases r with
      | nil =>
        exfalso
        unfold WF ended at hr
        rw [htx] at hr
        simp at hr
      | cons b r' =>
        obtain ⟨z, g1, _⟩ := hr
        have hb8 := h8 e b rfl
        have ha : strT a = true := by unfold strT; rw [e]; rfl
        have hbi := hi b (by simp)
        have hbn := find_ne g1
        have htg : gapT T a b = [] := by
          unfold gapT tightT
          have h1 : numT a b = false := by unfold numT; rw [e]; rfl
          have h2 : colT a b = false := by
            unfold colT
            have : (a == ((13 : Int), [(58 : UInt8)])) = false := by
              rw [beq_eq_false_iff_ne]; intro h; rw [h] at e; cases e
            rw [this]; rfl
          rw [hai, hbi, h1, h2, ha]; rfl
        have hpz : piece (b.2 ++ lineGo T b r') = 0 := by
          rcases in_kinds htx g1 with ⟨e', _⟩ | ⟨e', hj⟩ | ⟨e', hj⟩
          · exact absurd e' hb8
          · rw [just_full hj.symm hbn]; exact piece_quote _
          · rw [just_full hj.symm hbn]; exact piece_none _ rfl
        have hpp : piece (a.2 ++ lineGo T a (b :: r')) = a.2.length := by
          unfold lineGo
          rw [htg, List.nil_append, piece_app hp.symm, hpz]; rfl
        unfold tried
        rw [htx, if_pos rfl]
        simp only [inside, find]
        rw [if_neg (by rw [hpp]; exact fun h => hne (List.length_eq_zero_iff.1 h)), hpp, e]
    · rw [just_full hj.symm hne, e]
      unfold tried
      rw [htx, if_pos rfl]
      rfl
    · rw [just_full hj.symm hne, e]
      unfold tried
      rw [htx, if_pos rfl]
      rfl
  | false =>
    rcases out_kinds htx hf with ⟨e1, e2, q, e3⟩ | ⟨hfo, hext⟩
    · have ha2 : a.2 = [41] := by
        rw [e3] at e2 ⊢
        simp at e2; rw [e2]
      unfold tried at hf ⊢
      rw [htx, if_neg (by decide)] at hf ⊢
      split at hf
      · rename_i hc
        rw [if_pos hc, ha2, e1]; rfl
      · exfalso
        obtain ⟨_, e', he', hk', _⟩ := find_some hf
        have : ∀ e ∈ outside, e.1 ≠ 10 := by
          intro e he
          simp only [outside, List.mem_cons, List.not_mem_nil, or_false] at he
          rcases he with rfl | rfl | rfl | rfl | rfl | rfl | rfl | rfl | rfl <;> decide
        exact this e' he' (hk'.trans e1)
    · rw [hext _ hne]
      have h12 : a.1 ≠ 1 ∧ a.1 ≠ 2 := by
        unfold idleT at hai
        simp at hai
        exact hai
      by_cases h7 : a.1 = 7
      · obtain ⟨hn, hc⟩ := find_cases hfo
        have hb : a.2.length = just [34] a.2 := by
          rcases hc with ⟨e, _⟩ | ⟨_, ⟨e, _⟩ | ⟨_, ⟨e, _⟩ | ⟨_, ⟨e, _⟩ | ⟨_, ⟨e, _⟩ | ⟨_, ⟨e, _⟩ | ⟨_, ⟨e, _⟩ | ⟨_, ⟨e, h⟩ | ⟨_, e, _⟩⟩⟩⟩⟩⟩⟩⟩
          all_goals first | omega | exact h
        rw [just_full hb.symm hne, h7]; rfl
      · cases r with
        | nil => unfold lineGo; rw [List.append_nil]; exact hfo
        | cons b r' =>
          have hyt : y.top.text = false := by
            rw [← htx]
            refine (turn_out ht ?_).1
            rcases kinds_out hfo with h | h | h | h | h | h | h | h | h
            all_goals first | (exact absurd h h7) | simp [h]
          obtain ⟨z, g1, g2, g3, g4⟩ := hr
          have hbn := find_ne g1
          have hbi := hi b (by simp)
          have hb12 : b.1 ≠ 1 ∧ b.1 ≠ 2 := by
            unfold idleT at hbi
            simp at hbi
            exact hbi
          unfold lineGo gapT
          cases htg : tightT T a b with
          | false =>
            rw [if_neg (by decide)]
            exact ext_end hfo h12.1 h12.2 (.inl rfl) _
          | true =>
            rw [if_pos rfl, List.nil_append]
            cases hs : strT b with
            | true =>
              obtain ⟨c, q, hq, hc⟩ := heads_str hyt g1 hs
              rw [hq, List.cons_append]
              exact ext_end hfo h12.1 h12.2 hc _
            | false =>
              have hsa : strT a = false := by
                cases hsa : strT a with
                | false => rfl
                | true =>
                  exfalso
                  unfold strT at hsa
                  rw [Bool.and_eq_true, decide_eq_true_eq, decide_eq_true_eq] at hsa
                  rcases kinds_out hfo with h | h | h | h | h | h | h | h | h <;> omega
              unfold tightT at htg
              rw [hs, hsa, Bool.and_eq_true, Bool.not_eq_true', Bool.or_eq_false_iff, Bool.or_eq_false_iff, Bool.or_eq_false_iff] at htg
              obtain ⟨⟨⟨⟨_, _⟩, hnum⟩, hcol⟩, htok⟩ := htg
              simp only [Bool.false_or, beq_iff_eq] at htok
              have hfab := two_find hT htok hne
              have hbo : find outside b.2 = some (b.1, b.2.length) := by
                rcases out_kinds hyt g1 with ⟨e1, _⟩ | ⟨h, _⟩
                · exfalso; unfold strT at hs; rw [e1] at hs; revert hs; decide
                · exact h
              refine ext_tok hfo h12.1 h12.2 hbo hfab (fun hc => ?_) (fun h58 hd => ?_) (fun h47 hd => ?_)
              · unfold numT at hnum
                rcases hc.2 with h | h <;> rw [hc.1, h] at hnum <;> revert hnum <;> decide
              · -- a colon behind a colon is not tight
                have hb13 : b.1 = 13 := by rw [h58, find_colon] at hbo; exact (congrArg (fun o => (o.getD (0, 0)).1) hbo).symm
                have hzt : z.top.text = false := by rw [← hyt]; exact (turn_out g2 (by simp [hb13])).1
                cases r' with
                | nil => cases hd
                | cons c r'' =>
                  obtain ⟨z2, k1, _⟩ := g4
                  have hcn := find_ne k1
                  unfold lineGo gapT at hd
                  cases htc : tightT T b c with
                  | false => rw [htc, if_neg (by decide)] at hd; simp at hd
                  | true =>
                    rw [htc, if_pos rfl, List.nil_append] at hd
                    cases hc2 : c.2 with
                    | nil => exact hcn hc2
                    | cons u v =>
                      rw [hc2] at hd
                      simp at hd
                      subst hd
                      rcases out_kinds hzt k1 with ⟨_, _, q, e3⟩ | ⟨ho, _⟩
                      · rw [hc2] at e3; cases e3
                      · rw [hc2, find_colon] at ho
                        have e1 : c.1 = 13 := (congrArg (fun o => (o.getD (0, 0)).1) ho).symm
                        have e2 : v = [] := by
                          have := congrArg (fun o => (o.getD (0, 0)).2) ho
                          simp at this
                          exact this
                        unfold tightT at htc
                        have : colT b c = true := by
                          have hb : b = (13, [58]) := Prod.ext hb13 h58
                          have hcc : c = (13, [58]) := Prod.ext e1 (by rw [hc2, e2])
                          unfold colT
                          rw [hb, hcc]; decide
                        rw [this] at htc
                        simp at htc
              · have hb13 : b.1 = 13 := by rw [h47, show find outside [47] = some (13, 1) from rfl] at hbo; exact (congrArg (fun o => (o.getD (0, 0)).1) hbo).symm
                have hzt : z.top.text = false := by rw [← hyt]; exact (turn_out g2 (by simp [hb13])).1
                cases r' with
                | nil => cases hd
                | cons c r'' =>
                  obtain ⟨z2, k1, _⟩ := g4
                  have hcn := find_ne k1
                  unfold lineGo gapT at hd
                  cases htc : tightT T b c with
                  | false => rw [htc, if_neg (by decide)] at hd; simp at hd
                  | true =>
                    rw [htc, if_pos rfl, List.nil_append] at hd
                    cases hc2 : c.2 with
                    | nil => exact hcn hc2
                    | cons u v =>
                      rw [hc2] at hd
                      simp at hd
                      subst hd
                      cases hsc : strT c with
                      | true =>
                        obtain ⟨u, q, hq, hcq⟩ := heads_str hzt k1 hsc
                        rw [hc2] at hq
                        cases hq
                        rcases hcq with h | h | h <;> cases h
                      | false =>
                        unfold tightT at htc
                        rw [hs, hsc, Bool.and_eq_true] at htc
                        simp only [Bool.false_or, beq_iff_eq] at htc
                        have := two_find hT htc.2 hbn
                        rw [h47, hc2, hb13] at this
                        exact slashes v this
where
  slashes (v : List UInt8) (h : find outside ([47] ++ 47 :: v) = some (13, ([47] : List UInt8).length)) : False := by
    obtain ⟨_, hc⟩ := find_cases h
    have ho : Sg.oper ([47] ++ 47 :: v) = 1 := by
      rcases hc with ⟨e, _⟩ | ⟨_, ⟨e, _⟩ | ⟨_, ⟨e, _⟩ | ⟨_, ⟨e, _⟩ | ⟨_, ⟨e, _⟩ | ⟨_, ⟨e, _⟩ | ⟨_, ⟨e, _⟩ | ⟨_, ⟨e, h⟩ | ⟨_, e, h⟩⟩⟩⟩⟩⟩⟩⟩
      all_goals first | (cases e; done) | exact h.symm
    have := oper_max (l := [47] ++ 47 :: v) (o := [47, 47]) (by decide +kernel) rfl
    rw [ho] at this
    simp at this
/-- A row has its own tokens, with blanks between those that are not tight. -/
theorem line_lex {T : List UInt8 → List Tok} (hT : Tells T) {x : Lex} {a : Tok} {r : List Tok} (hw : WF x (a :: r)) (hi : ∀ t ∈ a :: r, idleT t = false) : lexA x (a.2 ++ lineGo T a r) = (a :: spacedGo T a r, 0) := by
  induction r generalizing x a with
  | nil =>
    have hf := head_ok hT hw hi
    obtain ⟨y, h1, ht, h8, hr⟩ := hw
    have hne := find_ne h1
    have hnx : next x (a.2 ++ lineGo T a []) = .ok (a.1, a.2.length, y) := by
      unfold next
      rw [hf]
      simp only [List.take_left, ht]
    rw [lexA_ok hnx (by simp [hne])]
    unfold WF at hr
    simp only [List.take_left, List.drop_left]
    unfold lineGo spacedGo
    rw [lexA_nil, hr]; rfl
  | cons b r' ih =>
    have hf := head_ok hT hw hi
    obtain ⟨y, h1, ht, h8, hr⟩ := hw
    have hne := find_ne h1
    have hib : ∀ t ∈ b :: r', idleT t = false := fun t h => hi t (List.mem_cons_of_mem _ h)
    have hnx : next x (a.2 ++ lineGo T a (b :: r')) = .ok (a.1, a.2.length, y) := by
      unfold next
      rw [hf]
      simp only [List.take_left, ht]
    have hrest := ih hr hib
    rw [lexA_ok hnx (by simp [hne])]
    simp only [List.take_left, List.drop_left]
    unfold lineGo gapT spacedGo gapK
    cases htg : tightT T a b with
    | true => rw [if_pos rfl, if_pos rfl, List.nil_append, List.nil_append, hrest]
    | false =>
      rw [if_neg (by decide), if_neg (by decide)]
      obtain ⟨z, g1, g2, g3, g4⟩ := hr
      have hbn := find_ne g1
      have hai := hi a (List.mem_cons_self ..)
      have hbi := hib b (List.mem_cons_self ..)
      have hyt : y.top.text = false := by
        cases hyt : y.top.text with
        | false => rfl
        | true =>
          exfalso
          have hsb : strT b = true := by
            unfold strT
            rcases in_kinds hyt g1 with ⟨e, _⟩ | ⟨e, _⟩ | ⟨e, _⟩ <;> rw [e] <;> rfl
          have hbk : b.1 ≠ 3 ∧ b.1 ≠ 6 ∧ b.1 ≠ 13 := by
            rcases in_kinds hyt g1 with ⟨e, _⟩ | ⟨e, _⟩ | ⟨e, _⟩ <;> rw [e] <;> decide
          have hn : numT a b = false := by unfold numT; simp [hbk.1, hbk.2.1]
          have hc : colT a b = false := by
            unfold colT
            have : (b == ((13 : Int), [(58 : UInt8)])) = false := by
              rw [beq_eq_false_iff_ne]; intro h; exact hbk.2.2 (by rw [h])
            rw [this, Bool.and_false]
          unfold tightT at htg
          rw [hai, hbi, hn, hc, hsb] at htg
          simp at htg
      have hsp : find (tried y) ([32] ++ (b.2 ++ lineGo T b r')) = some (1, 1) := by
        have hrun : run cB (b.2 ++ lineGo T b r') = 0 := by
          cases hb2 : b.2 with
          | nil => exact absurd hb2 hbn
          | cons u v =>
            rw [List.cons_append]
            cases hcb : cB (u.toNat : Int) with
            | false => exact run_h hcb _
            | true =>
              exfalso
              have hu : find outside b.2 = some (1, run cB b.2) := by
                have h0 : run cB b.2 ≠ 0 := by rw [hb2]; simp [run, hcb]
                simp only [outside, find]
                rw [if_neg h0]
              have hb1 : b.1 ≠ 1 := by
                unfold idleT at hbi
                simp at hbi
                exact hbi.1
              rcases out_kinds hyt g1 with ⟨_, _, q, e⟩ | ⟨ho, _⟩
              · rw [hb2] at e; cases e; revert hcb; decide
              · rw [hu] at ho; exact hb1 (congrArg (fun o => (o.getD (0, 0)).1) ho).symm
        have h32 : run cB ([32] ++ (b.2 ++ lineGo T b r')) = 1 := by
          rw [List.cons_append, List.nil_append]
          simp only [run]
          rw [hrun, if_pos (by decide)]
        have ho : find outside ([32] ++ (b.2 ++ lineGo T b r')) = some (1, 1) := by
          simp only [outside, find]
          rw [if_neg (by rw [h32]; decide), h32]
        unfold tried
        rw [hyt, if_neg (by decide)]
        split
        · rw [closing_head (by simp)]; exact ho
        · exact ho
      have hnx2 : next y ([32] ++ (b.2 ++ lineGo T b r')) = .ok (1, 1, y) := by
        unfold next
        rw [hsp]
        rfl
      rw [lexA_ok hnx2 (by simp)]
      have e1 : ([32] ++ (b.2 ++ lineGo T b r')).take 1 = [32] := rfl
      have e2 : ([32] ++ (b.2 ++ lineGo T b r')).drop 1 = b.2 ++ lineGo T b r' := rfl
      rw [e1, e2, hrest]
      rfl
theorem line_of {T : List UInt8 → List Tok} (hT : Tells T) {x : Lex} {cs : List Tok} (hw : WF x cs) (hi : ∀ t ∈ cs, idleT t = false) : lexA x (lineT T cs) = (spacedT T cs, 0) := by
  cases cs with
  | nil =>
    unfold WF at hw
    unfold lineT spacedT
    rw [lexA_nil, hw]; rfl
  | cons a r => exact line_lex hT hw hi
theorem spacedGo_plain (T : List UInt8 → List Tok) (a : Tok) (r : List Tok) (hi : ∀ t ∈ r, idleT t = false) : (spacedGo T a r).filter (fun t => !idleT t) = r ∧ ∀ t ∈ spacedGo T a r, t.1 ≠ 2 := by
  induction r generalizing a with
  | nil => exact ⟨rfl, fun t h => by cases h⟩
  | cons b r ih =>
    obtain ⟨h1, h2⟩ := ih b (fun t h => hi t (List.mem_cons_of_mem _ h))
    have hb := hi b (List.mem_cons_self ..)
    have hb2 : b.1 ≠ 2 := by unfold idleT at hb; simp at hb; exact hb.2
    unfold spacedGo gapK
    cases tightT T a b with
    | true =>
      rw [if_pos rfl, List.nil_append]
      refine ⟨by rw [List.filter_cons_of_pos (by simp [hb]), h1], fun t h => ?_⟩
      rcases List.mem_cons.1 h with rfl | h
      · exact hb2
      · exact h2 t h
    | false =>
      rw [if_neg (by decide)]
      refine ⟨by rw [List.cons_append, List.nil_append, List.filter_cons_of_neg (by simp [idleT]), List.filter_cons_of_pos (by simp [hb]), h1], fun t h => ?_⟩
      rw [List.cons_append, List.nil_append] at h
      rcases List.mem_cons.1 h with rfl | h
      · decide
      · rcases List.mem_cons.1 h with rfl | h
        · exact hb2
        · exact h2 t h
theorem spaced_plain (T : List UInt8 → List Tok) (cs : List Tok) (hi : ∀ t ∈ cs, idleT t = false) : (spacedT T cs).filter (fun t => !idleT t) = cs ∧ ∀ t ∈ spacedT T cs, t.1 ≠ 2 := by
  cases cs with
  | nil => exact ⟨rfl, fun t h => by cases h⟩
  | cons a r =>
    obtain ⟨h1, h2⟩ := spacedGo_plain T a r (fun t h => hi t (List.mem_cons_of_mem _ h))
    have ha := hi a (List.mem_cons_self ..)
    refine ⟨by unfold spacedT; rw [List.filter_cons_of_pos (by simp [ha]), h1], fun t h => ?_⟩
    rcases List.mem_cons.1 h with rfl | h
    · unfold idleT at ha; simp at ha; exact ha.2
    · exact h2 t h
end Go.Proofs.YtmoamfcaokefiaaGreatDoor.Lx

/-
  Mathematics of layer 5: two tokens that stand side by side in a source.
-/
namespace Go.Proofs.YtmoamfcaokefiaaGreatDoor.Lx
open Go.RowKit (wrap64)
open Sg (run cB cW cD cL at' stop Wd)
set_option linter.unusedVariables false

/-- Two tokens, one behind the other, where a lexer stands at them. -/
structure Side (a b : Tok) where
  x : Lex
  y : Lex
  l : List UInt8
  hf : find (tried x) l = some (a.1, a.2.length)
  ha : a.2 = l.take a.2.length
  ht : turn x a.1 a.2 = .ok y
  hg : find (tried y) (l.drop a.2.length) = some (b.1, b.2.length)
  hb : b.2 = (l.drop a.2.length).take b.2.length
theorem side_of {x : Lex} {l : List UInt8} {ts : List Tok} {e : Int} (h : lexA x l = (ts, e)) {i : Nat} {a b : Tok} (hi : ts[i]? = some a) (hj : ts[i + 1]? = some b) : Nonempty (Side a b) := by
  induction i generalizing x l ts with
  | zero =>
    by_cases h0 : l = []
    · subst h0; rw [lexA_nil] at h; rw [← (Prod.mk.inj h).1] at hi; cases hi
    · cases hx : next x l with
      | error e' => rw [lexA_err hx h0] at h; rw [← (Prod.mk.inj h).1] at hi; cases hi
      | ok p =>
        obtain ⟨k, n, y⟩ := p
        have hl := next_le hx
        obtain ⟨hf, ht⟩ := next_find hx
        rw [lexA_ok hx h0] at h
        have h1 := (Prod.mk.inj h).1
        rw [← h1] at hi hj
        simp at hi hj
        have hn : a.2.length = n := by rw [← hi]; simp only [List.length_take]; omega
        have hj' : (lexA y (l.drop n)).1[0]? = some b := hj
        by_cases h2 : l.drop n = []
        · rw [h2, lexA_nil] at hj'; cases hj'
        · cases hx2 : next y (l.drop n) with
          | error e' => rw [lexA_err hx2 h2] at hj'; cases hj'
          | ok p2 =>
            obtain ⟨k2, n2, y2⟩ := p2
            have hl2 := next_le hx2
            rw [lexA_ok hx2 h2] at hj'
            simp at hj'
            have hn2 : b.2.length = n2 := by rw [← hj']; simp only [List.length_take]; omega
            refine ⟨⟨x, y, l, ?_, ?_, ?_, ?_, ?_⟩⟩
            · rw [hn, hf, ← hi]
            · rw [hn, ← hi]
            · rw [← hi]; exact ht
            · rw [hn, hn2, (next_find hx2).1, ← hj']
            · rw [hn, hn2, ← hj']
  | succ i ih =>
    by_cases h0 : l = []
    · subst h0; rw [lexA_nil] at h; rw [← (Prod.mk.inj h).1] at hi; cases hi
    · cases hx : next x l with
      | error e' => rw [lexA_err hx h0] at h; rw [← (Prod.mk.inj h).1] at hi; cases hi
      | ok p =>
        obtain ⟨k, n, y⟩ := p
        rw [lexA_ok hx h0] at h
        have h1 := (Prod.mk.inj h).1
        rw [← h1] at hi hj
        rw [List.getElem?_cons_succ] at hi hj
        exact ih (x := y) (l := l.drop n) (ts := (lexA y (l.drop n)).1) (Prod.ext rfl (Prod.mk.inj h).2) hi hj

theorem Side.kind {a b : Tok} (s : Side a b) : 1 ≤ a.1 ∧ 1 ≤ b.1 ∧ a.2 ≠ [] ∧ b.2 ≠ [] := by
  have key : ∀ x : Lex, ∀ e ∈ tried x, 1 ≤ e.1 := by
    intro x e he
    unfold tried at he
    split at he
    · simp only [inside, List.mem_cons, List.not_mem_nil, or_false] at he
      rcases he with rfl | rfl | rfl <;> decide
    · have : e ∈ closing := by
        split at he
        · exact he
        · exact List.mem_cons_of_mem _ he
      simp only [closing, outside, List.mem_cons, List.not_mem_nil, or_false] at this
      rcases this with rfl | rfl | rfl | rfl | rfl | rfl | rfl | rfl | rfl | rfl <;> decide
  obtain ⟨h1, e1, he1, hk1, _⟩ := find_some s.hf
  obtain ⟨h2, e2, he2, hk2, _⟩ := find_some s.hg
  exact ⟨by rw [← hk1]; exact key _ _ he1, by rw [← hk2]; exact key _ _ he2, fun e => h1 (by rw [e]; rfl), fun e => h2 (by rw [e]; rfl)⟩
theorem Side.find_a {a b : Tok} (s : Side a b) : find (tried s.x) a.2 = some (a.1, a.2.length) := by
  have := find_take (keeps_tried s.x) s.hf (Nat.le_refl _)
  rwa [← s.ha] at this
theorem Side.find_b {a b : Tok} (s : Side a b) : find (tried s.y) b.2 = some (b.1, b.2.length) := by
  have := find_take (keeps_tried s.y) s.hg (Nat.le_refl _)
  rwa [← s.hb] at this
theorem Side.find_ab {a b : Tok} (s : Side a b) : find (tried s.x) (a.2 ++ b.2) = some (a.1, a.2.length) := by
  have h : a.2 ++ b.2 = s.l.take (a.2.length + b.2.length) := by
    rw [List.take_add, ← s.ha, ← s.hb]
  rw [h]
  exact find_take (keeps_tried s.x) s.hf (Nat.le_add_right _ _)
/-- What the law asks of two tokens: a space is never tight, nor a number with a number or a word, nor two colons. -/
def spaceT (a b : Tok) : Bool := decide (a.1 < 3) || decide (b.1 < 3) || numT a b || (a.2 == [58] && b.2 == [58] && a.1 == 13)
theorem plain_text {x : Lex} {l : List UInt8} {k : Int} {n : Nat} (h : find (tried x) l = some (k, n)) (hk : k = 3 ∨ k = 4 ∨ k = 5 ∨ k = 12 ∨ k = 6 ∨ k = 13) : x.top.text = false := by
  cases ht : x.top.text with
  | false => rfl
  | true =>
    exfalso
    rcases in_kinds ht h with ⟨e, _⟩ | ⟨e, _⟩ | ⟨e, _⟩ <;> omega
/-- Two tokens side by side that are no strings: alone they are two. -/
theorem Side.two {a b : Tok} (s : Side a b) (hia : ¬ a.1 < 3) (hsa : strT a = false) (hib : ¬ b.1 < 3) (hsb : strT b = false) : lexA start (a.2 ++ b.2) = ([a, b], 0) := by
  obtain ⟨_, _, hna, hnb⟩ := s.kind
  have ka : a.1 < 7 ∨ 11 < a.1 := by
    unfold strT at hsa
    rw [Bool.and_eq_false_iff, decide_eq_false_iff_not, decide_eq_false_iff_not] at hsa
    omega
  have kb : b.1 < 7 ∨ 11 < b.1 := by
    unfold strT at hsb
    rw [Bool.and_eq_false_iff, decide_eq_false_iff_not, decide_eq_false_iff_not] at hsb
    omega
  have hxt : s.x.top.text = false := by
    cases ht : s.x.top.text with
    | false => rfl
    | true => exfalso; rcases in_kinds ht s.hf with ⟨e, _⟩ | ⟨e, _⟩ | ⟨e, _⟩ <;> omega
  have hfo : find outside (a.2 ++ b.2) = some (a.1, a.2.length) := by
    rcases out_kinds hxt s.find_ab with ⟨e, _⟩ | ⟨h, _⟩
    · omega
    · exact h
  have hka := kinds_out hfo
  have hyt : s.y.top.text = false := by
    rw [← hxt]; exact (turn_out s.ht (by omega)).1
  have hbo : find outside b.2 = some (b.1, b.2.length) := by
    rcases out_kinds hyt s.find_b with ⟨e, _⟩ | ⟨h, _⟩
    · omega
    · exact h
  have hkb := kinds_out hbo
  have t1 : ∃ z, turn start a.1 a.2 = .ok z ∧ z.top.text = false ∧ z.below = [] := by
    unfold turn
    rw [if_neg (by omega), if_neg (by omega), if_neg (by omega), if_neg (by omega)]
    split
    · exact ⟨_, rfl, rfl, rfl⟩
    · exact ⟨_, rfl, rfl, rfl⟩
  obtain ⟨z, hz, zt, zb⟩ := t1
  have tz : tried z = outside := by unfold tried; rw [zt, zb]; simp
  have t2 : ∃ u, turn z b.1 b.2 = .ok u ∧ u.top.text = false ∧ u.below = [] := by
    unfold turn
    rw [if_neg (by omega), if_neg (by omega), if_neg (by omega), if_neg (by omega)]
    split
    · exact ⟨_, rfl, zt, zb⟩
    · exact ⟨_, rfl, zt, zb⟩
  obtain ⟨u, hu, ut, ub⟩ := t2
  have n1 : next start (a.2 ++ b.2) = .ok (a.1, a.2.length, z) := by
    unfold next
    rw [show tried start = outside from rfl, hfo]
    simp only [List.take_left, hz]
  have n2 : next z b.2 = .ok (b.1, b.2.length, u) := by
    unfold next
    rw [tz, hbo]
    simp only [List.take_length, hu]
  rw [lexA_ok n1 (by simp [hna])]
  simp only [List.take_left, List.drop_left]
  rw [lexA_ok n2 hnb, List.drop_length, lexA_nil, List.take_length]
  have : ended u = true := by unfold ended; rw [ub, ut]; rfl
  rw [this]; rfl
/-- Tight is what the law says of two tokens side by side. -/
theorem Side.tight {a b : Tok} (s : Side a b) (T : List UInt8 → List Tok) (hT : lexA start (a.2 ++ b.2) = ([a, b], 0) → T (a.2 ++ b.2) = [a, b]) : tightT T a b = !spaceT a b := by
  obtain ⟨h1, h2, hna, hnb⟩ := s.kind
  have hia : idleT a = decide (a.1 < 3) := by
    unfold idleT; rw [Bool.eq_iff_iff]; simp; omega
  have hib : idleT b = decide (b.1 < 3) := by
    unfold idleT; rw [Bool.eq_iff_iff]; simp; omega
  have hcol : colT a b = (a.2 == [58] && b.2 == [58] && a.1 == 13) := by
    rw [Bool.eq_iff_iff]
    unfold colT
    simp only [Bool.and_eq_true, beq_iff_eq]
    constructor
    · rintro ⟨e1, e2⟩; rw [e1, e2]; simp
    · rintro ⟨⟨e1, e2⟩, e3⟩
      refine ⟨Prod.ext e3 e1, Prod.ext ?_ e2⟩
      have hxt := plain_text s.hf (by simp [e3])
      have hfo : find outside (a.2 ++ b.2) = some (a.1, a.2.length) := by
        rcases out_kinds hxt s.find_ab with ⟨e, _⟩ | ⟨h, _⟩
        · omega
        · exact h
      have hyt : s.y.top.text = false := by rw [← hxt]; exact (turn_out s.ht (by simp [e3])).1
      rcases out_kinds hyt s.find_b with ⟨_, _, q, e⟩ | ⟨h, _⟩
      · rw [e2] at e; cases e
      · rw [e2, find_colon] at h
        exact (congrArg (fun o => (o.getD (0, 0)).1) h).symm
  unfold tightT spaceT
  rw [hia, hib, hcol]
  cases hsp : (decide (a.1 < 3) || decide (b.1 < 3) || numT a b || (a.2 == [58] && b.2 == [58] && a.1 == 13)) with
  | true => simp
  | false =>
    rw [Bool.or_eq_false_iff, Bool.or_eq_false_iff, Bool.or_eq_false_iff, decide_eq_false_iff_not, decide_eq_false_iff_not] at hsp
    cases hsa : strT a with
    | true => simp
    | false =>
      cases hsb : strT b with
      | true => simp
      | false =>
        have := s.two hsp.1.1.1 hsa hsp.1.1.2 hsb
        rw [hT this]
        simp
end Go.Proofs.YtmoamfcaokefiaaGreatDoor.Lx
