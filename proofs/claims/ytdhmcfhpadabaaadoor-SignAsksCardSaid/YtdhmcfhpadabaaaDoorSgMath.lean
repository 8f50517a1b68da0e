/-
  Mathematics of layer 3's laws: what stands at the front, cut where it ends, is the same.
-/
import Derived.Test.YtdhmcfhpadabaaaDoorSgSpec
namespace Go.Proofs.YtdhmcfhpadabaaaDoor.Sg

/-- What ends all: nothing, or a blank. -/
def brk (r : List UInt8) : Prop := r = [] ∨ ∃ t, r = 32 :: t
theorem brk.stop {r : List UInt8} (h : brk r) {p : Int → Bool} (hp : p 32 = false) : stop p r := by
  rcases h with rfl | ⟨t, rfl⟩
  · exact stop_nil p
  · exact stop_cons hp t
theorem brk.at' {r : List UInt8} (h : brk r) {p : Int → Bool} (hp : p 32 = false) : at' p r 0 = false := by
  rcases h with rfl | ⟨t, rfl⟩
  · rfl
  · simp [Sg.at', hp]

theorem run_take_app {p : Int → Bool} {r : List UInt8} (h : stop p r) (l : List UInt8) (k : Nat) (hk : k ≤ l.length) : run p (l.take k ++ r) = min k (run p l) := by
  induction l generalizing k with
  | nil => simp only [List.length_nil, Nat.le_zero] at hk; subst hk; simp [run_stop h, run]
  | cons b t ih =>
    cases k with
    | zero => simp [run_stop h]
    | succ k =>
      simp only [List.length_cons] at hk
      simp only [List.take_succ_cons, List.cons_append, run]
      split
      · rw [ih k (by omega)]; omega
      · simp
theorem at_take_lt (p : Int → Bool) (l r : List UInt8) {k j : Nat} (hk : k ≤ l.length) (hj : j < k) : at' p (l.take k ++ r) j = at' p l j := by
  unfold at'
  have e : (l.take k ++ r).getD j 0 = l.getD j 0 := by
    simp only [List.getD]
    rw [List.getElem?_append_left (by rw [List.length_take]; omega), List.getElem?_take_of_lt hj]
  rw [e]
  have h1 : j < (l.take k ++ r).length := by rw [List.length_append, List.length_take]; omega
  have h2 : j < l.length := by omega
  simp only [h1, h2, decide_true]
theorem at_take_eq (p : Int → Bool) (l r : List UInt8) {k : Nat} (hk : k ≤ l.length) : at' p (l.take k ++ r) k = at' p r 0 := by
  unfold at'
  have hl : (l.take k).length = k := by rw [List.length_take]; omega
  have e : (l.take k ++ r).getD k 0 = r.getD 0 0 := by
    simp only [List.getD]
    rw [List.getElem?_append_right (by rw [hl]; exact Nat.le_refl _), hl, Nat.sub_self]
  rw [e, List.length_append, hl]
  congr 2
  rw [eq_iff_iff]; omega
theorem drop_take_app (l r : List UInt8) {k j : Nat} (hk : k ≤ l.length) (hj : j ≤ k) : (l.take k ++ r).drop j = (l.drop j).take (k - j) ++ r := by
  rw [List.drop_append_of_le_length (by rw [List.length_take]; omega), List.drop_take]
theorem pre_take (l r o : List UInt8) {k : Nat} (hk : k ≤ l.length) (ho : o.length ≤ k) : Lib.hasPrefix (l.take k ++ r) o = Lib.hasPrefix l o := by
  unfold Lib.hasPrefix
  rw [Bool.eq_iff_iff, List.isPrefixOf_iff_prefix, List.isPrefixOf_iff_prefix]
  have hl : (l.take k).length = k := by rw [List.length_take]; omega
  constructor
  · intro h
    have : o <+: l.take k := List.prefix_of_prefix_length_le h (List.prefix_append _ _) (by omega)
    exact this.trans (List.take_prefix _ _)
  · intro h
    have : o <+: l.take k := List.prefix_of_prefix_length_le h (List.take_prefix _ _) (by omega)
    exact this.trans (List.prefix_append _ _)

theorem at_len {p : Int → Bool} {l : List UInt8} {k : Nat} (h : at' p l k = true) : k < l.length := by
  unfold at' at h; rw [Bool.and_eq_true, decide_eq_true_eq] at h; exact h.1

/-! Numbers. -/
theorem decimal_cut {l r : List UInt8} (h : brk r) {k : Nat} (h0 : decimal l ≠ 0) (hd : decimal l ≤ k) (hk : k ≤ l.length) : decimal (l.take k ++ r) = decimal l := by
  have hs : stop cD r := h.stop rfl
  have ha : run cD l ≤ k := by
    unfold decimal at hd h0
    split at hd
    · rename_i hp
      rw [if_pos hp] at h0
      split at hd
      · rename_i hz; rw [if_pos hz] at h0; exact absurd rfl h0
      · omega
    · exact hd
  have hr : run cD (l.take k ++ r) = run cD l := by rw [run_take_app hs l k hk]; omega
  unfold decimal at hd h0 ⊢
  rw [hr]
  by_cases hp : at' (· == 46) l (run cD l) = true
  · rw [if_pos hp] at hd h0 ⊢
    have hz : run cD l + run cD (l.drop (run cD l + 1)) ≠ 0 := fun hz => by rw [if_pos hz] at h0; exact h0 rfl
    rw [if_neg hz] at hd ⊢
    have hp' : at' (· == 46) (l.take k ++ r) (run cD l) = true := by rw [at_take_lt _ _ _ hk (by omega)]; exact hp
    rw [if_pos hp', drop_take_app l r hk (by omega), run_take_app hs _ _ (by rw [List.length_drop]; omega)]
    have e : min (k - (run cD l + 1)) (run cD (l.drop (run cD l + 1))) = run cD (l.drop (run cD l + 1)) := by omega
    rw [e, if_neg hz]
  · rw [if_neg hp] at hd h0 ⊢
    have hp' : at' (· == 46) (l.take k ++ r) (run cD l) = false := by
      rcases Nat.lt_or_ge (run cD l) k with hlt | hge
      · rw [at_take_lt _ _ _ hk hlt]; simpa using hp
      · have : run cD l = k := by omega
        rw [this, at_take_eq _ _ _ hk]
        exact h.at' rfl
    rw [hp']; rfl
theorem exponent_brk {r : List UInt8} (h : brk r) : exponent r = 0 := by unfold exponent; rw [h.at' rfl]; rfl
theorem exponent_cut {l r : List UInt8} (h : brk r) : exponent (l.take (exponent l) ++ r) = exponent l := by
  have hs : stop cD r := h.stop rfl
  have hl := exponent_le l
  by_cases h0 : exponent l = 0
  · rw [h0]; simpa using exponent_brk h
  · unfold exponent at h0
    split at h0
    · rename_i hp
      split at h0
      · exact absurd rfl h0
      · rename_i hd
        have e : exponent l = signs l + run cD (l.drop (signs l)) := by unfold exponent; rw [if_pos hp, if_neg hd]
        rw [e] at hl ⊢
        have hsg : 1 ≤ signs l := by unfold signs; split <;> omega
        have hp' : at' (fun n => n == 101 || n == 69) (l.take (signs l + run cD (l.drop (signs l))) ++ r) 0 = true := by rw [at_take_lt _ _ _ hl (by omega)]; exact hp
        have hsn : signs (l.take (signs l + run cD (l.drop (signs l))) ++ r) = signs l := by
          show (if at' (fun n => n == 43 || n == 45) (l.take (signs l + run cD (l.drop (signs l))) ++ r) 1 = true then 2 else 1) = signs l
          rw [at_take_lt _ _ _ hl (by omega)]; rfl
        unfold exponent
        rw [if_pos hp', hsn, drop_take_app l r hl (by omega), run_take_app hs _ _ (by rw [List.length_drop]; omega)]
        have e2 : min (signs l + run cD (l.drop (signs l)) - signs l) (run cD (l.drop (signs l))) = run cD (l.drop (signs l)) := by omega
        rw [e2, if_neg hd]
    · exact absurd rfl h0
theorem number_brk {r : List UInt8} (h : brk r) : number r = 0 := by
  have e : decimal r = 0 := by
    unfold decimal
    rw [run_stop (h.stop rfl), h.at' rfl]; rfl
  unfold number; rw [if_pos e]
theorem number_cut {l r : List UInt8} (h : brk r) : number (l.take (number l) ++ r) = number l := by
  have hl := number_le l
  by_cases h0 : decimal l = 0
  · have e : number l = 0 := by unfold number; rw [if_pos h0]
    rw [e]; simpa using number_brk h
  · have e : number l = decimal l + exponent (l.drop (decimal l)) := by unfold number; rw [if_neg h0]
    have hd : decimal (l.take (number l) ++ r) = decimal l := decimal_cut h h0 (by omega) hl
    have e2 : (l.take (number l) ++ r).drop (decimal l) = (l.drop (decimal l)).take (exponent (l.drop (decimal l))) ++ r := by
      rw [drop_take_app l r hl (by omega)]
      congr 2; omega
    have e3 : number (l.take (number l) ++ r) = decimal l + exponent ((l.take (number l) ++ r).drop (decimal l)) := by
      unfold number at hd ⊢
      rw [hd, if_neg h0]
    rw [e3, e2, exponent_cut h, e]

/-! Words. -/
theorem simple_pos {l : List UInt8} (h : simple l ≠ 0) : at' cL l 0 = true ∧ simple l = run cW l := by
  unfold simple at h ⊢
  split at h
  · rename_i hp; rw [if_pos hp]; exact ⟨hp, rfl⟩
  · exact absurd rfl h
theorem simple_brk {r : List UInt8} (h : brk r) : simple r = 0 := by unfold simple; rw [h.at' rfl]; rfl
theorem simple_cut {l r : List UInt8} (h : brk r) {k : Nat} (hk : k ≤ l.length) (hs : simple l ≤ k) : simple (l.take k ++ r) = simple l := by
  by_cases h0 : simple l = 0
  · rw [h0]
    unfold simple at h0 ⊢
    by_cases hp : at' cL l 0 = true
    · rw [if_pos hp] at h0
      have hl := at_len hp
      rw [drop_zero_run hp] at h0
      omega
    · have : at' cL (l.take k ++ r) 0 = false := by
        rcases Nat.eq_zero_or_pos k with rfl | hk0
        · rw [at_take_eq _ _ _ hk]; exact h.at' rfl
        · rw [at_take_lt _ _ _ hk hk0]; simpa using hp
      rw [this]; rfl
  · obtain ⟨hp, hr⟩ := simple_pos h0
    have hp' : at' cL (l.take k ++ r) 0 = true := by rw [at_take_lt _ _ _ hk (by omega)]; exact hp
    have e : simple (l.take k ++ r) = run cW (l.take k ++ r) := by unfold simple; rw [if_pos hp']
    rw [e, run_take_app (h.stop rfl) l k hk]
    omega
where
  drop_zero_run {l : List UInt8} (hp : at' cL l 0 = true) : run cW l = run cW (l.drop 1) + 1 := by
    cases l with
    | nil => simp [at'] at hp
    | cons b t =>
      have : cL (b.toNat : Int) = true := by simpa [at'] using hp
      simp [run, cW, this]
theorem further_brk {r : List UInt8} (h : brk r) : further r = 0 := by
  unfold further
  rcases h with rfl | ⟨t, rfl⟩
  · rfl
  · rfl
theorem further_cut {l r : List UInt8} (h : brk r) {k : Nat} (hk : k ≤ l.length) (h0 : further l ≠ 0) (hs : further l ≤ k) : further (l.take k ++ r) = further l := by
  unfold further at h0 hs ⊢
  by_cases hp : Lib.hasPrefix l [58, 58] = true
  · rw [if_pos hp] at h0 hs ⊢
    by_cases hz : simple (l.drop 2) = 0
    · rw [if_pos hz] at h0; exact absurd rfl h0
    · rw [if_neg hz] at hs ⊢
      have hl := pre_length hp
      simp only [List.length_cons, List.length_nil] at hl
      rw [pre_take l r _ hk (by simp; omega), if_pos hp, drop_take_app l r hk (by omega), simple_cut h (by rw [List.length_drop]; omega) (by omega), if_neg hz]
  · rw [if_neg hp] at h0; exact absurd rfl h0
theorem tail_eq (f : Nat) (x : List UInt8) : tail (f + 1) x = if further x = 0 then 0 else further x + tail f (x.drop (further x)) := rfl
theorem tail_cut {r : List UInt8} (h : brk r) (f : Nat) (l : List UInt8) : tail f (l.take (tail f l) ++ r) = tail f l := by
  induction f generalizing l with
  | zero => rfl
  | succ f ih =>
    have hl := tail_le (f + 1) l
    by_cases h0 : further l = 0
    · have e : tail (f + 1) l = 0 := by simp only [tail]; rw [if_pos h0]
      rw [e, List.take_zero, List.nil_append, tail_eq, if_pos (further_brk h)]
    · have e : tail (f + 1) l = further l + tail f (l.drop (further l)) := by simp only [tail]; rw [if_neg h0]
      have hf : further (l.take (tail (f + 1) l) ++ r) = further l := further_cut h hl h0 (by omega)
      have e2 : (l.take (tail (f + 1) l) ++ r).drop (further l) = (l.drop (further l)).take (tail f (l.drop (further l))) ++ r := by
        rw [drop_take_app l r hl (by omega)]
        congr 2; omega
      have e3 : tail (f + 1) (l.take (tail (f + 1) l) ++ r) = further l + tail f ((l.take (tail (f + 1) l) ++ r).drop (further l)) := by
        rw [tail_eq, hf, if_neg h0]
      rw [e3, e2, ih, e]
theorem word_brk {r : List UInt8} (h : brk r) : word r = 0 := by unfold word; rw [if_pos (simple_brk h)]
theorem word_cut {l r : List UInt8} (h : brk r) : word (l.take (word l) ++ r) = word l := by
  have hl := word_le l
  by_cases h0 : simple l = 0
  · have e : word l = 0 := by unfold word; rw [if_pos h0]
    rw [e]; simpa using word_brk h
  · have e : word l = simple l + tail l.length (l.drop (simple l)) := by unfold word; rw [if_neg h0]
    have hs : simple (l.take (word l) ++ r) = simple l := simple_cut h hl (by omega)
    have e2 : (l.take (word l) ++ r).drop (simple l) = (l.drop (simple l)).take (tail l.length (l.drop (simple l))) ++ r := by
      rw [drop_take_app l r hl (by omega)]
      congr 2; omega
    have e3 : ∀ x : List UInt8, word x = if simple x = 0 then 0 else simple x + tail x.length (x.drop (simple x)) := fun x => rfl
    have ht := tail_le l.length (l.drop (simple l))
    have hd : (l.drop (simple l)).length ≤ l.length := by rw [List.length_drop]; omega
    rw [e3 (l.take (word l) ++ r), hs, if_neg h0, e2]
    obtain ⟨M, hM⟩ : ∃ M, M = (l.take (word l) ++ r).length := ⟨_, rfl⟩
    rw [← hM]
    have hM2 : ((l.drop (simple l)).take (tail l.length (l.drop (simple l))) ++ r).length ≤ M := by
      rw [hM, List.length_append, List.length_append, List.length_take, List.length_take, List.length_drop]
      rw [List.length_drop] at ht
      omega
    rw [tail_fuel M (M + l.length) _ hM2 (by omega), e, tail_fuel l.length (M + l.length) (l.drop (simple l)) hd (by omega), tail_cut h]

/-! Escapes and operators. -/
theorem escape_cut (l : List UInt8) : escape (l.take (escape l)) = escape l := by
  have hl := escape_le l
  have key : ∀ k, k ≤ l.length → ∀ p j, j < k → at' p (l.take k) j = at' p l j := fun k hk p j hj => by
    have := at_take_lt p l [] hk hj
    rwa [List.append_nil] at this
  by_cases h1 : at' (· == 92) l 0 = true
  · by_cases h2 : at' cE l 1 = true
    · have e : escape l = 2 := by unfold escape; rw [if_pos h1, if_pos h2]
      rw [e] at hl ⊢
      unfold escape
      rw [key 2 hl _ 0 (by omega), key 2 hl _ 1 (by omega), if_pos h1, if_pos h2]
    · by_cases h3 : (at' (· == 117) l 1 && decide (4 ≤ run cH (l.drop 2))) = true
      · have e : escape l = 6 := by unfold escape; rw [if_pos h1, if_neg h2, if_pos h3]
        rw [e] at hl ⊢
        have hr : run cH ((l.take 6).drop 2) = 4 := by
          rw [List.drop_take, run_take]
          simp only [Bool.and_eq_true, decide_eq_true_eq] at h3
          omega
        unfold escape
        rw [key 6 hl _ 0 (by omega), key 6 hl _ 1 (by omega), key 6 hl _ 1 (by omega), if_pos h1, if_neg h2, hr]
        simp only [Bool.and_eq_true, decide_eq_true_eq] at h3
        rw [h3.1]; rfl
      · have e : escape l = 0 := by unfold escape; rw [if_pos h1, if_neg h2, if_neg h3]
        rw [e]; rfl
  · have e : escape l = 0 := by unfold escape; rw [if_neg h1]
    rw [e]; rfl
theorem oper_self : ∀ o ∈ opers, oper o = o.length := by decide +kernel
theorem oper_cut (l : List UInt8) : oper (l.take (oper l)) = oper l := by
  cases h : opers.find? (fun o => Lib.hasPrefix l o) with
  | none =>
    have e : oper l = 0 := by unfold oper; rw [h]
    rw [e]; rfl
  | some o =>
    have e : oper l = o.length := by unfold oper; rw [h]
    have hp := List.find?_some h
    have hm := List.mem_of_find?_eq_some h
    have : l.take o.length = o := by
      unfold Lib.hasPrefix at hp
      obtain ⟨t, rfl⟩ := List.isPrefixOf_iff_prefix.1 hp
      simp
    rw [e, this, oper_self o hm]

end Go.Proofs.YtdhmcfhpadabaaaDoor.Sg
