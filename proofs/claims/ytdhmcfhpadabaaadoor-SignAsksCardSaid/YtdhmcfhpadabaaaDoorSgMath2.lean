/-
  Mathematics of layer 3's other laws: names, digits, escapes, bytes.
-/
import Derived.Test.YtdhmcfhpadabaaaDoorSgMath
namespace Go.Proofs.YtdhmcfhpadabaaaDoor.Sg

def all (p : Int → Bool) (l : List UInt8) : Prop := ∀ b ∈ l, p (b.toNat : Int) = true
theorem all.run {p : Int → Bool} {l : List UInt8} (h : all p l) : run p l = l.length := by
  induction l with
  | nil => rfl
  | cons b r ih =>
    have h1 := h b (List.mem_cons_self ..)
    simp only [Sg.run, h1, if_true, List.length_cons]
    rw [ih fun x hx => h x (List.mem_cons_of_mem _ hx)]
theorem all.append {p : Int → Bool} {l r : List UInt8} (h : all p l) (k : all p r) : all p (l ++ r) := fun b hb => (List.mem_append.1 hb).elim (h b) (k b)
theorem all.mono {p q : Int → Bool} {l : List UInt8} (h : all p l) (hpq : ∀ n, p n = true → q n = true) : all q l := fun b hb => hpq _ (h b hb)
theorem LW (n : Int) (h : cL n = true) : cW n = true := by simp [cW, h]
theorem DW (n : Int) (h : cD n = true) : cW n = true := by simp [cW, h]

/-! Names. -/
theorem simple_letters {s : List UInt8} (h : all cL s) : simple s = s.length := by
  unfold simple
  cases s with
  | nil => rfl
  | cons b r =>
    have : at' cL (b :: r) 0 = true := by simp [at', h b (List.mem_cons_self ..)]
    rw [if_pos this, (h.mono LW).run]
theorem word_letters {s : List UInt8} (h : all cL s) : word s = s.length := by
  unfold word
  rw [simple_letters h]
  split
  · omega
  · have : s.drop s.length = [] := by simp
    rw [this]
    have : tail s.length [] = 0 := by rw [tail_fuel s.length 0 [] (by simp) (by simp)]; rfl
    rw [this]; rfl
theorem plain_letters {s : List UInt8} (h : all cL s) : plain s = (!s.isEmpty && !key s) := by
  unfold plain; rw [simple_letters h]; simp
theorem plain_digit {n : UInt8} (hn : cL (n.toNat : Int) = false) (s : List UInt8) : plain (n :: s) = false := by
  have : simple (n :: s) = 0 := by
    unfold simple
    have : at' cL (n :: s) 0 = false := by simp [at', hn]
    rw [this]; rfl
  unfold plain; rw [this]; simp
theorem key_nodigit : ∀ k ∈ keys, ∀ b ∈ k, cD (b.toNat : Int) = false := by decide +kernel
theorem key_digit {n : UInt8} (hn : cD (n.toNat : Int) = true) (s : List UInt8) : key (s ++ [n]) = false := by
  unfold key
  rw [Bool.eq_false_iff]
  intro h
  rw [List.contains_iff_mem] at h
  have := key_nodigit _ h n (by simp)
  rw [hn] at this; exact absurd this (by decide)
theorem plain_x {s : List UInt8} (h : all cL s) {n : UInt8} (hn : cD (n.toNat : Int) = true) : plain ([120] ++ s ++ [n]) = true := by
  have hk := key_digit hn ([120] ++ s)
  have hs : simple ([120] ++ s ++ [n]) = ([120] ++ s ++ [n]).length := by
    unfold simple
    have h0 : at' cL ([120] ++ s ++ [n]) 0 = true := by simp [at']; decide
    rw [if_pos h0]
    refine all.run ((all.append ?_ (h.mono LW)).append ?_)
    · intro b hb; simp at hb; subst hb; decide
    · intro b hb; simp at hb; subst hb; exact DW _ hn
  unfold plain
  rw [hk, hs]; simp
theorem plain_colons {s : List UInt8} (h : all cL s) : plain (s ++ [58, 58] ++ s) = false := by
  have hs : simple (s ++ [58, 58] ++ s) ≠ (s ++ [58, 58] ++ s).length := by
    unfold simple
    have e : run cW (s ++ [58, 58] ++ s) = s.length := by
      rw [List.append_assoc, run_all (h.mono LW).run]; rfl
    rw [e]
    simp only [List.length_append, List.length_cons, List.length_nil]
    split <;> omega
  unfold plain
  rw [decide_eq_false hs]; simp

/-! Numbers. -/
theorem decimal_int {a r : List UInt8} (ha : all cD a) (hr : stop cD r) (hd : at' (· == 46) r 0 = false) : decimal (a ++ r) = a.length := by
  have e : run cD (a ++ r) = a.length := by rw [run_all ha.run, run_stop hr]; rfl
  have e2 : at' (· == 46) (a ++ r) a.length = false := by
    have := at_take_eq (· == 46) a r (Nat.le_refl a.length)
    rw [List.take_length] at this
    rw [this, hd]
  unfold decimal; rw [e, e2]; rfl
theorem at_append (p : Int → Bool) (a r : List UInt8) : at' p (a ++ r) a.length = at' p r 0 := by
  have := at_take_eq p a r (Nat.le_refl a.length)
  rwa [List.take_length] at this
theorem decimal_dot {a b r : List UInt8} (ha : all cD a) (h1 : a ≠ []) (hb : all cD b) (hr : stop cD r) : decimal (a ++ 46 :: (b ++ r)) = a.length + 1 + b.length := by
  have e : run cD (a ++ 46 :: (b ++ r)) = a.length := by rw [run_all ha.run, run_stop (stop_cons (by decide) _)]; rfl
  have e2 : at' (· == 46) (a ++ 46 :: (b ++ r)) a.length = true := by rw [at_append]; simp [at']
  have e3 : (a ++ 46 :: (b ++ r)).drop (a.length + 1) = b ++ r := by rw [List.drop_append]; simp
  have e4 : run cD (b ++ r) = b.length := by rw [run_all hb.run, run_stop hr]; rfl
  have : a.length ≠ 0 := fun h => h1 (List.length_eq_zero_iff.1 h)
  unfold decimal; rw [e, e2, e3, e4, if_pos rfl, if_neg (by omega)]
theorem number_of {x r : List UInt8} (hx : x ≠ []) (h : decimal (x ++ r) = x.length) : number (x ++ r) = x.length + exponent r := by
  have : x.length ≠ 0 := fun h => hx (List.length_eq_zero_iff.1 h)
  unfold number; rw [h, if_neg this]; simp

/-- A number's front: digits, and a dot and digits, or not. -/
def front (a b : List UInt8) (dot : Bool) : List UInt8 := if dot then a ++ [46] ++ b else a
theorem front_ne {a b : List UInt8} {dot : Bool} (h : a ≠ []) : front a b dot ≠ [] := by unfold front; split <;> simp [h]
theorem front_dec {a b r : List UInt8} {dot : Bool} (ha : all cD a) (h1 : a ≠ []) (hb : all cD b) (hr : stop cD r) (hd : dot = true ∨ at' (· == 46) r 0 = false) : decimal (front a b dot ++ r) = (front a b dot).length := by
  unfold front
  cases dot with
  | true =>
    have := decimal_dot ha h1 hb hr
    simp only [if_true, List.append_assoc, List.cons_append, List.nil_append] at this ⊢
    rw [this]; simp; omega
  | false => simpa using decimal_int ha hr (hd.resolve_left (by decide))

def expo (minus : Bool) : List UInt8 := if minus then [101, 45] else [101]
theorem exponent_x (minus : Bool) : exponent (expo minus ++ [120]) = 0 := by cases minus <;> decide +kernel
theorem exponent_digits {p r : List UInt8} (hp : all cD p) (h1 : p ≠ []) (hr : stop cD r) (minus : Bool) : exponent (expo minus ++ (p ++ r)) = (expo minus).length + p.length := by
  have e4 : run cD (p ++ r) = p.length := by rw [run_all hp.run, run_stop hr]; rfl
  have hl : p.length ≠ 0 := fun h => h1 (List.length_eq_zero_iff.1 h)
  cases minus with
  | true =>
    have e1 : at' (fun n => n == 101 || n == 69) (expo true ++ (p ++ r)) 0 = true := by simp [expo, at']
    have e2 : signs (expo true ++ (p ++ r)) = 2 := by simp [expo, signs, at']
    unfold exponent; rw [if_pos e1, e2]
    have e3 : (expo true ++ (p ++ r)).drop 2 = p ++ r := rfl
    rw [e3, e4, if_neg hl]; rfl
  | false =>
    have e1 : at' (fun n => n == 101 || n == 69) (expo false ++ (p ++ r)) 0 = true := by simp [expo, at']
    have e2 : signs (expo false ++ (p ++ r)) = 1 := by
      cases p with
      | nil => exact absurd rfl h1
      | cons b t =>
        have hb := hp b (List.mem_cons_self ..)
        have hb2 : ((b.toNat : Int) == 43 || (b.toNat : Int) == 45) = false := by
          simp only [cD, Bool.and_eq_true, decide_eq_true_eq] at hb
          simp only [Bool.or_eq_false_iff, beq_eq_false_iff_ne]; omega
        have e5 : at' (fun n => n == 43 || n == 45) (expo false ++ (b :: t ++ r)) 1 = false := by
          have e6 : (expo false ++ (b :: t ++ r)).getD 1 0 = b := rfl
          unfold at'; rw [e6]; show (_ && ((b.toNat : Int) == 43 || (b.toNat : Int) == 45)) = false; rw [hb2, Bool.and_false]
        unfold signs; rw [e5]; rfl
    unfold exponent; rw [if_pos e1, e2]
    have e3 : (expo false ++ (p ++ r)).drop 1 = p ++ r := rfl
    rw [e3, e4, if_neg hl]; rfl

theorem num_x {a b : List UInt8} {dot : Bool} (ha : all cD a) (h1 : a ≠ []) (hb : all cD b) (minus : Bool) : number (front a b dot ++ expo minus ++ [120]) = (front a b dot).length := by
  rw [List.append_assoc, number_of (front_ne h1) (front_dec ha h1 hb (by cases minus <;> exact stop_cons (by decide) _) (.inr (by cases minus <;> rfl))), exponent_x]; rfl
theorem num_power {a b p r : List UInt8} {dot : Bool} (ha : all cD a) (h1 : a ≠ []) (hb : all cD b) (hp : all cD p) (h2 : p ≠ []) (hr : stop cD r) (minus : Bool) :
    number (front a b dot ++ expo minus ++ p ++ r) = (front a b dot ++ expo minus ++ p).length := by
  rw [List.append_assoc, List.append_assoc, number_of (front_ne h1) (front_dec ha h1 hb (by cases minus <;> exact stop_cons (by decide) _) (.inr (by cases minus <;> rfl))), exponent_digits hp h2 hr]
  simp only [List.length_append]; omega
theorem num_plain {a b : List UInt8} {dot : Bool} (ha : all cD a) (h1 : a ≠ []) (hb : all cD b) : number (front a b dot) = (front a b dot).length := by
  have := number_of (x := front a b dot) (r := []) (front_ne h1) (front_dec (r := []) ha h1 hb (stop_nil _) (.inr rfl))
  rw [List.append_nil] at this
  rw [this]; rfl
theorem num_dots {a b : List UInt8} (ha : all cD a) (h1 : a ≠ []) (hb : all cD b) (dot : Bool) : number (front a b dot ++ [46, 46]) = (front a b dot).length + (if dot then 0 else 1) := by
  cases dot with
  | true => rw [number_of (front_ne h1) (front_dec ha h1 hb (stop_cons (by decide) _) (.inl rfl))]; rfl
  | false =>
    have e : decimal (a ++ [46] ++ [46]) = a.length + 1 := by
      have := decimal_dot (b := []) (r := [46]) ha h1 (by intro b hb; simp at hb) (stop_cons (by decide) _)
      simpa using this
    have := number_of (x := a ++ [46]) (r := [46]) (by simp) (by rw [e]; simp)
    rw [List.append_assoc] at this
    unfold front
    simp only [if_false, Bool.false_eq_true]
    exact this.trans (by simp; rfl)

/-! Escapes. -/
theorem escape_six (a b c d : UInt8) (r : List UInt8) : escape (92 :: 117 :: a :: b :: c :: d :: r) = if cH (a.toNat : Int) && cH (b.toNat : Int) && cH (c.toNat : Int) && cH (d.toNat : Int) then 6 else 0 := by
  have e0 : at' (· == 92) (92 :: 117 :: a :: b :: c :: d :: r) 0 = true := by simp [at']
  have e1 : at' cE (92 :: 117 :: a :: b :: c :: d :: r) 1 = false := by simp [at']; decide
  have e2 : at' (· == 117) (92 :: 117 :: a :: b :: c :: d :: r) 1 = true := by simp [at']
  unfold escape
  rw [if_pos e0, e1, e2]
  simp only [Bool.false_eq_true, if_false, Bool.true_and, List.drop_succ_cons, List.drop_zero, run]
  cases cH (a.toNat : Int) <;> cases cH (b.toNat : Int) <;> cases cH (c.toNat : Int) <;> cases cH (d.toNat : Int) <;> simp
theorem escape_five (a b c : UInt8) : escape [92, 117, a, b, c] = 0 := by
  have e0 : at' (· == 92) [92, 117, a, b, c] 0 = true := by simp [at']
  have e1 : at' cE [92, 117, a, b, c] 1 = false := by simp [at']; decide
  have e2 : at' (· == 117) [92, 117, a, b, c] 1 = true := by simp [at']
  unfold escape
  rw [if_pos e0, e1, e2]
  have := run_le cH (([92, 117, a, b, c] : List UInt8).drop 2)
  simp only [List.drop_succ_cons, List.drop_zero, List.length_cons, List.length_nil] at this
  have h : ¬ 4 ≤ run cH [a, b, c] := by omega
  simp [h]

/-! Bytes. -/
theorem apart (n : Int) : (if cL n then 1 else 0) + (if cD n then 1 else 0) + (if cB n then 1 else 0) ≤ (1 : Int) := by
  by_cases h1 : cL n = true
  · have h2 : cD n = false := by
      simp only [cL, cD, Bool.or_eq_true, Bool.and_eq_true, decide_eq_true_eq, beq_iff_eq, Bool.and_eq_false_iff, decide_eq_false_iff_not] at h1 ⊢; omega
    have h3 : cB n = false := by
      simp only [cL, cB, Bool.or_eq_true, Bool.and_eq_true, decide_eq_true_eq, beq_iff_eq, Bool.or_eq_false_iff, beq_eq_false_iff_ne] at h1 ⊢; omega
    rw [h1, h2, h3]; decide
  · have h1 : cL n = false := by simpa using h1
    by_cases h2 : cD n = true
    · have h3 : cB n = false := by
        simp only [cD, cB, Bool.and_eq_true, decide_eq_true_eq, Bool.or_eq_false_iff, beq_eq_false_iff_ne] at h2 ⊢; omega
      rw [h1, h2, h3]; decide
    · have h2 : cD n = false := by simpa using h2
      rw [h1, h2]; cases cB n <;> decide
theorem word_first (b : UInt8) (r : List UInt8) : decide (0 < word (b :: r)) = cL (b.toNat : Int) := by
  unfold word
  by_cases h : cL (b.toNat : Int) = true
  · have e : simple (b :: r) ≠ 0 := by
      unfold simple
      have : at' cL (b :: r) 0 = true := by simp [at', h]
      rw [if_pos this]; simp [run, LW _ h]
    rw [if_neg e, h]
    exact decide_eq_true (by omega)
  · have e : simple (b :: r) = 0 := by
      unfold simple
      have : at' cL (b :: r) 0 = false := by simpa [at'] using h
      rw [this]; rfl
    rw [if_pos e]
    simp at h; rw [h]; rfl
theorem number_first (b : UInt8) (r : List UInt8) : number (b :: r) = 0 ∨ cD (b.toNat : Int) = true ∨ (b.toNat : Int) = 46 := by
  by_cases h : cD (b.toNat : Int) = true
  · exact .inr (.inl h)
  · by_cases h2 : (b.toNat : Int) = 46
    · exact .inr (.inr h2)
    · left
      have e : run cD (b :: r) = 0 := run_stop (stop_cons (by simpa using h) r)
      have e2 : at' (· == 46) (b :: r) 0 = false := by simp [at', h2]
      have e3 : decimal (b :: r) = 0 := by unfold decimal; rw [e, e2]; rfl
      unfold number; rw [if_pos e3]
theorem number_digit (b : UInt8) (r : List UInt8) (h : cD (b.toNat : Int) = true) : 0 < number (b :: r) := by
  have e : 0 < decimal (b :: r) := by
    have e1 : 0 < run cD (b :: r) := by simp [run, h]
    unfold decimal
    split
    · rw [if_neg (by omega)]; omega
    · exact e1
  unfold number; rw [if_neg (by omega)]; omega
theorem escape_first (b : UInt8) (r : List UInt8) : escape (b :: r) = 0 ∨ (b.toNat : Int) = 92 := by
  by_cases h2 : (b.toNat : Int) = 92
  · exact .inr h2
  · left
    have e2 : at' (· == 92) (b :: r) 0 = false := by simp [at', h2]
    unfold escape; rw [e2]; rfl

end Go.Proofs.YtdhmcfhpadabaaaDoor.Sg
