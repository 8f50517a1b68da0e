/- Ground of the law: UtfRef2, PaTot, SgFns2. -/
import Derived.Test.YthadnhpkeljdoaaQh04
import Derived.Test.YthadnhpkeljdoaaQh05
import Derived.IntWalk
set_option maxRecDepth 100000
set_option maxHeartbeats 8000000
set_option linter.unusedVariables false
set_option linter.unusedSimpArgs false
namespace Go.Proofs.Ythadnhpkeljdoaa.utf
open Go.Lib (hid)
open Go.RowKit
theorem one_empty (s : ByteArray) (h : s.size = 0) (w : World) : Calls Try.prog 42 #[.string s] w fun e w'=>e = .returned (.int .i64 0) ∧ Below w.heap.size w w':=by
 have hl : s.data.toList = []:=List.length_eq_zero_iff.1 (by rw [size_toList];exact h)
 have hs : s = ⟨#[]⟩:=by cases s;simp at hl;subst hl;rfl
 subst hs
 go_enter Try.func42,Try.ntmps42
 go_wp2_with fail
 go_ret
 exact ⟨rfl,Below.refl _ _⟩
theorem ne_empty (s : ByteArray) (h : 0 < s.size) : s.toList.isEmpty = false:=by
 rw [Lib.toList_data]
 cases hl : s.data.toList with
 | nil=>rw [← size_toList,hl] at h;exact absurd h (by decide)
 | cons a r=>rfl
theorem one_none1 (s : ByteArray) (hs : s.size ≤ 70000) (h0 : 0 < s.size) (h : 128 ≤ bN s 0 ∧ bN s 0 < 194) (w : World) : Calls Try.prog 42 #[.string s] w fun e w'=>e = .returned (.int .i64 0) ∧ Below w.heap.size w w':=by
 have hb:=bN_at s 0 h0
 have hm:=more_1 ((s[0]'h0).toNat : Int) (by omega)
 have hne:=ne_empty s h0
 have HB:=hid hb;have HM:=hid hm
 clear hb hm
 go_enter Try.func42,Try.ntmps42
 go_wp2_with fail
 ((with_reducible refine (HM.out _).mono ?_);rintro e w1 ⟨rfl,rfl⟩)
 go_wp2_with fail
 go_ret
 exact ⟨rfl,Below.refl _ _⟩
theorem one_none2 (s : ByteArray) (hs : s.size ≤ 70000) (h0 : 0 < s.size) (h : 245 ≤ bN s 0 ∧ bN s 0 < 256) (w : World) : Calls Try.prog 42 #[.string s] w fun e w'=>e = .returned (.int .i64 0) ∧ Below w.heap.size w w':=by
 have hb:=bN_at s 0 h0
 have hm:=more_5 ((s[0]'h0).toNat : Int) (by omega)
 have hne:=ne_empty s h0
 have HB:=hid hb;have HM:=hid hm
 clear hb hm
 go_enter Try.func42,Try.ntmps42
 go_wp2_with fail
 ((with_reducible refine (HM.out _).mono ?_);rintro e w1 ⟨rfl,rfl⟩)
 go_wp2_with fail
 go_ret
 exact ⟨rfl,Below.refl _ _⟩
theorem one_short1 (s : ByteArray) (hs : s.size ≤ 1) (h0 : 0 < s.size) (h : 194 ≤ bN s 0 ∧ bN s 0 ≤ 223) (w : World) : Calls Try.prog 42 #[.string s] w fun e w'=>e = .returned (.int .i64 0) ∧ Below w.heap.size w w':=by
 have hb:=bN_at s 0 h0
 have hm:=more_2 ((s[0]'h0).toNat : Int) (by omega)
 have hne:=ne_empty s h0
 have HB:=hid hb;have HM:=hid hm
 have t1 : decide ((s.size : Int) ≤ 1) = true:=decide_eq_true (by omega)
 clear hb hm
 go_enter Try.func42,Try.ntmps42
 go_wp2_with fail
 ((with_reducible refine (HM.out _).mono ?_);rintro e w1 ⟨rfl,rfl⟩)
 go_wp2_with fail
 ((with_reducible refine (HM.out _).mono ?_);rintro e w1 ⟨rfl,rfl⟩)
 go_wp2_with fail
 go_ret
 exact ⟨rfl,Below.refl _ _⟩
theorem one_short2 (s : ByteArray) (hs : s.size ≤ 2) (h0 : 0 < s.size) (h : 224 ≤ bN s 0 ∧ bN s 0 ≤ 239) (w : World) : Calls Try.prog 42 #[.string s] w fun e w'=>e = .returned (.int .i64 0) ∧ Below w.heap.size w w':=by
 have hb:=bN_at s 0 h0
 have hm:=more_3 ((s[0]'h0).toNat : Int) (by omega)
 have hne:=ne_empty s h0
 have HB:=hid hb;have HM:=hid hm
 have t1 : decide ((s.size : Int) ≤ 2) = true:=decide_eq_true (by omega)
 clear hb hm
 go_enter Try.func42,Try.ntmps42
 go_wp2_with fail
 ((with_reducible refine (HM.out _).mono ?_);rintro e w1 ⟨rfl,rfl⟩)
 go_wp2_with fail
 ((with_reducible refine (HM.out _).mono ?_);rintro e w1 ⟨rfl,rfl⟩)
 go_wp2_with fail
 go_ret
 exact ⟨rfl,Below.refl _ _⟩
theorem one_short3 (s : ByteArray) (hs : s.size ≤ 3) (h0 : 0 < s.size) (h : 240 ≤ bN s 0 ∧ bN s 0 ≤ 244) (w : World) : Calls Try.prog 42 #[.string s] w fun e w'=>e = .returned (.int .i64 0) ∧ Below w.heap.size w w':=by
 have hb:=bN_at s 0 h0
 have hm:=more_4 ((s[0]'h0).toNat : Int) (by omega)
 have hne:=ne_empty s h0
 have HB:=hid hb;have HM:=hid hm
 have t1 : decide ((s.size : Int) ≤ 3) = true:=decide_eq_true (by omega)
 clear hb hm
 go_enter Try.func42,Try.ntmps42
 go_wp2_with fail
 ((with_reducible refine (HM.out _).mono ?_);rintro e w1 ⟨rfl,rfl⟩)
 go_wp2_with fail
 ((with_reducible refine (HM.out _).mono ?_);rintro e w1 ⟨rfl,rfl⟩)
 go_wp2_with fail
 go_ret
 exact ⟨rfl,Below.refl _ _⟩
theorem one_zero (s : ByteArray) (hs : s.size ≤ 70000) (h0 : 0 < s.size) (h : bN s 0 < 128) (w : World) : Calls Try.prog 42 #[.string s] w fun e w'=>e = .returned (.int .i64 1) ∧ Below w.heap.size w w':=by
 have hb:=bN_at s 0 h0
 have hm:=more_0 ((s[0]'h0).toNat : Int) (by omega)
 have hne:=ne_empty s h0
 have hb2 : (s[0]'h0).toNat < 128:=by omega
 have HB:=hid hb;have HM:=hid hm
 have hse : ¬ s = ByteArray.empty:=fun e=>by rw [e] at h0;exact absurd h0 (by decide)
 have t1 : decide (s = ByteArray.empty) = false:=decide_eq_false hse
 clear hb hm
 go_enter Try.func42,Try.ntmps42
 go_wp2_with fail
 ((with_reducible refine (HM.out _).mono ?_);rintro e w1 ⟨rfl,rfl⟩)
 go_wp2_with fail
 ((with_reducible refine (HM.out _).mono ?_);rintro e w1 ⟨rfl,rfl⟩)
 go_wp2_with fail
 ((with_reducible refine (HM.out _).mono ?_);rintro e w1 ⟨rfl,rfl⟩)
 go_wp2_with fail
 go_loop [4,5] (fun r i=>i = .int .i64 1 ∧ r = .int .i64 ((s[0]'h0).toNat : Int)) (fun _ _=>0)
 case atStart=>exact ⟨rfl,rfl⟩
 case round =>
  obtain ⟨rfl,rfl⟩:=hrel
  go_wp2_with fail
  go_ret
  exact ⟨rfl,(Below.refl _ w).alloc (Nat.le_refl _) _⟩
theorem one_1 (s : ByteArray) (hs : s.size ≤ 70000) (h0 : 0 < s.size) (hl : 1 < s.size) (h : 194 ≤ bN s 0 ∧ bN s 0 ≤ 223) (w : World) : Calls Try.prog 42 #[.string s] w fun e w'=>e = .returned (.int .i64 ((oneN s.size (bN s 0) (bN s 1) (bN s 2) (bN s 3) : Nat) : Int)) ∧ Below w.heap.size w w':=by
 have hb:=bN_at s 0 h0
 have hm:=more_2 ((s[0]'h0).toNat : Int) (by omega)
 have hne:=ne_empty s h0
 have hb2 : (s[0]'h0).toNat ≤ 255:=by omega
 have hrb:=RI_bd s ((bN s 0 : Int) % 32) (by omega) (by omega)
 have HB:=hid hb;have HM:=hid hm;have HRB:=hid hrb
 have t1 : decide ((s.size : Int) ≤ 1) = false:=decide_eq_false (by omega)
 clear hb hm hrb
 go_enter Try.func42,Try.ntmps42
 go_wp2_with fail
 ((with_reducible refine (HM.out _).mono ?_);rintro e w1 ⟨rfl,rfl⟩)
 go_wp2_with fail
 ((with_reducible refine (HM.out _).mono ?_);rintro e w1 ⟨rfl,rfl⟩)
 go_wp2_with fail
 ((with_reducible refine (HM.out _).mono ?_);rintro e w1 ⟨rfl,rfl⟩)
 go_wp2_with fail
 rw [HB.out]
 go_loop [4,5] (fun r k=>∃ i : Nat,1 ≤ i ∧ i ≤ 2 ∧ k = .int .i64 (i : Int) ∧ r = .int .i64 (RI s ((bN s 0 : Int) % 32) i) ∧ (∀ j,1 ≤ j → j < i → 128 ≤ bN s j ∧ bN s j ≤ 191)) (fun _ k=>2 - (intOf k).toNat)
 case atStart=>exact ⟨1,Nat.le_refl _,by omega,rfl,rfl,fun j h1 h2=>by omega⟩
 case round =>
  obtain ⟨i,hi1,hi2,rfl,rfl,hcont⟩:=hrel
  have HCO:=hid hcont
  clear hcont
  have hbd:=HRB.out i (by omega)
  by_cases hin : i ≤ 1
  ·have hilt : i < s.size:=by omega
   have hbi:=bN_at s i hilt
   have hsucc:=RI_succ s ((bN s 0 : Int) % 32) i hi1
   have HBI:=hid hbi;have HSU:=hid hsucc
   have hb256:=bN_lt s i
   rw [← hbi] at hb256
   have tin : decide ((i : Int) ≤ 1) = true:=decide_eq_true (by omega)
   have tin2 : decide (i ≤ 1) = true:=decide_eq_true (by omega)
   clear hbi hsucc
   by_cases hlo : (s[i]'hilt).toNat < 128
   ·have t2 : decide (((s[i]'hilt).toNat : Int) < 128) = true:=decide_eq_true (by omega)
    have hz : oneN s.size (bN s 0) (bN s 1) (bN s 2) (bN s 3) = 0:=by
     have hbi:=HBI.out
     have hii : i = 1:=by omega
     have hor : (bN s 1 < 128 ∨ 191 < bN s 1):=by rcases hii with rfl <;> omega
     exact cont1 _ _ _ _ _ h hor (bN_lt s 1)
    have HZ:=hid hz
    clear hz
    go_wp2_with fail
    go_ret
    exact ⟨by rw [HZ.out];rfl,Below.refl _ _⟩
   ·have t2 : decide (((s[i]'hilt).toNat : Int) < 128) = false:=decide_eq_false (by omega)
    by_cases hhi : 191 < (s[i]'hilt).toNat
    ·have t3 : decide ((191 : Int) < ((s[i]'hilt).toNat : Int)) = true:=decide_eq_true (by omega)
     have hz : oneN s.size (bN s 0) (bN s 1) (bN s 2) (bN s 3) = 0:=by
      have hbi:=HBI.out
      have hii : i = 1:=by omega
      have hor : (bN s 1 < 128 ∨ 191 < bN s 1):=by rcases hii with rfl <;> omega
      exact cont1 _ _ _ _ _ h hor (bN_lt s 1)
     have HZ:=hid hz
     clear hz
     go_wp2_with fail
     go_ret
     exact ⟨by rw [HZ.out];rfl,Below.refl _ _⟩
    ·have t3 : decide ((191 : Int) < ((s[i]'hilt).toNat : Int)) = false:=decide_eq_false (by omega)
     go_wp2_with fail
     go_round
     case rel=>exact ⟨i + 1,by omega,by omega,by go_num,by rw [HSU.out,← HBI.out],fun j h1 h2=>by
      by_cases e : j = i
      ·subst e;have:=HBI.out;omega
      ·exact HCO.out j h1 (by omega)⟩
     case measure=>simp [intOf];omega
  ·obtain rfl : i = 2:=by omega
   obtain ⟨R,hR⟩ : ∃ R,RI s ((bN s 0 : Int) % 32) 2 = R:=⟨_,rfl⟩
   have hcont:=HCO.out
   obtain ⟨hf0,hf1⟩:=fin1 s.size (bN s 0) (bN s 1) (bN s 2) (bN s 3) h hl (hcont 1 (by omega) (by omega)) R (by rw [← hR];rfl)
   rw [hR] at hbd ⊢
   have tend : decide (((2 : Nat) : Int) ≤ 1) = false:=by decide
   clear hcont hR
   by_cases c1 : R < 128
   ·have HZ:=hid (hf0 (.inl c1))
    have t4 : decide (R < 128) = true:=decide_eq_true c1
    clear hf0 hf1
    go_wp2_with fail
    go_ret
    exact ⟨by rw [HZ.out];rfl,(Below.refl _ w).alloc (Nat.le_refl _) _⟩
   ·have t4 : decide (R < 128) = false:=decide_eq_false c1
    by_cases c2 : 55296 ≤ R ∧ R ≤ 57343
    ·have HZ:=hid (hf0 (.inr (.inl c2)))
     have t5 : decide (55296 ≤ R) = true:=decide_eq_true c2.1
     have t6 : decide (R ≤ 57343) = true:=decide_eq_true c2.2
     clear hf0 hf1 c2
     go_wp2_with fail
     go_ret
     exact ⟨by rw [HZ.out];rfl,(Below.refl _ w).alloc (Nat.le_refl _) _⟩
    ·by_cases c3 : 1114111 < R
     ·have HZ:=hid (hf0 (.inr (.inr c3)))
      have t5 : decide (55296 ≤ R) = true:=decide_eq_true (by omega)
      have t6 : decide (R ≤ 57343) = false:=decide_eq_false (by omega)
      have t7 : decide (1114111 < R) = true:=decide_eq_true c3
      clear hf0 hf1 c2
      go_wp2_with fail
      go_ret
      exact ⟨by rw [HZ.out];rfl,(Below.refl _ w).alloc (Nat.le_refl _) _⟩
     ·have HZ:=hid (hf1 (by unfold Far;omega))
      have t7 : decide (1114111 < R) = false:=decide_eq_false c3
      clear hf0 hf1
      by_cases c4 : 55296 ≤ R
      ·have t5 : decide (55296 ≤ R) = true:=decide_eq_true c4
       have t6 : decide (R ≤ 57343) = false:=decide_eq_false (by omega)
       clear c2
       go_wp2_with fail
       go_ret
       exact ⟨by rw [HZ.out];rfl,(Below.refl _ w).alloc (Nat.le_refl _) _⟩
      ·have t5 : decide (55296 ≤ R) = false:=decide_eq_false c4
       clear c2
       go_wp2_with fail
       go_ret
       exact ⟨by rw [HZ.out];rfl,(Below.refl _ w).alloc (Nat.le_refl _) _⟩
theorem one_2 (s : ByteArray) (hs : s.size ≤ 70000) (h0 : 0 < s.size) (hl : 2 < s.size) (h : 224 ≤ bN s 0 ∧ bN s 0 ≤ 239) (w : World) : Calls Try.prog 42 #[.string s] w fun e w'=>e = .returned (.int .i64 ((oneN s.size (bN s 0) (bN s 1) (bN s 2) (bN s 3) : Nat) : Int)) ∧ Below w.heap.size w w':=by
 have hb:=bN_at s 0 h0
 have hm:=more_3 ((s[0]'h0).toNat : Int) (by omega)
 have hne:=ne_empty s h0
 have hb2 : (s[0]'h0).toNat ≤ 255:=by omega
 have hrb:=RI_bd s ((bN s 0 : Int) % 16) (by omega) (by omega)
 have HB:=hid hb;have HM:=hid hm;have HRB:=hid hrb
 have t1 : decide ((s.size : Int) ≤ 2) = false:=decide_eq_false (by omega)
 clear hb hm hrb
 go_enter Try.func42,Try.ntmps42
 go_wp2_with fail
 ((with_reducible refine (HM.out _).mono ?_);rintro e w1 ⟨rfl,rfl⟩)
 go_wp2_with fail
 ((with_reducible refine (HM.out _).mono ?_);rintro e w1 ⟨rfl,rfl⟩)
 go_wp2_with fail
 ((with_reducible refine (HM.out _).mono ?_);rintro e w1 ⟨rfl,rfl⟩)
 go_wp2_with fail
 rw [HB.out]
 go_loop [4,5] (fun r k=>∃ i : Nat,1 ≤ i ∧ i ≤ 3 ∧ k = .int .i64 (i : Int) ∧ r = .int .i64 (RI s ((bN s 0 : Int) % 16) i) ∧ (∀ j,1 ≤ j → j < i → 128 ≤ bN s j ∧ bN s j ≤ 191)) (fun _ k=>3 - (intOf k).toNat)
 case atStart=>exact ⟨1,Nat.le_refl _,by omega,rfl,rfl,fun j h1 h2=>by omega⟩
 case round =>
  obtain ⟨i,hi1,hi2,rfl,rfl,hcont⟩:=hrel
  have HCO:=hid hcont
  clear hcont
  have hbd:=HRB.out i (by omega)
  by_cases hin : i ≤ 2
  ·have hilt : i < s.size:=by omega
   have hbi:=bN_at s i hilt
   have hsucc:=RI_succ s ((bN s 0 : Int) % 16) i hi1
   have HBI:=hid hbi;have HSU:=hid hsucc
   have hb256:=bN_lt s i
   rw [← hbi] at hb256
   have tin : decide ((i : Int) ≤ 2) = true:=decide_eq_true (by omega)
   have tin2 : decide (i ≤ 2) = true:=decide_eq_true (by omega)
   clear hbi hsucc
   by_cases hlo : (s[i]'hilt).toNat < 128
   ·have t2 : decide (((s[i]'hilt).toNat : Int) < 128) = true:=decide_eq_true (by omega)
    have hz : oneN s.size (bN s 0) (bN s 1) (bN s 2) (bN s 3) = 0:=by
     have hbi:=HBI.out
     have hii : i = 1 ∨ i = 2:=by omega
     have hor : ((bN s 1 < 128 ∨ 191 < bN s 1) ∨ (bN s 2 < 128 ∨ 191 < bN s 2)):=by rcases hii with rfl | rfl <;> omega
     exact cont2 _ _ _ _ _ h hor (bN_lt s 1) (bN_lt s 2)
    have HZ:=hid hz
    clear hz
    go_wp2_with fail
    go_ret
    exact ⟨by rw [HZ.out];rfl,Below.refl _ _⟩
   ·have t2 : decide (((s[i]'hilt).toNat : Int) < 128) = false:=decide_eq_false (by omega)
    by_cases hhi : 191 < (s[i]'hilt).toNat
    ·have t3 : decide ((191 : Int) < ((s[i]'hilt).toNat : Int)) = true:=decide_eq_true (by omega)
     have hz : oneN s.size (bN s 0) (bN s 1) (bN s 2) (bN s 3) = 0:=by
      have hbi:=HBI.out
      have hii : i = 1 ∨ i = 2:=by omega
      have hor : ((bN s 1 < 128 ∨ 191 < bN s 1) ∨ (bN s 2 < 128 ∨ 191 < bN s 2)):=by rcases hii with rfl | rfl <;> omega
      exact cont2 _ _ _ _ _ h hor (bN_lt s 1) (bN_lt s 2)
     have HZ:=hid hz
     clear hz
     go_wp2_with fail
     go_ret
     exact ⟨by rw [HZ.out];rfl,Below.refl _ _⟩
    ·have t3 : decide ((191 : Int) < ((s[i]'hilt).toNat : Int)) = false:=decide_eq_false (by omega)
     go_wp2_with fail
     go_round
     case rel=>exact ⟨i + 1,by omega,by omega,by go_num,by rw [HSU.out,← HBI.out],fun j h1 h2=>by
      by_cases e : j = i
      ·subst e;have:=HBI.out;omega
      ·exact HCO.out j h1 (by omega)⟩
     case measure=>simp [intOf];omega
  ·obtain rfl : i = 3:=by omega
   obtain ⟨R,hR⟩ : ∃ R,RI s ((bN s 0 : Int) % 16) 3 = R:=⟨_,rfl⟩
   have hcont:=HCO.out
   obtain ⟨hf0,hf1⟩:=fin2 s.size (bN s 0) (bN s 1) (bN s 2) (bN s 3) h hl (hcont 1 (by omega) (by omega)) (hcont 2 (by omega) (by omega)) R (by rw [← hR];rfl)
   rw [hR] at hbd ⊢
   have tend : decide (((3 : Nat) : Int) ≤ 2) = false:=by decide
   clear hcont hR
   by_cases c1 : R < 2048
   ·have HZ:=hid (hf0 (.inl c1))
    have t4 : decide (R < 2048) = true:=decide_eq_true c1
    clear hf0 hf1
    go_wp2_with fail
    go_ret
    exact ⟨by rw [HZ.out];rfl,(Below.refl _ w).alloc (Nat.le_refl _) _⟩
   ·have t4 : decide (R < 2048) = false:=decide_eq_false c1
    by_cases c2 : 55296 ≤ R ∧ R ≤ 57343
    ·have HZ:=hid (hf0 (.inr (.inl c2)))
     have t5 : decide (55296 ≤ R) = true:=decide_eq_true c2.1
     have t6 : decide (R ≤ 57343) = true:=decide_eq_true c2.2
     clear hf0 hf1 c2
     go_wp2_with fail
     go_ret
     exact ⟨by rw [HZ.out];rfl,(Below.refl _ w).alloc (Nat.le_refl _) _⟩
    ·by_cases c3 : 1114111 < R
     ·have HZ:=hid (hf0 (.inr (.inr c3)))
      have t5 : decide (55296 ≤ R) = true:=decide_eq_true (by omega)
      have t6 : decide (R ≤ 57343) = false:=decide_eq_false (by omega)
      have t7 : decide (1114111 < R) = true:=decide_eq_true c3
      clear hf0 hf1 c2
      go_wp2_with fail
      go_ret
      exact ⟨by rw [HZ.out];rfl,(Below.refl _ w).alloc (Nat.le_refl _) _⟩
     ·have HZ:=hid (hf1 (by unfold Far;omega))
      have t7 : decide (1114111 < R) = false:=decide_eq_false c3
      clear hf0 hf1
      by_cases c4 : 55296 ≤ R
      ·have t5 : decide (55296 ≤ R) = true:=decide_eq_true c4
       have t6 : decide (R ≤ 57343) = false:=decide_eq_false (by omega)
       clear c2
       go_wp2_with fail
       go_ret
       exact ⟨by rw [HZ.out];rfl,(Below.refl _ w).alloc (Nat.le_refl _) _⟩
      ·have t5 : decide (55296 ≤ R) = false:=decide_eq_false c4
       clear c2
       go_wp2_with fail
       go_ret
       exact ⟨by rw [HZ.out];rfl,(Below.refl _ w).alloc (Nat.le_refl _) _⟩
theorem one_3 (s : ByteArray) (hs : s.size ≤ 70000) (h0 : 0 < s.size) (hl : 3 < s.size) (h : 240 ≤ bN s 0 ∧ bN s 0 ≤ 244) (w : World) : Calls Try.prog 42 #[.string s] w fun e w'=>e = .returned (.int .i64 ((oneN s.size (bN s 0) (bN s 1) (bN s 2) (bN s 3) : Nat) : Int)) ∧ Below w.heap.size w w':=by
 have hb:=bN_at s 0 h0
 have hm:=more_4 ((s[0]'h0).toNat : Int) (by omega)
 have hne:=ne_empty s h0
 have hb2 : (s[0]'h0).toNat ≤ 255:=by omega
 have hrb:=RI_bd s ((bN s 0 : Int) % 8) (by omega) (by omega)
 have HB:=hid hb;have HM:=hid hm;have HRB:=hid hrb
 have t1 : decide ((s.size : Int) ≤ 3) = false:=decide_eq_false (by omega)
 clear hb hm hrb
 go_enter Try.func42,Try.ntmps42
 go_wp2_with fail
 ((with_reducible refine (HM.out _).mono ?_);rintro e w1 ⟨rfl,rfl⟩)
 go_wp2_with fail
 ((with_reducible refine (HM.out _).mono ?_);rintro e w1 ⟨rfl,rfl⟩)
 go_wp2_with fail
 ((with_reducible refine (HM.out _).mono ?_);rintro e w1 ⟨rfl,rfl⟩)
 go_wp2_with fail
 rw [HB.out]
 go_loop [4,5] (fun r k=>∃ i : Nat,1 ≤ i ∧ i ≤ 4 ∧ k = .int .i64 (i : Int) ∧ r = .int .i64 (RI s ((bN s 0 : Int) % 8) i) ∧ (∀ j,1 ≤ j → j < i → 128 ≤ bN s j ∧ bN s j ≤ 191)) (fun _ k=>4 - (intOf k).toNat)
 case atStart=>exact ⟨1,Nat.le_refl _,by omega,rfl,rfl,fun j h1 h2=>by omega⟩
 case round =>
  obtain ⟨i,hi1,hi2,rfl,rfl,hcont⟩:=hrel
  have HCO:=hid hcont
  clear hcont
  have hbd:=HRB.out i (by omega)
  by_cases hin : i ≤ 3
  ·have hilt : i < s.size:=by omega
   have hbi:=bN_at s i hilt
   have hsucc:=RI_succ s ((bN s 0 : Int) % 8) i hi1
   have HBI:=hid hbi;have HSU:=hid hsucc
   have hb256:=bN_lt s i
   rw [← hbi] at hb256
   have tin : decide ((i : Int) ≤ 3) = true:=decide_eq_true (by omega)
   have tin2 : decide (i ≤ 3) = true:=decide_eq_true (by omega)
   clear hbi hsucc
   by_cases hlo : (s[i]'hilt).toNat < 128
   ·have t2 : decide (((s[i]'hilt).toNat : Int) < 128) = true:=decide_eq_true (by omega)
    have hz : oneN s.size (bN s 0) (bN s 1) (bN s 2) (bN s 3) = 0:=by
     have hbi:=HBI.out
     have hii : i = 1 ∨ i = 2 ∨ i = 3:=by omega
     have hor : ((bN s 1 < 128 ∨ 191 < bN s 1) ∨ (bN s 2 < 128 ∨ 191 < bN s 2) ∨ (bN s 3 < 128 ∨ 191 < bN s 3)):=by rcases hii with rfl | rfl | rfl <;> omega
     exact cont3 _ _ _ _ _ h hor (bN_lt s 1) (bN_lt s 2) (bN_lt s 3)
    have HZ:=hid hz
    clear hz
    go_wp2_with fail
    go_ret
    exact ⟨by rw [HZ.out];rfl,Below.refl _ _⟩
   ·have t2 : decide (((s[i]'hilt).toNat : Int) < 128) = false:=decide_eq_false (by omega)
    by_cases hhi : 191 < (s[i]'hilt).toNat
    ·have t3 : decide ((191 : Int) < ((s[i]'hilt).toNat : Int)) = true:=decide_eq_true (by omega)
     have hz : oneN s.size (bN s 0) (bN s 1) (bN s 2) (bN s 3) = 0:=by
      have hbi:=HBI.out
      have hii : i = 1 ∨ i = 2 ∨ i = 3:=by omega
      have hor : ((bN s 1 < 128 ∨ 191 < bN s 1) ∨ (bN s 2 < 128 ∨ 191 < bN s 2) ∨ (bN s 3 < 128 ∨ 191 < bN s 3)):=by rcases hii with rfl | rfl | rfl <;> omega
      exact cont3 _ _ _ _ _ h hor (bN_lt s 1) (bN_lt s 2) (bN_lt s 3)
     have HZ:=hid hz
     clear hz
     go_wp2_with fail
     go_ret
     exact ⟨by rw [HZ.out];rfl,Below.refl _ _⟩
    ·have t3 : decide ((191 : Int) < ((s[i]'hilt).toNat : Int)) = false:=decide_eq_false (by omega)
     go_wp2_with fail
     go_round
     case rel=>exact ⟨i + 1,by omega,by omega,by go_num,by rw [HSU.out,← HBI.out],fun j h1 h2=>by
      by_cases e : j = i
      ·subst e;have:=HBI.out;omega
      ·exact HCO.out j h1 (by omega)⟩
     case measure=>simp [intOf];omega
  ·obtain rfl : i = 4:=by omega
   obtain ⟨R,hR⟩ : ∃ R,RI s ((bN s 0 : Int) % 8) 4 = R:=⟨_,rfl⟩
   have hcont:=HCO.out
   obtain ⟨hf0,hf1⟩:=fin3 s.size (bN s 0) (bN s 1) (bN s 2) (bN s 3) h hl (hcont 1 (by omega) (by omega)) (hcont 2 (by omega) (by omega)) (hcont 3 (by omega) (by omega)) R (by rw [← hR];rfl)
   rw [hR] at hbd ⊢
   have tend : decide (((4 : Nat) : Int) ≤ 3) = false:=by decide
   clear hcont hR
   by_cases c1 : R < 65536
   ·have HZ:=hid (hf0 (.inl c1))
    have t4 : decide (R < 65536) = true:=decide_eq_true c1
    clear hf0 hf1
    go_wp2_with fail
    go_ret
    exact ⟨by rw [HZ.out];rfl,(Below.refl _ w).alloc (Nat.le_refl _) _⟩
   ·have t4 : decide (R < 65536) = false:=decide_eq_false c1
    by_cases c2 : 55296 ≤ R ∧ R ≤ 57343
    ·exfalso;omega
    ·by_cases c3 : 1114111 < R
     ·have HZ:=hid (hf0 (.inr (.inr c3)))
      have t5 : decide (55296 ≤ R) = true:=decide_eq_true (by omega)
      have t6 : decide (R ≤ 57343) = false:=decide_eq_false (by omega)
      have t7 : decide (1114111 < R) = true:=decide_eq_true c3
      clear hf0 hf1 c2
      go_wp2_with fail
      go_ret
      exact ⟨by rw [HZ.out];rfl,(Below.refl _ w).alloc (Nat.le_refl _) _⟩
     ·have HZ:=hid (hf1 (by unfold Far;omega))
      have t7 : decide (1114111 < R) = false:=decide_eq_false c3
      clear hf0 hf1
      by_cases c4 : 55296 ≤ R
      ·have t5 : decide (55296 ≤ R) = true:=decide_eq_true c4
       have t6 : decide (R ≤ 57343) = false:=decide_eq_false (by omega)
       clear c2
       go_wp2_with fail
       go_ret
       exact ⟨by rw [HZ.out];rfl,(Below.refl _ w).alloc (Nat.le_refl _) _⟩
      ·exfalso;omega
theorem one_calls (s : ByteArray) (hs : s.size ≤ 70000) (w : World) : Calls Try.prog 42 #[.string s] w fun e w'=>e = .returned (.int .i64 ((oneL s.data.toList : Nat) : Int)) ∧ Below w.heap.size w w':=by
 by_cases h0 : s.size = 0
 ·have hl : s.data.toList = []:=List.length_eq_zero_iff.1 (by rw [size_toList];exact h0)
  have e : oneL s.data.toList = 0:=by rw [hl];rfl
  rw [e]
  exact one_empty s h0 w
 ·have hp : 0 < s.size:=by omega
  rw [oneL_bN s (by omega)]
  have hb1:=bN_lt s 1
  have hb0:=bN_lt s 0
  have : bN s 0 < 128 ∨ (128 ≤ bN s 0 ∧ bN s 0 < 194) ∨ (194 ≤ bN s 0 ∧ bN s 0 ≤ 223) ∨ (224 ≤ bN s 0 ∧ bN s 0 ≤ 239) ∨ (240 ≤ bN s 0 ∧ bN s 0 ≤ 244) ∨ (245 ≤ bN s 0 ∧ bN s 0 < 256):=by omega
  rcases this with h | h | h | h | h | h
  ·have e : oneN s.size (bN s 0) (bN s 1) (bN s 2) (bN s 3) = 1:=by unfold oneN;rw [if_pos h]
   rw [e];exact one_zero s hs hp h w
  ·rw [no_more _ _ _ _ _ (.inl h) hb1];exact one_none1 s hs hp h w
  ·by_cases hl : 1 < s.size
   ·exact one_1 s hs hp hl h w
   ·rw [short1 _ _ _ _ _ h (by omega)];exact one_short1 s (by omega) hp h w
  ·by_cases hl : 2 < s.size
   ·exact one_2 s hs hp hl h w
   ·rw [short2 _ _ _ _ _ h (by omega)];exact one_short2 s (by omega) hp h w
  ·by_cases hl : 3 < s.size
   ·exact one_3 s hs hp hl h w
   ·rw [short3 _ _ _ _ _ h (by omega)];exact one_short3 s (by omega) hp h w
  ·rw [no_more _ _ _ _ _ (.inr h) hb1];exact one_none2 s hs hp h w
end Go.Proofs.Ythadnhpkeljdoaa.utf
namespace Go.Proofs.Ythadnhpkeljdoaa.pa
open Go.RowKit nd pr
def OkT {α : Type} (p : Pa α) (r : List Tk) (B : Nat) : Prop:=∃ o,p.run r = some o ∧ ∀ r' x,o = .ok r' x → r'.length ≤ B
section
variable {α β : Type}
theorem OkT.mono {p : Pa α} {r : List Tk} {B C : Nat} (h : OkT p r B) (hb : B ≤ C) : OkT p r C:=by
 obtain ⟨o,h1,h2⟩:=h
 exact ⟨o,h1,fun r' x e=>Nat.le_trans (h2 r' x e) hb⟩
theorem t_ret {x : α} {r : List Tk} {B : Nat} (h : r.length ≤ B) : OkT (.ret x) r B:=⟨_,rfl,fun r' y e=>by cases e;exact h⟩
theorem t_bad {r : List Tk} {B : Nat} : OkT (.bad : Pa α) r B:=⟨_,rfl,fun r' y e=>by cases e⟩
theorem t_bind {p : Pa α} {f : α → Pa β} {r : List Tk} {B C : Nat} (h : OkT p r B) (hf : ∀ r' x,r'.length ≤ B → OkT (f x) r' C) : OkT (p.bind f) r C:=by
 obtain ⟨o,h1,h2⟩:=h
 unfold OkT
 rw [Pa.run_bind,h1]
 cases o with
 | bad r'=>exact ⟨_,rfl,fun r' y e=>by cases e⟩
 | ok r' x=>exact hf r' x (h2 r' x rfl)
theorem t_look {k : Tk → Pa α} {r : List Tk} {B : Nat} (h0 : r = [] → OkT (k noTk) [] B) (h1 : ∀ t r',r = t :: r' → OkT (k t) (t :: r') B) : OkT (.look k) r B:=by
 cases r with
 | nil=>exact h0 rfl
 | cons t r'=>exact h1 t r' rfl
theorem t_peek {k : Tk → Pa α} {r : List Tk} {B : Nat} (h : ∀ t,OkT (k t) r B) : OkT (.peek k) r B:=h _
theorem t_ended {k : Bool → Pa α} {r : List Tk} {B : Nat} (h0 : r = [] → OkT (k true) [] B) (h1 : ∀ t r',r = t :: r' → OkT (k false) (t :: r') B) : OkT (.ended k) r B:=by
 cases r with
 | nil=>exact h0 rfl
 | cons t r'=>exact h1 t r' rfl
theorem t_move {k : Pa α} {t : Tk} {r : List Tk} {B : Nat} (h : OkT k r B) : OkT (.move k) (t :: r) B:=h
theorem t_need {s : ByteArray} {k : Pa α} {r : List Tk} {B : Nat} (h : ∀ t r',r = t :: r' → OkT k r' B) : OkT (need s k) r B :=
 t_look (fun e=>by simp only [op_no,word_no];exact t_bad) (fun t r' e=>by split;exact h t r' e;exact t_bad)
theorem t_one {kd : Int} {k : Pa α} {r : List Tk} {B : Nat} (hk : ((0 : Int) == kd) = false) (h : ∀ t r',r = t :: r' → OkT k r' B) : OkT (one kd k) r B :=
 t_look (fun e=>by show OkT (if ((0 : Int) == kd) = true then _ else _) _ _;rw [hk];exact t_bad) (fun t r' e=>by split;exact h t r' e;exact t_bad)
theorem t_text {kd : Int} {k : ByteArray → Pa α} {r : List Tk} {B : Nat} (hk : ((0 : Int) == kd) = false) (h : ∀ s t r',r = t :: r' → OkT (k s) r' B) : OkT (text kd k) r B :=
 t_look (fun e=>by show OkT (if ((0 : Int) == kd) = true then _ else _) _ _;rw [hk];exact t_bad) (fun t r' e=>by split;exact h _ t r' e;exact t_bad)
theorem t_name {k : ByteArray → Pa α} {r : List Tk} {B : Nat} (h : ∀ s t r',r = t :: r' → OkT (k s) r' B) : OkT (name k) r B :=
 t_look (fun e=>by simp only [plain_no];exact t_bad) (fun t r' e=>by split;exact h _ t r' e;exact t_bad)
theorem t_no {b : Bool} {p q : Pa α} {r : List Tk} {B : Nat} (hb : b = false) (h : OkT q r B) : OkT (if b = true then p else q) r B:=by rw [hb];exact h
theorem ite_bind {c : Prop} [Decidable c] (p q : Pa α) (f : α → Pa β) : (if c then p else q).bind f = if c then p.bind f else q.bind f:=by split <;> rfl
theorem look_bind (k : Tk → Pa α) (f : α → Pa β) : (Pa.look k).bind f = .look fun t=>(k t).bind f:=rfl
theorem ret_bind (x : α) (f : α → Pa β) : (Pa.ret x).bind f = f x:=rfl
theorem move_bind (k : Pa α) (f : α → Pa β) : (Pa.move k).bind f = .move (k.bind f):=rfl
theorem t_if {c : Prop} [Decidable c] {p q : Pa α} {r : List Tk} {B : Nat} (h1 : c → OkT p r B) (h2 : ¬ c → OkT q r B) : OkT (if c then p else q) r B:=by
 split
 ·exact h1 (by assumption)
 ·exact h2 (by assumption)
end
def rank : Fn → Nat
 | .exp _=>5
 | .expL _ _ _=>1
 | .operand=>4
 | .params=>0
 | .deff _=>0
 | .within _ _=>0
 | .slice _ _ _=>0
 | .post=>3
 | .postL _=>1
 | .str=>1
 | .strF _=>0
 | .strL=>0
 | .term=>2
 | .bracket=>0
 | .pairs=>4
 | .worded=>0
 | .args=>0
 | .ifs=>6
 | .fold _ _=>4
 | .key _=>2
 | .pair=>3
 | .value=>5
 | .unit=>4
 | .keypat=>3
 | .pattern=>1
 | .elems _=>0
 | .bring=>0
 | .plainL=>0
 | .brings=>1
 | .program=>6
def eats : Fn → Nat
 | .exp _=>1
 | .expL _ _ _=>0
 | .operand=>1
 | .params=>1
 | .deff _=>1
 | .within _ _=>1
 | .slice _ _ _=>1
 | .post=>1
 | .postL _=>0
 | .str=>1
 | .strF _=>1
 | .strL=>0
 | .term=>1
 | .bracket=>1
 | .pairs=>1
 | .worded=>1
 | .args=>1
 | .ifs=>1
 | .fold _ _=>1
 | .key _=>1
 | .pair=>1
 | .value=>1
 | .unit=>1
 | .keypat=>1
 | .pattern=>1
 | .elems _=>1
 | .bring=>1
 | .plainL=>0
 | .brings=>0
 | .program=>0
def AllT (n : Nat) : Prop:=∀ f r,8 * r.length + rank f < n → (wants f = true → r ≠ []) → OkT (go n f) r (r.length - eats f)
theorem step_tot {n : Nat} (ih : AllT n) : ∀ f r,8 * r.length + rank f < n + 1 → (wants f = true → r ≠ []) → OkT (step (go n) f) r (r.length - eats f):=by
 intro f r hn hw
 have h_exp : ∀ (l : Int) (r : List Tk),8 * r.length + 5 < n → OkT (go n (.exp l) : Pa (Nd)) r (r.length - 1):=fun l r h=>ih (.exp l) r h (fun e=>by cases e)
 have h_expL : ∀ (l : Int) (x : Nd) (b : Int) (r : List Tk),8 * r.length + 1 < n → OkT (go n (.expL l x b) : Pa (Nd)) r (r.length - 0):=fun l x b r h=>ih (.expL l x b) r h (fun e=>by cases e)
 have h_operand : ∀ (r : List Tk),8 * r.length + 4 < n → OkT (go n (.operand) : Pa (Nd)) r (r.length - 1):=fun r h=>ih (.operand) r h (fun e=>by cases e)
 have h_params : ∀ (r : List Tk),8 * r.length + 0 < n → OkT (go n (.params) : Pa (List Nd)) r (r.length - 1):=fun r h=>ih (.params) r h (fun e=>by cases e)
 have h_deff : ∀ (b : Bool) (r : List Tk),8 * r.length + 0 < n → r ≠ [] → OkT (go n (.deff b) : Pa (Nd)) r (r.length - 1):=fun b r h hr=>ih (.deff b) r h (fun _=>hr)
 have h_within : ∀ (x : Nd) (d : ByteArray) (r : List Tk),8 * r.length + 0 < n → OkT (go n (.within x d) : Pa (Nd)) r (r.length - 1):=fun x d r h=>ih (.within x d) r h (fun e=>by cases e)
 have h_slice : ∀ (x : Nd) (f : Nd) (d : ByteArray) (r : List Tk),8 * r.length + 0 < n → OkT (go n (.slice x f d) : Pa (Nd)) r (r.length - 1):=fun x f d r h=>ih (.slice x f d) r h (fun e=>by cases e)
 have h_post : ∀ (r : List Tk),8 * r.length + 3 < n → OkT (go n (.post) : Pa (Nd)) r (r.length - 1):=fun r h=>ih (.post) r h (fun e=>by cases e)
 have h_postL : ∀ (x : Nd) (r : List Tk),8 * r.length + 1 < n → OkT (go n (.postL x) : Pa (Nd)) r (r.length - 0):=fun x r h=>ih (.postL x) r h (fun e=>by cases e)
 have h_str : ∀ (r : List Tk),8 * r.length + 1 < n → OkT (go n (.str) : Pa (Nd)) r (r.length - 1):=fun r h=>ih (.str) r h (fun e=>by cases e)
 have h_strF : ∀ (f : ByteArray) (r : List Tk),8 * r.length + 0 < n → OkT (go n (.strF f) : Pa (Nd)) r (r.length - 1):=fun f r h=>ih (.strF f) r h (fun e=>by cases e)
 have h_strL : ∀ (r : List Tk),8 * r.length + 0 < n → OkT (go n (.strL) : Pa (List Nd)) r (r.length - 0):=fun r h=>ih (.strL) r h (fun e=>by cases e)
 have h_term : ∀ (r : List Tk),8 * r.length + 2 < n → OkT (go n (.term) : Pa (Nd)) r (r.length - 1):=fun r h=>ih (.term) r h (fun e=>by cases e)
 have h_bracket : ∀ (r : List Tk),8 * r.length + 0 < n → OkT (go n (.bracket) : Pa (Nd)) r (r.length - 1):=fun r h=>ih (.bracket) r h (fun e=>by cases e)
 have h_pairs : ∀ (r : List Tk),8 * r.length + 4 < n → OkT (go n (.pairs) : Pa (List Nd)) r (r.length - 1):=fun r h=>ih (.pairs) r h (fun e=>by cases e)
 have h_worded : ∀ (r : List Tk),8 * r.length + 0 < n → r ≠ [] → OkT (go n (.worded) : Pa (Nd)) r (r.length - 1):=fun r h hr=>ih (.worded) r h (fun _=>hr)
 have h_args : ∀ (r : List Tk),8 * r.length + 0 < n → r ≠ [] → OkT (go n (.args) : Pa (List Nd)) r (r.length - 1):=fun r h hr=>ih (.args) r h (fun _=>hr)
 have h_ifs : ∀ (r : List Tk),8 * r.length + 6 < n → OkT (go n (.ifs) : Pa (List Nd)) r (r.length - 1):=fun r h=>ih (.ifs) r h (fun e=>by cases e)
 have h_fold : ∀ (k : Int) (b : Bool) (r : List Tk),8 * r.length + 4 < n → OkT (go n (.fold k b) : Pa (Nd)) r (r.length - 1):=fun k b r h=>ih (.fold k b) r h (fun e=>by cases e)
 have h_key : ∀ (p : Bool) (r : List Tk),8 * r.length + 2 < n → OkT (go n (.key p) : Pa (Nd × Bool)) r (r.length - 1):=fun p r h=>ih (.key p) r h (fun e=>by cases e)
 have h_pair : ∀ (r : List Tk),8 * r.length + 3 < n → OkT (go n (.pair) : Pa (Nd)) r (r.length - 1):=fun r h=>ih (.pair) r h (fun e=>by cases e)
 have h_value : ∀ (r : List Tk),8 * r.length + 5 < n → OkT (go n (.value) : Pa (Nd)) r (r.length - 1):=fun r h=>ih (.value) r h (fun e=>by cases e)
 have h_unit : ∀ (r : List Tk),8 * r.length + 4 < n → OkT (go n (.unit) : Pa (Nd)) r (r.length - 1):=fun r h=>ih (.unit) r h (fun e=>by cases e)
 have h_keypat : ∀ (r : List Tk),8 * r.length + 3 < n → OkT (go n (.keypat) : Pa (Nd)) r (r.length - 1):=fun r h=>ih (.keypat) r h (fun e=>by cases e)
 have h_pattern : ∀ (r : List Tk),8 * r.length + 1 < n → OkT (go n (.pattern) : Pa (Nd)) r (r.length - 1):=fun r h=>ih (.pattern) r h (fun e=>by cases e)
 have h_elems : ∀ (b : Bool) (r : List Tk),8 * r.length + 0 < n → r ≠ [] → OkT (go n (.elems b) : Pa (List Nd)) r (r.length - 1):=fun b r h hr=>ih (.elems b) r h (fun _=>hr)
 have h_bring : ∀ (r : List Tk),8 * r.length + 0 < n → r ≠ [] → OkT (go n (.bring) : Pa (Nd)) r (r.length - 1):=fun r h hr=>ih (.bring) r h (fun _=>hr)
 have h_plainL : ∀ (r : List Tk),8 * r.length + 0 < n → OkT (go n (.plainL) : Pa (List Nd)) r (r.length - 0):=fun r h=>ih (.plainL) r h (fun e=>by cases e)
 have h_brings : ∀ (r : List Tk),8 * r.length + 1 < n → OkT (go n (.brings) : Pa (List Nd)) r (r.length - 0):=fun r h=>ih (.brings) r h (fun e=>by cases e)
 clear ih
 cases f
 case' deff top=>cases top
 all_goals first | (have hr:=hw rfl;obtain ⟨t0,r0,rfl⟩:=List.exists_cons_of_ne_nil hr) | skip
 all_goals clear hw
 all_goals simp only [rank] at hn
 all_goals simp only [step,eats]
 all_goals
  repeat (first
   | exact t_bad
   | (refine t_ret ?_;((try simp only [List.length_cons,List.length_nil] at *);omega))
   | refine t_need (fun _ _ hr=>?_) <;> subst hr
   | refine t_one rfl (fun _ _ hr=>?_) <;> subst hr
   | refine t_text rfl (fun _ _ _ hr=>?_) <;> subst hr
   | refine t_name (fun _ _ _ hr=>?_) <;> subst hr
   | refine t_look (fun hr=>?_) (fun _ _ hr=>?_) <;> subst hr
   | refine t_peek (fun _=>?_)
   | refine t_ended (fun hr=>?_) (fun _ _ hr=>?_) <;> subst hr
   | refine t_move ?_
   | (simp only [show tok ([] : List Tk) = noTk from rfl,op_no,word_no,plain_no,Bool.and_false,Bool.or_false,Bool.or_self,Bool.false_eq_true,if_false])
   | (simp only [ite_bind,look_bind,ret_bind,move_bind])
   | refine t_no rfl ?_
   | refine t_if (fun _=>?_) (fun _=>?_)
   | with_reducible refine t_bind (h_exp _ _ (by (try simp only [List.length_cons,List.length_nil] at *);omega)) (fun _ _ _=>?_)
   | with_reducible refine OkT.mono (h_exp _ _ (by (try simp only [List.length_cons,List.length_nil] at *);omega)) (by (try simp only [List.length_cons,List.length_nil] at *);omega)
   | with_reducible refine t_bind (h_expL _ _ _ _ (by (try simp only [List.length_cons,List.length_nil] at *);omega)) (fun _ _ _=>?_)
   | with_reducible refine OkT.mono (h_expL _ _ _ _ (by (try simp only [List.length_cons,List.length_nil] at *);omega)) (by (try simp only [List.length_cons,List.length_nil] at *);omega)
   | with_reducible refine t_bind (h_operand _ (by (try simp only [List.length_cons,List.length_nil] at *);omega)) (fun _ _ _=>?_)
   | with_reducible refine OkT.mono (h_operand _ (by (try simp only [List.length_cons,List.length_nil] at *);omega)) (by (try simp only [List.length_cons,List.length_nil] at *);omega)
   | with_reducible refine t_bind (h_params _ (by (try simp only [List.length_cons,List.length_nil] at *);omega)) (fun _ _ _=>?_)
   | with_reducible refine OkT.mono (h_params _ (by (try simp only [List.length_cons,List.length_nil] at *);omega)) (by (try simp only [List.length_cons,List.length_nil] at *);omega)
   | with_reducible refine t_bind (h_deff _ _ (by (try simp only [List.length_cons,List.length_nil] at *);omega) (by simp)) (fun _ _ _=>?_)
   | with_reducible refine OkT.mono (h_deff _ _ (by (try simp only [List.length_cons,List.length_nil] at *);omega) (by simp)) (by (try simp only [List.length_cons,List.length_nil] at *);omega)
   | with_reducible refine t_bind (h_within _ _ _ (by (try simp only [List.length_cons,List.length_nil] at *);omega)) (fun _ _ _=>?_)
   | with_reducible refine OkT.mono (h_within _ _ _ (by (try simp only [List.length_cons,List.length_nil] at *);omega)) (by (try simp only [List.length_cons,List.length_nil] at *);omega)
   | with_reducible refine t_bind (h_slice _ _ _ _ (by (try simp only [List.length_cons,List.length_nil] at *);omega)) (fun _ _ _=>?_)
   | with_reducible refine OkT.mono (h_slice _ _ _ _ (by (try simp only [List.length_cons,List.length_nil] at *);omega)) (by (try simp only [List.length_cons,List.length_nil] at *);omega)
   | with_reducible refine t_bind (h_post _ (by (try simp only [List.length_cons,List.length_nil] at *);omega)) (fun _ _ _=>?_)
   | with_reducible refine OkT.mono (h_post _ (by (try simp only [List.length_cons,List.length_nil] at *);omega)) (by (try simp only [List.length_cons,List.length_nil] at *);omega)
   | with_reducible refine t_bind (h_postL _ _ (by (try simp only [List.length_cons,List.length_nil] at *);omega)) (fun _ _ _=>?_)
   | with_reducible refine OkT.mono (h_postL _ _ (by (try simp only [List.length_cons,List.length_nil] at *);omega)) (by (try simp only [List.length_cons,List.length_nil] at *);omega)
   | with_reducible refine t_bind (h_str _ (by (try simp only [List.length_cons,List.length_nil] at *);omega)) (fun _ _ _=>?_)
   | with_reducible refine OkT.mono (h_str _ (by (try simp only [List.length_cons,List.length_nil] at *);omega)) (by (try simp only [List.length_cons,List.length_nil] at *);omega)
   | with_reducible refine t_bind (h_strF _ _ (by (try simp only [List.length_cons,List.length_nil] at *);omega)) (fun _ _ _=>?_)
   | with_reducible refine OkT.mono (h_strF _ _ (by (try simp only [List.length_cons,List.length_nil] at *);omega)) (by (try simp only [List.length_cons,List.length_nil] at *);omega)
   | with_reducible refine t_bind (h_strL _ (by (try simp only [List.length_cons,List.length_nil] at *);omega)) (fun _ _ _=>?_)
   | with_reducible refine OkT.mono (h_strL _ (by (try simp only [List.length_cons,List.length_nil] at *);omega)) (by (try simp only [List.length_cons,List.length_nil] at *);omega)
   | with_reducible refine t_bind (h_term _ (by (try simp only [List.length_cons,List.length_nil] at *);omega)) (fun _ _ _=>?_)
   | with_reducible refine OkT.mono (h_term _ (by (try simp only [List.length_cons,List.length_nil] at *);omega)) (by (try simp only [List.length_cons,List.length_nil] at *);omega)
   | with_reducible refine t_bind (h_bracket _ (by (try simp only [List.length_cons,List.length_nil] at *);omega)) (fun _ _ _=>?_)
   | with_reducible refine OkT.mono (h_bracket _ (by (try simp only [List.length_cons,List.length_nil] at *);omega)) (by (try simp only [List.length_cons,List.length_nil] at *);omega)
   | with_reducible refine t_bind (h_pairs _ (by (try simp only [List.length_cons,List.length_nil] at *);omega)) (fun _ _ _=>?_)
   | with_reducible refine OkT.mono (h_pairs _ (by (try simp only [List.length_cons,List.length_nil] at *);omega)) (by (try simp only [List.length_cons,List.length_nil] at *);omega)
   | with_reducible refine t_bind (h_worded _ (by (try simp only [List.length_cons,List.length_nil] at *);omega) (by simp)) (fun _ _ _=>?_)
   | with_reducible refine OkT.mono (h_worded _ (by (try simp only [List.length_cons,List.length_nil] at *);omega) (by simp)) (by (try simp only [List.length_cons,List.length_nil] at *);omega)
   | with_reducible refine t_bind (h_args _ (by (try simp only [List.length_cons,List.length_nil] at *);omega) (by simp)) (fun _ _ _=>?_)
   | with_reducible refine OkT.mono (h_args _ (by (try simp only [List.length_cons,List.length_nil] at *);omega) (by simp)) (by (try simp only [List.length_cons,List.length_nil] at *);omega)
   | with_reducible refine t_bind (h_ifs _ (by (try simp only [List.length_cons,List.length_nil] at *);omega)) (fun _ _ _=>?_)
   | with_reducible refine OkT.mono (h_ifs _ (by (try simp only [List.length_cons,List.length_nil] at *);omega)) (by (try simp only [List.length_cons,List.length_nil] at *);omega)
   | with_reducible refine t_bind (h_fold _ _ _ (by (try simp only [List.length_cons,List.length_nil] at *);omega)) (fun _ _ _=>?_)
   | with_reducible refine OkT.mono (h_fold _ _ _ (by (try simp only [List.length_cons,List.length_nil] at *);omega)) (by (try simp only [List.length_cons,List.length_nil] at *);omega)
   | with_reducible refine t_bind (h_key _ _ (by (try simp only [List.length_cons,List.length_nil] at *);omega)) (fun _ _ _=>?_)
   | with_reducible refine OkT.mono (h_key _ _ (by (try simp only [List.length_cons,List.length_nil] at *);omega)) (by (try simp only [List.length_cons,List.length_nil] at *);omega)
   | with_reducible refine t_bind (h_pair _ (by (try simp only [List.length_cons,List.length_nil] at *);omega)) (fun _ _ _=>?_)
   | with_reducible refine OkT.mono (h_pair _ (by (try simp only [List.length_cons,List.length_nil] at *);omega)) (by (try simp only [List.length_cons,List.length_nil] at *);omega)
   | with_reducible refine t_bind (h_value _ (by (try simp only [List.length_cons,List.length_nil] at *);omega)) (fun _ _ _=>?_)
   | with_reducible refine OkT.mono (h_value _ (by (try simp only [List.length_cons,List.length_nil] at *);omega)) (by (try simp only [List.length_cons,List.length_nil] at *);omega)
   | with_reducible refine t_bind (h_unit _ (by (try simp only [List.length_cons,List.length_nil] at *);omega)) (fun _ _ _=>?_)
   | with_reducible refine OkT.mono (h_unit _ (by (try simp only [List.length_cons,List.length_nil] at *);omega)) (by (try simp only [List.length_cons,List.length_nil] at *);omega)
   | with_reducible refine t_bind (h_keypat _ (by (try simp only [List.length_cons,List.length_nil] at *);omega)) (fun _ _ _=>?_)
   | with_reducible refine OkT.mono (h_keypat _ (by (try simp only [List.length_cons,List.length_nil] at *);omega)) (by (try simp only [List.length_cons,List.length_nil] at *);omega)
   | with_reducible refine t_bind (h_pattern _ (by (try simp only [List.length_cons,List.length_nil] at *);omega)) (fun _ _ _=>?_)
   | with_reducible refine OkT.mono (h_pattern _ (by (try simp only [List.length_cons,List.length_nil] at *);omega)) (by (try simp only [List.length_cons,List.length_nil] at *);omega)
   | with_reducible refine t_bind (h_elems _ _ (by (try simp only [List.length_cons,List.length_nil] at *);omega) (by simp)) (fun _ _ _=>?_)
   | with_reducible refine OkT.mono (h_elems _ _ (by (try simp only [List.length_cons,List.length_nil] at *);omega) (by simp)) (by (try simp only [List.length_cons,List.length_nil] at *);omega)
   | with_reducible refine t_bind (h_bring _ (by (try simp only [List.length_cons,List.length_nil] at *);omega) (by simp)) (fun _ _ _=>?_)
   | with_reducible refine OkT.mono (h_bring _ (by (try simp only [List.length_cons,List.length_nil] at *);omega) (by simp)) (by (try simp only [List.length_cons,List.length_nil] at *);omega)
   | with_reducible refine t_bind (h_plainL _ (by (try simp only [List.length_cons,List.length_nil] at *);omega)) (fun _ _ _=>?_)
   | with_reducible refine OkT.mono (h_plainL _ (by (try simp only [List.length_cons,List.length_nil] at *);omega)) (by (try simp only [List.length_cons,List.length_nil] at *);omega)
   | with_reducible refine t_bind (h_brings _ (by (try simp only [List.length_cons,List.length_nil] at *);omega)) (fun _ _ _=>?_)
   | with_reducible refine OkT.mono (h_brings _ (by (try simp only [List.length_cons,List.length_nil] at *);omega)) (by (try simp only [List.length_cons,List.length_nil] at *);omega))
theorem tot (n : Nat) : AllT n:=by
 induction n with
 | zero=>intro f r h;omega
 | succ n ih=>exact step_tot ih
theorem parse_run (l : List Tk) (n : Nat) (h : 8 * l.length + 6 < n) : ∃ o,(go n .program).run l = some o:=by
 obtain ⟨o,h1,_⟩:=tot n .program l h (fun e=>by cases e)
 exact ⟨o,h1⟩
end Go.Proofs.Ythadnhpkeljdoaa.pa
namespace Go.Proofs.Ythadnhpkeljdoaa.sg
open Go.RowKit Go.Shelf
theorem Below.next {B : Nat} {w a b : World} (h : Below B w a) (k : Below a.heap.size a b) (hB : B ≤ w.heap.size) : Below B w b:=h.trans (k.mono (Nat.le_trans hB h.size))
theorem ext_size (s : ByteArray) (k : Nat) (hs : s.size ≤ 140737488351232) : (s.extract k s.size).size ≤ 140737488351232:=by rw [ByteArray.size_extract];omega
end Go.Proofs.Ythadnhpkeljdoaa.sg
