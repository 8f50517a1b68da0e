/-
  subeditorref01.more and One: their contracts.
-/
import Derived.Test.YtmoamfcaokefiaaGreatDoorUtfRunes
namespace Go.Proofs.YtmoamfcaokefiaaGreatDoor.utf
open Go.RowKit
set_option linter.unusedVariables false

def moreI (c : Int) : Int := if c < 128 then 0 else if 194 ≤ c ∧ c ≤ 223 then 1 else if 224 ≤ c ∧ c ≤ 239 then 2 else if 240 ≤ c ∧ c ≤ 244 then 3 else -1

set_option maxHeartbeats 1000000 in
theorem more_0 (c : Int) (h : c < 128) (w : World) : Calls Tryz.prog 69 #[.int .u8 c] w fun e w' => e = .returned (.int .i64 (0)) ∧ w = w' := by
  have t0 : decide (c < 128) = true := decide_eq_true (by omega)
  go_enter Tryz.func69, Tryz.ntmps69
  go_wp2_with fail
  go_ret
  exact ⟨rfl, rfl⟩
set_option maxHeartbeats 1000000 in
theorem more_1 (c : Int) (h : 128 ≤ c ∧ c < 194) (w : World) : Calls Tryz.prog 69 #[.int .u8 c] w fun e w' => e = .returned (.int .i64 (-1)) ∧ w = w' := by
  have t0 : decide (c < 128) = false := decide_eq_false (by omega)
  have t1 : decide (194 ≤ c) = false := decide_eq_false (by omega)
  have t2 : decide (224 ≤ c) = false := decide_eq_false (by omega)
  have t3 : decide (240 ≤ c) = false := decide_eq_false (by omega)
  go_enter Tryz.func69, Tryz.ntmps69
  go_wp2_with fail
  go_ret
  exact ⟨rfl, rfl⟩
set_option maxHeartbeats 1000000 in
theorem more_2 (c : Int) (h : 194 ≤ c ∧ c ≤ 223) (w : World) : Calls Tryz.prog 69 #[.int .u8 c] w fun e w' => e = .returned (.int .i64 (1)) ∧ w = w' := by
  have t0 : decide (c < 128) = false := decide_eq_false (by omega)
  have t1 : decide (194 ≤ c) = true := decide_eq_true (by omega)
  have t2 : decide (c ≤ 223) = true := decide_eq_true (by omega)
  go_enter Tryz.func69, Tryz.ntmps69
  go_wp2_with fail
  go_ret
  exact ⟨rfl, rfl⟩
set_option maxHeartbeats 1000000 in
theorem more_3 (c : Int) (h : 224 ≤ c ∧ c ≤ 239) (w : World) : Calls Tryz.prog 69 #[.int .u8 c] w fun e w' => e = .returned (.int .i64 (2)) ∧ w = w' := by
  have t0 : decide (c < 128) = false := decide_eq_false (by omega)
  have t1 : decide (194 ≤ c) = true := decide_eq_true (by omega)
  have t2 : decide (c ≤ 223) = false := decide_eq_false (by omega)
  have t3 : decide (224 ≤ c) = true := decide_eq_true (by omega)
  have t4 : decide (c ≤ 239) = true := decide_eq_true (by omega)
  go_enter Tryz.func69, Tryz.ntmps69
  go_wp2_with fail
  go_ret
  exact ⟨rfl, rfl⟩
set_option maxHeartbeats 1000000 in
theorem more_4 (c : Int) (h : 240 ≤ c ∧ c ≤ 244) (w : World) : Calls Tryz.prog 69 #[.int .u8 c] w fun e w' => e = .returned (.int .i64 (3)) ∧ w = w' := by
  have t0 : decide (c < 128) = false := decide_eq_false (by omega)
  have t1 : decide (194 ≤ c) = true := decide_eq_true (by omega)
  have t2 : decide (c ≤ 223) = false := decide_eq_false (by omega)
  have t3 : decide (224 ≤ c) = true := decide_eq_true (by omega)
  have t4 : decide (c ≤ 239) = false := decide_eq_false (by omega)
  have t5 : decide (240 ≤ c) = true := decide_eq_true (by omega)
  have t6 : decide (c ≤ 244) = true := decide_eq_true (by omega)
  go_enter Tryz.func69, Tryz.ntmps69
  go_wp2_with fail
  go_ret
  exact ⟨rfl, rfl⟩
set_option maxHeartbeats 1000000 in
theorem more_5 (c : Int) (h : 245 ≤ c ∧ c ≤ 255) (w : World) : Calls Tryz.prog 69 #[.int .u8 c] w fun e w' => e = .returned (.int .i64 (-1)) ∧ w = w' := by
  have t0 : decide (c < 128) = false := decide_eq_false (by omega)
  have t1 : decide (194 ≤ c) = true := decide_eq_true (by omega)
  have t2 : decide (c ≤ 223) = false := decide_eq_false (by omega)
  have t3 : decide (224 ≤ c) = true := decide_eq_true (by omega)
  have t4 : decide (c ≤ 239) = false := decide_eq_false (by omega)
  have t5 : decide (240 ≤ c) = true := decide_eq_true (by omega)
  have t6 : decide (c ≤ 244) = false := decide_eq_false (by omega)
  go_enter Tryz.func69, Tryz.ntmps69
  go_wp2_with fail
  go_ret
  exact ⟨rfl, rfl⟩

def bN (s : ByteArray) (j : Nat) : Nat := (s.data.toList.getD j 0).toNat
theorem bN_lt (s : ByteArray) (j : Nat) : bN s j < 256 := lt256 _
theorem bN_at (s : ByteArray) (j : Nat) (h : j < s.size) : (s[j]'h).toNat = bN s j := by
  unfold bN
  have e : s.data.toList.getD j 0 = s.data.toList[j]'(by rw [size_toList]; exact h) := by simp [List.getD, h]
  rw [e]
  rfl
theorem oneL_bN (s : ByteArray) (h : 1 ≤ s.size) : oneL s.data.toList = oneN s.size (bN s 0) (bN s 1) (bN s 2) (bN s 3) := by
  have hne : s.data.toList ≠ [] := fun e => by
    have := congrArg List.length e
    rw [size_toList, List.length_nil] at this
    omega
  unfold oneL
  rw [if_neg hne, size_toList]
  rfl

def RI (s : ByteArray) (r1 : Int) : Nat → Int
  | 0 => r1
  | 1 => r1
  | i + 2 => 64 * RI s r1 (i + 1) + (bN s (i + 1) : Int) % 64
theorem RI_succ (s : ByteArray) (r1 : Int) (i : Nat) (h : 1 ≤ i) : RI s r1 (i + 1) = 64 * RI s r1 i + (bN s i : Int) % 64 := by
  obtain ⟨j, rfl⟩ : ∃ j, i = j + 1 := ⟨i - 1, by omega⟩
  rfl
theorem RI_bd (s : ByteArray) (r1 : Int) (h0 : 0 ≤ r1) (h1 : r1 ≤ 63) (i : Nat) (hi : i ≤ 4) : 0 ≤ RI s r1 i ∧ RI s r1 i ≤ 16777215 := by
  have : i = 0 ∨ i = 1 ∨ i = 2 ∨ i = 3 ∨ i = 4 := by omega
  rcases this with rfl | rfl | rfl | rfl | rfl <;> simp only [RI] <;> omega

set_option maxRecDepth 100000 in
theorem no_more (n b0 b1 b2 b3 : Nat) (h : (128 ≤ b0 ∧ b0 < 194) ∨ (245 ≤ b0 ∧ b0 < 256)) (h1 : b1 < 256) : oneN n b0 b1 b2 b3 = 0 := by
  unfold oneN
  repeat' split
  all_goals omega
theorem short1 (n b0 b1 b2 b3 : Nat) (h : 194 ≤ b0 ∧ b0 ≤ 223) (hn : n ≤ 1) : oneN n b0 b1 b2 b3 = 0 := by
  unfold oneN
  repeat' split
  all_goals omega
theorem short2 (n b0 b1 b2 b3 : Nat) (h : 224 ≤ b0 ∧ b0 ≤ 239) (hn : n ≤ 2) : oneN n b0 b1 b2 b3 = 0 := by
  unfold oneN
  repeat' split
  all_goals omega
theorem short3 (n b0 b1 b2 b3 : Nat) (h : 240 ≤ b0 ∧ b0 ≤ 244) (hn : n ≤ 3) : oneN n b0 b1 b2 b3 = 0 := by
  unfold oneN
  repeat' split
  all_goals omega
theorem cont1 (n b0 b1 b2 b3 : Nat) (h : 194 ≤ b0 ∧ b0 ≤ 223) (hb : b1 < 128 ∨ 191 < b1) (l1 : b1 < 256) : oneN n b0 b1 b2 b3 = 0 := by
  unfold oneN
  repeat' split
  all_goals omega
theorem cont2 (n b0 b1 b2 b3 : Nat) (h : 224 ≤ b0 ∧ b0 ≤ 239) (hb : (b1 < 128 ∨ 191 < b1) ∨ (b2 < 128 ∨ 191 < b2)) (l1 : b1 < 256) (l2 : b2 < 256) : oneN n b0 b1 b2 b3 = 0 := by
  unfold oneN
  repeat' split
  all_goals omega
theorem cont3 (n b0 b1 b2 b3 : Nat) (h : 240 ≤ b0 ∧ b0 ≤ 244) (hb : (b1 < 128 ∨ 191 < b1) ∨ (b2 < 128 ∨ 191 < b2) ∨ (b3 < 128 ∨ 191 < b3)) (l1 : b1 < 256) (l2 : b2 < 256) (l3 : b3 < 256) : oneN n b0 b1 b2 b3 = 0 := by
  unfold oneN
  repeat' split
  all_goals omega
/-- What the last test asks. -/
def Far (least r : Int) : Prop := r < least ∨ (55296 ≤ r ∧ r ≤ 57343) ∨ 1114111 < r
theorem fin1 (n b0 b1 b2 b3 : Nat) (h : 194 ≤ b0 ∧ b0 ≤ 223) (hn : 1 < n) (c1 : 128 ≤ b1 ∧ b1 ≤ 191) (r : Int) (hr : r = 64 * ((b0 : Int) % 32) + (b1 : Int) % 64) :
    (Far 128 r → oneN n b0 b1 b2 b3 = 0) ∧ (¬ Far 128 r → oneN n b0 b1 b2 b3 = 2) := by
  unfold Far oneN
  subst hr
  repeat' split
  all_goals (constructor <;> intro _ <;> omega)
theorem fin2 (n b0 b1 b2 b3 : Nat) (h : 224 ≤ b0 ∧ b0 ≤ 239) (hn : 2 < n) (c1 : 128 ≤ b1 ∧ b1 ≤ 191) (c2 : 128 ≤ b2 ∧ b2 ≤ 191) (r : Int) (hr : r = 64 * (64 * ((b0 : Int) % 16) + (b1 : Int) % 64) + (b2 : Int) % 64) :
    (Far 2048 r → oneN n b0 b1 b2 b3 = 0) ∧ (¬ Far 2048 r → oneN n b0 b1 b2 b3 = 3) := by
  unfold Far oneN
  subst hr
  repeat' split
  all_goals (constructor <;> intro _ <;> omega)
theorem fin3 (n b0 b1 b2 b3 : Nat) (h : 240 ≤ b0 ∧ b0 ≤ 244) (hn : 3 < n) (c1 : 128 ≤ b1 ∧ b1 ≤ 191) (c2 : 128 ≤ b2 ∧ b2 ≤ 191) (c3 : 128 ≤ b3 ∧ b3 ≤ 191) (r : Int) (hr : r = 64 * (64 * (64 * ((b0 : Int) % 8) + (b1 : Int) % 64) + (b2 : Int) % 64) + (b3 : Int) % 64) :
    (Far 65536 r → oneN n b0 b1 b2 b3 = 0) ∧ (¬ Far 65536 r → oneN n b0 b1 b2 b3 = 4) := by
  unfold Far oneN
  subst hr
  repeat' split
  all_goals (constructor <;> intro _ <;> omega)
end Go.Proofs.YtmoamfcaokefiaaGreatDoor.utf
