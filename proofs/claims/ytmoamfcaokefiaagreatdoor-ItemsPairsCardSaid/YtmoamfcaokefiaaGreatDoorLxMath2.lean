/-
  Plain mathematics of layer 4, for its laws: texts that are UTF-8; what a source's tokens are.
-/
import Derived.Test.YtmoamfcaokefiaaGreatDoorLxLaw
namespace Go.Proofs.YtmoamfcaokefiaaGreatDoor.lx
open Go.RowKit
open sg (lst_len)
set_option linter.unusedVariables false

/-- A text that is UTF-8. -/
def Ok (l : List UInt8) : Prop := utf.chkL l.length l 0 = -1
instance (l : List UInt8) : Decidable (Ok l) := inferInstanceAs (Decidable (_ = _))
theorem shift_chk : ∀ (b : Nat) (l : List UInt8) (p d : Nat), utf.chkL b l (p + d) = if utf.chkL b l p = -1 then -1 else utf.chkL b l p + d := by
  intro b
  induction b with
  | zero => intro l p d; simp [utf.chkL]
  | succ b ih =>
    intro l p d
    simp only [utf.chkL]
    split
    · simp
    · split
      · rw [if_neg (by omega)]; omega
      · have := ih (l.drop (utf.oneL l)) (p + utf.oneL l) d
        rw [show p + d + utf.oneL l = p + utf.oneL l + d by omega, this]
theorem ok_nil : Ok [] := rfl
theorem ok_app {l m : List UInt8} (hl : Ok l) (hm : Ok m) : Ok (l ++ m) := by
  unfold Ok at *
  have h := (utf.chk_join l.length l m 0 (l ++ m).length m.length (Nat.le_refl _) hl (by rw [List.length_append]; omega) (Nat.le_refl _)).1
  rw [h, shift_chk, hm]
  rfl
theorem ok_one (b : UInt8) (h : b.toNat < 128) : Ok [b] := by
  unfold Ok
  have : utf.oneL [b] = 1 := by
    unfold utf.oneL utf.oneN
    rw [if_neg (by simp), if_pos (by simpa using h)]
  simp [utf.chkL, this]
theorem ok_ascii {l : List UInt8} (h : ∀ b ∈ l, b.toNat < 128) : Ok l := by
  induction l with
  | nil => exact ok_nil
  | cons b r ih => exact ok_app (ok_one b (h b (List.mem_cons_self ..))) (ih fun x hx => h x (List.mem_cons_of_mem _ hx))
theorem ok_flat {ls : List (List UInt8)} (h : ∀ l ∈ ls, Ok l) : Ok ls.flatten := by
  induction ls with
  | nil => exact ok_nil
  | cons a r ih => rw [List.flatten_cons]; exact ok_app (h a (List.mem_cons_self ..)) (ih fun x hx => h x (List.mem_cons_of_mem _ hx))
theorem check_ok {s : ByteArray} (h : Ok s.data.toList) : utf.checkF s = -1 := by rw [utf.checkF_L]; exact h

theorem tokensF_ok {s : ByteArray} (h : Ok s.data.toList) (hs : s.size ≤ 65536) {l : List Lx.Tok} {e : Int} (hl : Lx.lexA Lx.start s.data.toList = (l, e)) :
    tokensF s.data.toList (utf.checkF s) = if e = 0 then (l, 0, 0) else ([], e, (Lx.size l : Int)) := by
  unfold tokensF
  rw [if_neg (by rw [lst_len]; omega), check_ok h, if_neg (by decide), hl]
theorem tokensF_long {s : ByteArray} (hs : 65536 < s.size) : tokensF s.data.toList (utf.checkF s) = ([], 3, 0) := by
  unfold tokensF
  rw [if_pos (by rw [lst_len]; omega)]

theorem run_replicate (p : Int → Bool) (b : UInt8) (hb : p (b.toNat : Int) = true) (k : Nat) : Sg.run p (List.replicate k b) = k := by
  induction k with
  | zero => rfl
  | succ k ih => rw [List.replicate_succ]; simp [Sg.run, hb, ih]

/-- Blanks alone are one token. -/
theorem lex_blanks (k : Nat) (hk : 0 < k) : Lx.lexA Lx.start (List.replicate k 32) = ([(1, List.replicate k 32)], 0) := by
  have hr : Sg.run Sg.cB (List.replicate k 32) = k := run_replicate _ _ (by decide) k
  have hne : List.replicate k (32 : UInt8) ≠ [] := by cases k with | zero => omega | succ k => simp [List.replicate_succ]
  have hn : Lx.next Lx.start (List.replicate k 32) = .ok (1, k, Lx.start) := by
    unfold Lx.next
    have hf : Lx.find (Lx.tried Lx.start) (List.replicate k 32) = some (1, k) := by
      show (if Sg.run Sg.cB (List.replicate k 32) = 0 then _ else some ((1 : Int), Sg.run Sg.cB (List.replicate k 32))) = _
      rw [hr, if_neg (by omega)]
    rw [hf]
    rfl
  rw [Lx.lexA_ok hn hne, List.drop_of_length_le (by simp), Lx.lexA_nil, List.take_of_length_le (by simp)]
  rfl
end Go.Proofs.YtmoamfcaokefiaaGreatDoor.lx
