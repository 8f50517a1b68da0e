/-
  utf.Check and utf.Wide: their contracts, for every text.
-/
import Derived.WalkKit
import Derived.Lib.Hide
import Derived.Lib.RuneCount
import Derived.Laws.RangeAny
import Derived.Test.YtmoamfcaokefiaaGreatDoorShelf
namespace Go.Proofs.YtmoamfcaokefiaaGreatDoor.utf
open Go.RowKit
set_option linter.unusedVariables false

theorem extract_drop (s : ByteArray) (k : Nat) : (s.extract k s.size).data.toList = s.data.toList.drop k := by
  rw [ByteArray.data_extract, Array.toList_extract]
  have e : s.size = s.data.toList.length := by rw [Array.length_toList]; rfl
  rw [List.extract_eq_take_drop, e, List.take_of_length_le (by simp)]
theorem size_toList (s : ByteArray) : s.data.toList.length = s.size := by rw [Array.length_toList]; rfl

/-- No rune begins at pos. -/
def runeBad (s : ByteArray) (pos : Nat) : Bool := ((Utf8.decode s pos).1 == 65533) && !(Lib.hasPrefix (s.data.toList.drop pos) [239, 191, 189])
def checkFrom (s : ByteArray) : Nat → Nat → Int
  | 0, _ => -1
  | b + 1, pos => if pos < s.size then (if runeBad s pos then (pos : Int) else checkFrom s b (pos + (Utf8.decode s pos).2)) else -1
def wideFrom (s : ByteArray) : Nat → Nat → Nat
  | 0, _ => 0
  | b + 1, pos => if pos < s.size then wideFrom s b (pos + (Utf8.decode s pos).2) + 1 else 0
theorem checkFrom_end (s : ByteArray) (b pos : Nat) (h : ¬ pos < s.size) : checkFrom s b pos = -1 := by cases b <;> simp [checkFrom, h]
theorem wideFrom_end (s : ByteArray) (b pos : Nat) (h : ¬ pos < s.size) : wideFrom s b pos = 0 := by cases b <;> simp [wideFrom, h]
theorem wideFrom_le (s : ByteArray) (b pos : Nat) : wideFrom s b pos ≤ b := by
  induction b generalizing pos with
  | zero => simp [wideFrom]
  | succ b ih => simp only [wideFrom]; split <;> (have := ih (pos + (Utf8.decode s pos).2); omega)

def checkF (s : ByteArray) : Int := checkFrom s s.size 0
def wideF (s : ByteArray) : Nat := wideFrom s s.size 0

theorem below_iter (w : World) (s : ByteArray) (pos : Nat) : Below w.heap.size w (w.iter s pos) := (Below.refl _ w).alloc (Nat.le_refl _) _

theorem pref_calls (s : ByteArray) (k : Nat) (r : Bool) (h : Lib.hasPrefix (s.data.toList.drop k) [239, 191, 189] = r) (w : World) :
    Calls Tryz.prog 81 #[.string (s.extract k s.size), .string ⟨#[239, 191, 189]⟩] w fun e w' => e = .returned (.bool r) ∧ w = w' := by
  refine (Tryz.strings_HasPrefix (s.extract k s.size) ⟨#[239, 191, 189]⟩ w).mono ?_
  rintro e w' ⟨rfl, rfl⟩
  rw [extract_drop]
  exact ⟨by rw [← h], rfl⟩

set_option maxRecDepth 1000000 in
set_option maxHeartbeats 2000000 in
theorem check_calls' (s : ByteArray) (hs : s.size ≤ 140737488351232) (w : World) :
    Calls Tryz.prog 66 #[.string s] w fun e w' => e = .returned (.int .i64 (checkF s)) ∧ ∃ pos, w' = w.iter s pos := by
  go_enter Tryz.func66, Tryz.ntmps66
  go_wp2
  go_loopw [] (fun w' => ∃ (pos b : Nat), w' = w.iter s pos ∧ checkFrom s b pos = checkF s ∧ s.size ≤ pos + b) (fun w' => s.size - w'.iterPos w.heap.size)
  case atStart => exact ⟨0, s.size, rfl, rfl, by omega⟩
  case round =>
    obtain ⟨pos, b, rfl, hc, hb⟩ := hrel
    have HC := Lib.hid hc
    clear hc
    by_cases hp : pos < s.size
    · have hnx : ∀ ty, (Instr.next (.pointer (some ⟨w.heap.size, 0, none⟩)) true ty).run Tryz.prog (w.iter s pos) = _ := fun ty => run_next_any w s pos ty hp
      have hwd := Lib.decode_width_pos s pos hp
      obtain ⟨b, rfl⟩ : ∃ b', b = b' + 1 := ⟨b - 1, by omega⟩
      have hle : (pos : Int) ≤ (s.size : Int) := by omega
      cases hr : (((Utf8.decode s pos).1 : Int) == 65533) with
      | false =>
        have HB := Lib.hid (show checkFrom s (b + 1) pos = checkFrom s b (pos + (Utf8.decode s pos).2) from by
          have hr' : ((Utf8.decode s pos).1 == 65533) = false := by rw [beq_eq_false_iff_ne] at hr ⊢; omega
          simp [checkFrom, hp, runeBad, hr'])
        go_wp2
        go_roundw
        case rel => exact ⟨_, b, rfl, by rw [← HB.out, HC.out], by omega⟩
        case measure => simp; omega
      | true =>
        have hr' : ((Utf8.decode s pos).1 == 65533) = true := by rw [beq_iff_eq] at hr ⊢; omega
        cases hq : Lib.hasPrefix (s.data.toList.drop pos) [239, 191, 189] with
        | true =>
          have HB := Lib.hid (show checkFrom s (b + 1) pos = checkFrom s b (pos + (Utf8.decode s pos).2) from by
            simp [checkFrom, hp, runeBad, hq])
          have hpc := pref_calls s pos true hq
          have HQ := Lib.hid hq
          clear hq hr'
          go_wp2_with (go_at_call 81; refine (hpc _).mono ?_; rintro e w' ⟨rfl, rfl⟩)
          go_roundw
          case rel => exact ⟨_, b, rfl, by rw [← HB.out, HC.out], by omega⟩
          case measure => simp; omega
        | false =>
          have HB := Lib.hid (show checkFrom s (b + 1) pos = (pos : Int) from by simp [checkFrom, hp, runeBad, hr', hq])
          have hpc := pref_calls s pos false hq
          have HQ := Lib.hid hq
          clear hq hr'
          go_wp2_with (go_at_call 81; refine (hpc _).mono ?_; rintro e w' ⟨rfl, rfl⟩)
          go_ret
          exact ⟨by rw [← HC.out, HB.out]; rfl, _, rfl⟩
    · have hnx : ∀ ty, (Instr.next (.pointer (some ⟨w.heap.size, 0, none⟩)) true ty).run Tryz.prog (w.iter s pos) = _ := fun ty => run_next_end w s pos ty hp
      have HB := Lib.hid (checkFrom_end s b pos hp)
      go_wp2
      go_ret
      exact ⟨by rw [← HC.out, HB.out]; rfl, _, rfl⟩

theorem check_calls (s : ByteArray) (hs : s.size ≤ 140737488351232) (w : World) :
    Calls Tryz.prog 66 #[.string s] w fun e w' => e = .returned (.int .i64 (checkF s)) ∧ Below w.heap.size w w' :=
  (check_calls' s hs w).mono fun e w' ⟨he, pos, hw⟩ => ⟨he, by rw [hw]; exact below_iter w s pos⟩

end Go.Proofs.YtmoamfcaokefiaaGreatDoor.utf
