/-
  sign: Word, decimal, exponent, Number, Escape: their contracts.
-/
import Derived.IntWalk
import Derived.Test.YtmoamfcaokefiaaGreatDoorSgFns
namespace Go.Proofs.YtmoamfcaokefiaaGreatDoor.sg
open Go.RowKit Go.Shelf
set_option linter.unusedVariables false

theorem Below.next {B : Nat} {w a b : World} (h : Below B w a) (k : Below a.heap.size a b) (hB : B ≤ w.heap.size) : Below B w b := h.trans (k.mono (Nat.le_trans hB h.size))

theorem ext_size (s : ByteArray) (k : Nat) (hs : s.size ≤ 140737488351232) : (s.extract k s.size).size ≤ 140737488351232 := by rw [ByteArray.size_extract]; omega

/-- Between two rounds of Word: a told, m more. -/
def WI (s : ByteArray) (a m f : Nat) : Prop := (a + m ≤ s.size ∧ (m ≠ 0 → s.size ≤ f + (a + m))) ∧ (if m = 0 then a else a + m + Sg.tail f (s.data.toList.drop (a + m))) = Sg.word s.data.toList
theorem WI.start (s : ByteArray) : WI s 0 (Sg.simple s.data.toList) s.size := by
  have hsl := Sg.simple_le s.data.toList
  rw [lst_len] at hsl
  refine ⟨⟨by omega, fun _ => by omega⟩, ?_⟩
  unfold Sg.word
  rw [Nat.zero_add, lst_len]
theorem WI.fin {s : ByteArray} {a f : Nat} (h : WI s a 0 f) : Sg.word s.data.toList = a := by rw [← h.2, if_pos rfl]
theorem WI.step {s : ByteArray} {a m f : Nat} (h : WI s a m f) (h0 : m ≠ 0) : WI s (a + m) (Sg.further (s.data.toList.drop (a + m))) (f - 1) := by
  obtain ⟨⟨h1, h2⟩, hw⟩ := h
  rw [if_neg h0] at hw
  have hfl := Sg.further_le (s.data.toList.drop (a + m))
  rw [List.length_drop, lst_len] at hfl
  have h2 := h2 h0
  refine ⟨⟨by omega, fun hk => by omega⟩, ?_⟩
  · rw [← hw]
    cases f with
    | zero =>
      have : Sg.further (s.data.toList.drop (a + m)) = 0 := by omega
      rw [if_pos this]; rfl
    | succ f =>
      rw [Nat.add_sub_cancel, show Sg.tail (f + 1) (s.data.toList.drop (a + m)) = (if Sg.further (s.data.toList.drop (a + m)) = 0 then 0 else Sg.further (s.data.toList.drop (a + m)) + Sg.tail f ((s.data.toList.drop (a + m)).drop (Sg.further (s.data.toList.drop (a + m))))) from rfl]
      split
      · rfl
      · rw [List.drop_drop, Nat.add_assoc (a + m)]

set_option maxRecDepth 100000 in
set_option maxHeartbeats 2000000 in
theorem word_calls (s : ByteArray) (hs : s.size ≤ 140737488351232) (w : World) :
    Calls Tryz.prog 101 #[.string s] w fun e w' => e = .returned (.int .i64 (Sg.word s.data.toList : Nat)) ∧ w = w' := by
  have hsm := simple_calls s hs w
  have hst := Lib.hid (WI.start s)
  obtain ⟨k0, hk0⟩ : ∃ k, Sg.simple s.data.toList = k := ⟨_, rfl⟩
  rw [hk0] at hsm
  have HK := Lib.hid hk0
  clear hk0
  go_enter Tryz.func101, Tryz.ntmps101
  go_wp2_with fail
  ((with_reducible refine hsm.mono ?_); rintro e w1 ⟨rfl, rfl⟩)
  go_wp2_with fail
  go_loopw [3, 4] (fun n more wr => ∃ (a m f : Nat), n = .int .i64 (a : Int) ∧ more = .int .i64 (m : Int) ∧ WI s a m f ∧ wr = w) (fun n more _ => s.size + 1 - (intOf n).toNat)
  case atStart => exact ⟨0, k0, s.size, rfl, rfl, HK.out ▸ hst.out, rfl⟩
  case round =>
    obtain ⟨a, m, f, rfl, rfl, hI, rfl⟩ := hrel
    have ham := hI.1.1
    by_cases h0 : m = 0
    · subst h0
      have HV := Lib.hid hI.fin
      clear hI
      go_wp2_with fail
      go_ret
      exact ⟨by rw [HV.out]; rfl, rfl⟩
    · have HN := Lib.hid (hI.step h0)
      have hfc := further_calls (s.extract (a + m) s.size) (ext_size _ _ hs) wr
      rw [extract_drop] at hfc
      obtain ⟨k, hk⟩ : ∃ k, Sg.further (s.data.toList.drop (a + m)) = k := ⟨_, rfl⟩
      rw [hk] at hfc HN
      have h1 : (0 : Int) < (m : Int) := by omega
      have h3 : wrap64 ((a : Int) + (m : Int)) = ((a + m : Nat) : Int) := by rw [IntWalk.wrap64_in]; rfl; omega
      have h3' : IntKind.i64.wrap ((a : Int) + (m : Int)) = ((a + m : Nat) : Int) := (IntWalk.i64_left _).trans h3
      have h4 : ((a + m : Nat) : Int) ≤ (s.size : Int) := by omega
      have h5 : (0 : Int) ≤ ((a + m : Nat) : Int) := by omega
      obtain ⟨b, hb⟩ : ∃ b, a + m = b := ⟨_, rfl⟩
      rw [hb] at hfc HN h3 h3' h4 h5
      clear hk hI
      go_wp2_with fail
      ((with_reducible refine hfc.mono ?_); rintro e w1 ⟨rfl, rfl⟩)
      go_wp2_with fail
      go_roundw
      case rel => exact ⟨b, k, f - 1, by go_num, by go_num, HN.out, trivial⟩
      case measure => simp [intOf]; omega
end Go.Proofs.YtmoamfcaokefiaaGreatDoor.sg
