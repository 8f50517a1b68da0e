/-
  sign: of, hexes, simple, further, Word, decimal, exponent, Number, Escape: their contracts.
-/
import Derived.RangeFuncBox
import Derived.Test.YtmoamfcaokefiaaGreatDoorSgClass
import Derived.Test.YtmoamfcaokefiaaGreatDoorShelf
namespace Go.Proofs.YtmoamfcaokefiaaGreatDoor.sg
open Go.RowKit Go.Shelf
set_option linter.unusedVariables false

theorem extract_drop (s : ByteArray) (k : Nat) : (s.extract k s.size).data.toList = s.data.toList.drop k := by
  rw [ByteArray.data_extract, Array.toList_extract]
  have e : s.size = s.data.toList.length := by rw [Array.length_toList]; rfl
  rw [List.extract_eq_take_drop, e, List.take_of_length_le (by simp)]

set_option maxHeartbeats 1000000 in
theorem of_calls (t : ByteArray) (w : World) : Calls Tryz.prog 135 #[.string t] w fun e w' => e = .returned (.func (.func 146) #[] #[.pointer (some ⟨w.heap.size, 0, none⟩)]) ∧ w' = w.alloc (.cells #[.string t] 9) := by
  go_enter Tryz.func135, Tryz.ntmps135
  go_wp2_with fail
  go_ret
  exact ⟨rfl, rfl⟩

/-- A text's bytes are of a class. -/
def Tells (t : ByteArray) (p : Int → Bool) : Prop := ∀ c : Int, 0 ≤ c → c ≤ 255 → decide ((0 : Int) ≤ Lib.indexByte t.data.toList c.toNat.toUInt8) = p c
theorem tells_of (t : ByteArray) (p : Int → Bool) (h : (List.range 256).all (fun n => decide ((0 : Int) ≤ Lib.indexByte t.data.toList n.toUInt8) == p (n : Int)) = true) : Tells t p := by
  intro c h0 h1
  have := List.all_eq_true.1 h c.toNat (List.mem_range.2 (by omega))
  have e : ((c.toNat : Nat) : Int) = c := by omega
  rw [beq_iff_eq, e] at this
  exact this

set_option maxHeartbeats 1000000 in
theorem of1_calls (t : ByteArray) (p : Int → Bool) (hp : Tells t p) (B : Nat) (w : World) (hc : w.cell? ⟨B, 0, none⟩ = some (.string t)) (c : Int) (h0 : 0 ≤ c) (h1 : c ≤ 255) :
    Calls Tryz.prog 146 (#[.int .u8 c] ++ #[.pointer (some ⟨B, 0, none⟩)]) w fun e w' => e = .returned (.bool (p c)) ∧ w = w' := by
  have hv := Lib.hid (hp c h0 h1)
  show Calls Tryz.prog 146 #[.int .u8 c, .pointer (some ⟨B, 0, none⟩)] w _
  go_enter Tryz.func146, Tryz.ntmps146
  go_wp2_with fail
  ((with_reducible refine (Tryz.strings_IndexByte _ _ _).mono ?_); rintro e w1 ⟨rfl, rfl⟩)
  obtain ⟨r, hr⟩ : ∃ r, Lib.indexByte t.data.toList c.toNat.toUInt8 = r := ⟨_, rfl⟩
  have HV := Lib.hid (show decide ((0 : Int) ≤ r) = p c from by rw [← hr]; exact hv.out)
  rw [hr]
  clear hr hv
  by_cases h : 0 ≤ r
  · go_wp2_with fail
    go_ret
    exact ⟨by rw [← HV.out, decide_eq_true h]; rfl, rfl⟩
  · have h' : r < 0 := by omega
    go_wp2_with fail
    go_ret
    exact ⟨by rw [← HV.out]; rfl, rfl⟩

theorem below_of (w : World) (t : ByteArray) : Below w.heap.size w (w.alloc (.cells #[.string t] 9)) := (Below.refl _ w).alloc (Nat.le_refl _) _
theorem cell_of (w : World) (t : ByteArray) : (w.alloc (.cells #[.string t] 9)).cell? ⟨w.heap.size, 0, none⟩ = some (.string t) := (Boxed.new w 9 (.string t)).cell

/-- of(t).at(s, k). -/
theorem of_at (t : ByteArray) (p : Int → Bool) (hp : Tells t p) (w : World) (s : ByteArray) (k : Int) (h0 : 0 ≤ k) :
    Calls Tryz.prog 130 #[.func (.func 146) #[] #[.pointer (some ⟨w.heap.size, 0, none⟩)], .string s, .int .i64 k] (w.alloc (.cells #[.string t] 9)) fun e w' => e = .returned (.bool (Sg.at' p s.data.toList k.toNat)) ∧ w.alloc (.cells #[.string t] 9) = w' :=
  at_calls _ _ p s k h0 _ enOf (fun c h1 h2 => of1_calls t p hp _ _ (cell_of w t) c h1 h2)
theorem of_atB (t : ByteArray) (p : Int → Bool) (hp : Tells t p) (w : World) (B : Nat) (hB : B = w.heap.size) (s : ByteArray) (k : Int) (h0 : 0 ≤ k) :
    Calls Tryz.prog 130 #[.func (.func 146) #[] #[.pointer (some ⟨B, 0, none⟩)], .string s, .int .i64 k] (w.alloc (.cells #[.string t] 9)) fun e w' => e = .returned (.bool (Sg.at' p s.data.toList k.toNat)) ∧ w.alloc (.cells #[.string t] 9) = w' := by
  subst hB; exact of_at t p hp w s k h0
theorem of_run (t : ByteArray) (p : Int → Bool) (hp : Tells t p) (w : World) (s : ByteArray) (hs : s.size ≤ 140737488351232) :
    Calls Tryz.prog 132 #[.func (.func 146) #[] #[.pointer (some ⟨w.heap.size, 0, none⟩)], .string s] (w.alloc (.cells #[.string t] 9)) fun e w' => e = .returned (.int .i64 (Sg.run p s.data.toList : Nat)) ∧ w.alloc (.cells #[.string t] 9) = w' :=
  run_calls _ _ p s hs _ enOf (fun c h1 h2 => of1_calls t p hp _ _ (cell_of w t) c h1 h2)
theorem digit_run (w : World) (s : ByteArray) (hs : s.size ≤ 140737488351232) :
    Calls Tryz.prog 132 #[.func (.func 121) #[] #[], .string s] w fun e w' => e = .returned (.int .i64 (Sg.run Sg.cD s.data.toList : Nat)) ∧ w = w' :=
  run_calls _ _ Sg.cD s hs _ enD (fun c _ _ => digit_calls c _)

def tHex : ByteArray := ⟨#[48, 49, 50, 51, 52, 53, 54, 55, 56, 57, 97, 98, 99, 100, 101, 102, 65, 66, 67, 68, 69, 70]⟩
theorem tells_hex : Tells ⟨#[48, 49, 50, 51, 52, 53, 54, 55, 56, 57, 97, 98, 99, 100, 101, 102, 65, 66, 67, 68, 69, 70]⟩ Sg.cH := tells_of _ _ (by decide +kernel)
theorem tells_e : Tells ⟨#[101, 69]⟩ (fun n => n == 101 || n == 69) := tells_of _ _ (by decide +kernel)
theorem tells_sign : Tells ⟨#[43, 45]⟩ (fun n => n == 43 || n == 45) := tells_of _ _ (by decide +kernel)
theorem tells_esc : Tells ⟨#[34, 92, 47, 98, 102, 110, 114, 116]⟩ Sg.cE := tells_of _ _ (by decide +kernel)

set_option maxHeartbeats 1000000 in
theorem hexes_calls (s : ByteArray) (hs : s.size ≤ 140737488351232) (w : World) :
    Calls Tryz.prog 138 #[.string s] w fun e w' => e = .returned (.int .i64 (Sg.run Sg.cH s.data.toList : Nat)) ∧ Below w.heap.size w w' := by
  go_enter Tryz.func138, Tryz.ntmps138
  go_wp2_with fail
  ((with_reducible refine (of_calls _ _).mono ?_); rintro e w1 ⟨rfl, rfl⟩)
  go_wp2_with fail
  ((with_reducible refine (of_run _ _ tells_hex _ _ hs).mono ?_); rintro e w1 ⟨rfl, rfl⟩)
  go_wp2_with fail
  go_ret
  exact ⟨rfl, below_of _ _⟩

set_option maxHeartbeats 1000000 in
theorem simple_calls (s : ByteArray) (hs : s.size ≤ 140737488351232) (w : World) :
    Calls Tryz.prog 115 #[.string s] w fun e w' => e = .returned (.int .i64 (Sg.simple s.data.toList : Nat)) ∧ w = w' := by
  have ha := at_calls 120 #[] Sg.cL s 0 (Int.le_refl _) w enL (fun c _ _ => letter_calls c _)
  have hr := run_calls 131 #[] Sg.cW s hs w enW (fun c _ _ => inName_calls c _)
  cases hv : Sg.at' Sg.cL s.data.toList 0 with
  | true =>
    have HV := Lib.hid (show Sg.simple s.data.toList = Sg.run Sg.cW s.data.toList from by unfold Sg.simple; rw [hv]; rfl)
    rw [show (0 : Int).toNat = 0 from rfl, hv] at ha
    clear hv
    go_enter Tryz.func115, Tryz.ntmps115
    go_wp2_with fail
    ((with_reducible refine ha.mono ?_); rintro e w1 ⟨rfl, rfl⟩)
    go_wp2_with fail
    ((with_reducible refine hr.mono ?_); rintro e w1 ⟨rfl, rfl⟩)
    go_wp2_with fail
    go_ret
    exact ⟨by rw [HV.out]; rfl, rfl⟩
  | false =>
    have HV := Lib.hid (show Sg.simple s.data.toList = 0 from by unfold Sg.simple; rw [hv]; rfl)
    rw [show (0 : Int).toNat = 0 from rfl, hv] at ha
    clear hv
    go_enter Tryz.func115, Tryz.ntmps115
    go_wp2_with fail
    ((with_reducible refine ha.mono ?_); rintro e w1 ⟨rfl, rfl⟩)
    go_wp2_with fail
    go_ret
    exact ⟨by rw [HV.out]; rfl, rfl⟩

theorem trim_true {l p : List UInt8} (h : Lib.hasPrefix l p = true) : Lib.trimPrefix l p = l.drop p.length := by unfold Lib.trimPrefix; rw [if_pos h]
theorem trim_size (l p : List UInt8) : (⟨(Lib.trimPrefix l p).toArray⟩ : ByteArray).size ≤ l.length := by
  show (Lib.trimPrefix l p).toArray.size ≤ _
  unfold Lib.trimPrefix
  split <;> simp

set_option maxHeartbeats 1000000 in
theorem further_calls (s : ByteArray) (hs : s.size ≤ 140737488351232) (w : World) :
    Calls Tryz.prog 116 #[.string s] w fun e w' => e = .returned (.int .i64 (Sg.further s.data.toList : Nat)) ∧ w = w' := by
  have hc := Tryz.strings_CutPrefix s ⟨#[58, 58]⟩ w
  have hz := trim_size s.data.toList [58, 58]
  rw [lst_len] at hz
  have hsm := simple_calls ⟨(Lib.trimPrefix s.data.toList [58, 58]).toArray⟩ (by omega) w
  have hsl := Sg.simple_le (Lib.trimPrefix s.data.toList [58, 58])
  cases hv : Lib.hasPrefix s.data.toList [58, 58] with
  | false =>
    have HV := Lib.hid (show Sg.further s.data.toList = 0 from by unfold Sg.further; rw [hv]; rfl)
    rw [show (⟨#[58, 58]⟩ : ByteArray).data.toList = [58, 58] from rfl, hv] at hc
    clear hv
    go_enter Tryz.func116, Tryz.ntmps116
    go_wp2_with fail
    ((with_reducible refine hc.mono ?_); rintro e w1 ⟨rfl, rfl⟩)
    go_wp2_with fail
    go_ret
    exact ⟨by rw [HV.out]; rfl, rfl⟩
  | true =>
    have ht := trim_true hv
    have HV := Lib.hid (show Sg.further s.data.toList = if Sg.simple (s.data.toList.drop 2) = 0 then 0 else 2 + Sg.simple (s.data.toList.drop 2) from by unfold Sg.further; rw [hv]; rfl)
    rw [show (⟨#[58, 58]⟩ : ByteArray).data.toList = [58, 58] from rfl, hv] at hc
    rw [show ((⟨(Lib.trimPrefix s.data.toList [58, 58]).toArray⟩ : ByteArray).data.toList) = Lib.trimPrefix s.data.toList [58, 58] from by simp, ht] at hsm
    rw [ht] at hc hsl
    have hl2 : (s.data.toList.drop 2).length ≤ s.size := by rw [List.length_drop, lst_len]; omega
    simp only [List.length_cons, List.length_nil, Nat.zero_add, Nat.reduceAdd] at hc hsm hsl
    obtain ⟨k, hk⟩ : ∃ k, Sg.simple (s.data.toList.drop 2) = k := ⟨_, rfl⟩
    rw [hk] at HV hsm hsl
    clear hv ht hz hk
    by_cases h0 : k = 0
    · subst h0
      go_enter Tryz.func116, Tryz.ntmps116
      go_wp2_with fail
      ((with_reducible refine hc.mono ?_); rintro e w1 ⟨rfl, rfl⟩)
      go_wp2_with fail
      ((with_reducible refine hsm.mono ?_); rintro e w1 ⟨rfl, rfl⟩)
      go_wp2_with fail
      go_ret
      exact ⟨by rw [HV.out]; rfl, rfl⟩
    · have h1 : ((k : Int) == 0) = false := by rw [beq_eq_false_iff_ne]; omega
      have h2 : k ≤ 140737488351232 := by omega
      go_enter Tryz.func116, Tryz.ntmps116
      go_wp2_with fail
      ((with_reducible refine hc.mono ?_); rintro e w1 ⟨rfl, rfl⟩)
      go_wp2_with fail
      ((with_reducible refine hsm.mono ?_); rintro e w1 ⟨rfl, rfl⟩)
      go_wp2_with fail
      go_ret
      exact ⟨by rw [HV.out, if_neg h0]; rfl, rfl⟩
end Go.Proofs.YtmoamfcaokefiaaGreatDoor.sg
