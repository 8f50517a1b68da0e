/-
  subeditorlaw03: digits, dots: their contracts.
-/
import Derived.Test.YtdhmcfhpadabaaaDoorSgHelp
namespace Go.Proofs.YtdhmcfhpadabaaaDoor.sg
open Go.RowKit Go.Shelf
set_option linter.unusedVariables false

set_option maxRecDepth 100000 in
set_option maxHeartbeats 2000000 in
theorem digits_law (n : Int) (h0 : 0 ≤ n) (h1 : n ≤ 65535) (w : World) :
    Calls Tryd.prog 25 #[.int .i64 n] w fun e W' => ∃ d : ByteArray, e = .returned (.string d) ∧ (Sg.all Sg.cD d.data.toList ∧ d.data.toList ≠ [] ∧ d.size ≤ 65536) ∧ Below w.heap.size w W' := by
  go_enter Tryd.func25, Tryd.ntmps25
  go_wp2
  go_loopw [0, 3] (fun k t wr => ∃ (m : Nat) (s : ByteArray), k = .int .i64 (m : Int) ∧ t = .string s ∧ (s.size + m ≤ 65535 ∧ Sg.all Sg.cD s.data.toList) ∧ Below w.heap.size w wr) (fun k _ _ => (intOf k).toNat)
  case atStart => exact ⟨n.toNat, ⟨#[]⟩, by go_num, rfl, ⟨by show 0 + n.toNat ≤ 65535; omega, by intro b hb; simp at hb⟩, Below.refl _ _⟩
  case round =>
    obtain ⟨m, s, rfl, rfl, ⟨hm, hs⟩, hB⟩ := hrel
    by_cases h : 9 < m
    · have t1 : decide ((9 : Int) < (m : Int)) = true := decide_eq_true (by omega)
      have hx : Sg.all Sg.cD (byteB (48 + (m : Int) % 10) ++ s).data.toList := by
        rw [append_data, byteB_data]
        refine Sg.all.append ?_ hs
        intro b hb
        rw [List.mem_singleton] at hb
        subst hb
        rw [byte_nat (by omega) (by omega)]
        simp only [Sg.cD, Bool.and_eq_true, decide_eq_true_eq]; omega
      have hz : ((byteB (48 + (m : Int) % 10)) ++ s).size = s.size + 1 := by rw [ByteArray.size_append, byteB_size]; omega
      have hc := one_byte wr (48 + (m : Int) % 10)
      have hsum : ¬ (9223372036854775807 < (byteB (48 + (m : Int) % 10)).size + s.size) := by rw [byteB_size]; omega
      have hB2 := hB.alloc hB.size (.cells #[.int .u8 (48 + (m : Int) % 10)] 5)
      obtain ⟨y, hy⟩ : ∃ y, byteB (48 + (m : Int) % 10) = y := ⟨_, rfl⟩
      rw [hy] at hc hsum hx hz
      have HC := Lib.hid hc; have HX := Lib.hid hx; have HZ := Lib.hid hz; have HB := Lib.hid hB2
      clear hc hx hz hy hB2
      go_wp2
      rw [HC.out]
      go_wp2
      go_roundw
      case rel => exact ⟨m / 10, y ++ s, by go_num, rfl, ⟨by have := HZ.out; omega, HX.out⟩, HB.out⟩
      case measure => simp [intOf]; omega
    · have t1 : decide ((9 : Int) < (m : Int)) = false := decide_eq_false (by omega)
      have hx : Sg.all Sg.cD (byteB (48 + (m : Int)) ++ s).data.toList := by
        rw [append_data, byteB_data]
        refine Sg.all.append ?_ hs
        intro b hb
        rw [List.mem_singleton] at hb
        subst hb
        rw [byte_nat (by omega) (by omega)]
        simp only [Sg.cD, Bool.and_eq_true, decide_eq_true_eq]; omega
      have hz : ((byteB (48 + (m : Int))) ++ s).size = s.size + 1 := by rw [ByteArray.size_append, byteB_size]; omega
      have hne : (byteB (48 + (m : Int)) ++ s).data.toList ≠ [] := by rw [append_data, byteB_data]; simp
      have hc := one_byte wr (48 + (m : Int))
      have hsum : ¬ (9223372036854775807 < (byteB (48 + (m : Int))).size + s.size) := by rw [byteB_size]; omega
      have hB2 := hB.alloc hB.size (.cells #[.int .u8 (48 + (m : Int))] 5)
      obtain ⟨y, hy⟩ : ∃ y, byteB (48 + (m : Int)) = y := ⟨_, rfl⟩
      rw [hy] at hc hsum hx hz hne
      have HC := Lib.hid hc; have HX := Lib.hid hx; have HZ := Lib.hid hz; have HB := Lib.hid hB2; have HN := Lib.hid hne
      clear hc hx hz hy hB2 hne
      go_wp2
      rw [HC.out]
      go_wp2
      go_ret
      exact ⟨y ++ s, rfl, ⟨HX.out, HN.out, by have := HZ.out; omega⟩, HB.out⟩

set_option maxHeartbeats 1000000 in
theorem dots_calls (b : Bool) (w : World) : Calls Tryd.prog 26 #[.bool b] w fun e W' => e = .returned (.int .i64 (if b then 0 else 1)) ∧ w = W' := by
  cases b with
  | true =>
    go_enter Tryd.func26, Tryd.ntmps26
    go_wp2
    go_ret
    exact ⟨rfl, rfl⟩
  | false =>
    go_enter Tryd.func26, Tryd.ntmps26
    go_wp2
    go_ret
    exact ⟨rfl, rfl⟩
end Go.Proofs.YtdhmcfhpadabaaaDoor.sg
