/-
  node: the law's equal.
-/
import Derived.Test.YtbdkemgfdghbkaaDoorNdAt
import Derived.Deep.RegionHeld3
import Derived.Test.YtbdkemgfdghbkaaDoorSeqX
namespace Go.Proofs.YtbdkemgfdghbkaaDoor.nd
open Go.RowKit sx ed
set_option linter.unusedVariables false

set_option maxRecDepth 100000 in
set_option maxHeartbeats 4000000 in
theorem equal_calls (la lb : List Int) (n : Nat) (hla : la.length = n) (hlb : lb.length = n) (hn : n ≤ 1000000) (hne : la ≠ lb) (w : World) (u v : Value) (hu : IntsAt (Lt w.heap.size) w u la) (hv : IntsAt (Lt w.heap.size) w v lb) :
    Calls Tryd.prog 24 #[u, v] w fun e w' => e = .returned (.bool false) ∧ Below w.heap.size w w' := by
  obtain ⟨ua, uc, hue, _⟩ := id hu
  obtain ⟨va, vc, hve, _⟩ := id hv
  rw [hla] at hue; rw [hlb] at hve
  subst hue; subst hve
  have HU := Lib.hid hu; have HV := Lib.hid hv; have HA := Lib.hid hla; have HB := Lib.hid hlb; have HN := Lib.hid hne
  clear hu hv hla hlb hne
  go_enter Tryd.func24, Tryd.ntmps24
  go_wp2_with fail
  go_loopw [5] (fun i wr => ∃ k : Nat, k ≤ n ∧ i = .int .i64 (k : Int) ∧ la.take k = lb.take k ∧ Below w.heap.size w wr) (fun i _ => n - (intOf i).toNat)
  case atStart => exact ⟨0, Nat.zero_le _, rfl, by simp, Below.refl _ _⟩
  case round =>
    obtain ⟨k, hk, rfl, heq, hb⟩ := hrel
    by_cases hlt : k < n
    · have hlt1 : (k : Int) < (n : Int) := by omega
      have hka : la[k]? = some (la[k]'(by rw [HA.out]; exact hlt)) := List.getElem?_eq_getElem _
      have hkb : lb[k]? = some (lb[k]'(by rw [HB.out]; exact hlt)) := List.getElem?_eq_getElem _
      obtain ⟨x, hx⟩ : ∃ x, la[k]'(by rw [HA.out]; exact hlt) = x := ⟨_, rfl⟩
      obtain ⟨y, hy⟩ : ∃ y, lb[k]'(by rw [HB.out]; exact hlt) = y := ⟨_, rfl⟩
      rw [hx] at hka
      rw [hy] at hkb
      obtain ⟨ga, oa, ea, sa, ca⟩ := (HU.out.below hb (Nat.le_refl _)).get hka
      obtain ⟨gb, ob, eb, sb, cb⟩ := (HV.out.below hb (Nat.le_refl _)).get hkb
      subst ea; subst eb
      have hnx : x = y → la.take (k + 1) = lb.take (k + 1) := fun e => by
        rw [List.take_add_one, List.take_add_one, heq, hka, hkb, e]
      have HB2 := Lib.hid hb; have HNX := Lib.hid hnx
      clear hx hy hka hkb hb hnx heq
      by_cases hxy : x = y
      · have h1 : decide (x = y) = true := decide_eq_true hxy
        subst hxy
        go_wp2_with fail
        go_region
        go_wp2_with fail
        exact ⟨⟨k + 1, hlt, by go_num, HNX.out trivial, HB2.out.drew⟩, by simp [intOf]; omega⟩
      · have h1 : decide (x = y) = false := decide_eq_false hxy
        go_wp2_with fail
        go_region
        go_wp2_with fail
        go_ret
        exact ⟨rfl, HB2.out.drew⟩
    · obtain rfl : k = n := by omega
      exact absurd (by
        have h1 := heq
        rw [List.take_of_length_le (by rw [HA.out]; exact Nat.le_refl _), List.take_of_length_le (by rw [HB.out]; exact Nat.le_refl _)] at h1
        exact h1) HN.out
end Go.Proofs.YtbdkemgfdghbkaaDoor.nd
