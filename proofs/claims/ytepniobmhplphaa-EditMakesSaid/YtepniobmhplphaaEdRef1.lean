/-
  subeditorref02.Same (of two lists that are one), Diff and Apply: the contracts.
-/
import Derived.Test.YtepniobmhplphaaEdMath2
namespace Go.Proofs.Ytepniobmhplphaa.ed
open Go.RowKit
set_option linter.unusedVariables false

set_option maxRecDepth 100000 in
set_option maxHeartbeats 4000000 in
theorem refSame_calls (u v : Value) (es : List Ed) (N M : Nat) (w : World) (h1 : EdsAt N w u es) (h2 : EdsAt M w v es) :
    Calls Try.prog 20 #[u, v] w fun e w' => e = .returned (.bool true) ∧ ∃ nq, w' = w.drewN nq := by
  obtain ⟨ao, cap, rfl, hmax, hc1⟩ := h1
  obtain ⟨ao', cap', rfl, _, hc2⟩ := h2
  have H1 := Lib.hid hc1; have H2 := Lib.hid hc2
  clear hc1 hc2
  unfold maxLen at hmax
  have t0 : ((es.length : Int) != (es.length : Int)) = false := by simp
  go_enter Try.func20, Try.ntmps20
  go_wp2_with fail
  go_loopw [5] (fun i wr => ∃ k nq : Nat, k ≤ es.length ∧ i = .int .i64 (k : Int) ∧ wr = w.drewN nq) (fun i _ => es.length - (intOf i).toNat)
  case atStart => exact ⟨0, 0, Nat.zero_le _, rfl, rfl⟩
  case round =>
    obtain ⟨k, nq, hk, rfl, rfl⟩ := hrel
    by_cases hlt : k < es.length
    · have g1 : (0 : Int) ≤ (k : Int) := by omega
      have g2 : (k : Int) < (es.length : Int) := by omega
      obtain ⟨e, hel⟩ : ∃ e, es[k]? = some e := ⟨es[k], by simp [hlt]⟩
      obtain ⟨g, o, rfl, _, c0, c1, c2⟩ := H1.out k e hel
      obtain ⟨g', o', rfl, _, d0, d1, d2⟩ := H2.out k e hel
      clear hel
      go_wp2_with fail
      go_quiet (fail)
      rename_i nq2
      rw [World.drewN_drewN]
      go_wp2_with fail
      go_roundw
      case rel => exact ⟨k + 1, _, by omega, by go_num, rfl⟩
      case measure => simp [intOf]; omega
    · have hge : decide ((k : Int) < (es.length : Int)) = false := decide_eq_false (by omega)
      go_wp2_with fail
      go_ret
      exact ⟨rfl, nq, rfl⟩

theorem revd_at (s : ByteArray) (n k : Nat) (h : k + n < s.size) : (s.data.toList.drop n).reverse[k]'(by rw [List.length_reverse, List.length_drop, size_toList]; omega) = s[s.size - 1 - k]'(by omega) := by
  rw [List.getElem_reverse, List.getElem_drop]
  have e : n + ((s.data.toList.drop n).length - 1 - k) = s.size - 1 - k := by rw [List.length_drop, size_toList]; omega
  simp only [e]
  rfl
theorem back_com (a b : ByteArray) : backF a b = com (a.data.toList.drop (frontF a b)).reverse (b.data.toList.drop (frontF a b)).reverse := by
  unfold backF endF
  rw [ext_toList, ext_toList, ← size_toList a, ← size_toList b, List.take_length, List.take_length]

set_option maxRecDepth 100000 in
set_option maxHeartbeats 4000000 in
theorem refDiff_other (a b : ByteArray) (ha : a.size ≤ 140737488355328) (hb : b.size ≤ 140737488355328) (hne : ¬ a = b) (w : World) :
    Calls Try.prog 22 #[.string a, .string b] w fun e W' => ∃ v, e = .returned v ∧ EdsAt W'.heap.size W' v (diffF a b) ∧ Below w.heap.size w W' := by
  have t0 : (a.toList == b.toList) = false := by rw [beq_eq_false_iff_ne, Lib.toList_data, Lib.toList_data]; intro h; exact hne (ba_ext h)
  have hdf : diffF a b = [⟨frontF a b, (a.size : Int) - backF a b, b.extract (frontF a b) (b.size - backF a b)⟩] := by unfold diffF; rw [if_neg hne]
  rw [hdf]
  clear hdf
  have HN := Lib.hid hne
  clear hne
  go_enter Try.func22, Try.ntmps22
  go_wp2_with fail
  go_loopw [5] (fun i wr => ∃ k nq : Nat, i = .int .i64 (k : Int) ∧ k ≤ a.size ∧ k ≤ b.size ∧ k + com (a.data.toList.drop k) (b.data.toList.drop k) = frontF a b ∧ wr = w.drewN nq) (fun i _ => a.size - (intOf i).toNat)
  case atStart => exact ⟨0, 0, rfl, Nat.zero_le _, Nat.zero_le _, by simp [frontF], rfl⟩
  case round =>
    obtain ⟨k, nq, rfl, hka, hkb, hc, rfl⟩ := hrel
    by_cases hgo : ∃ (h1 : k < a.size) (h2 : k < b.size), a[k]'h1 = b[k]'h2
    · obtain ⟨h1, h2, h3⟩ := hgo
      have t1 : decide ((k : Int) < (a.size : Int)) = true := decide_eq_true (by omega)
      have t2 : decide ((k : Int) < (b.size : Int)) = true := decide_eq_true (by omega)
      have hat := com_at a.data.toList b.data.toList k (by rw [size_toList]; exact h1) (by rw [size_toList]; exact h2)
      have t3 := toNat_beq (a[k]'h1) (b[k]'h2)
      rw [decide_eq_true h3] at t3
      rw [if_pos (show a.data.toList[k]'(by rw [size_toList]; exact h1) = b.data.toList[k]'(by rw [size_toList]; exact h2) from h3)] at hat
      rw [hat] at hc
      have HC := Lib.hid hc
      clear hc hat h3
      go_wp2_with fail
      go_quiet (fail)
      rename_i nq2
      rw [World.drewN_drewN]
      go_wp2_with fail
      go_roundw
      case rel => exact ⟨k + 1, _, by go_num, by omega, by omega, by have := HC.out; omega, rfl⟩
      case measure => simp [intOf]; omega
    · have hkf : k = frontF a b := by
        by_cases h1 : k < a.size
        · by_cases h2 : k < b.size
          · rw [com_at _ _ _ (by rw [size_toList]; exact h1) (by rw [size_toList]; exact h2), if_neg (fun (h3 : a.data.toList[k]'(by rw [size_toList]; exact h1) = b.data.toList[k]'(by rw [size_toList]; exact h2)) => hgo ⟨h1, h2, h3⟩)] at hc
            omega
          · rw [com_out _ _ _ (.inr (by rw [size_toList]; omega))] at hc
            omega
        · rw [com_out _ _ _ (.inl (by rw [size_toList]; omega))] at hc
          omega
      have hbk := back_com a b
      have hbl := backF_le a b
      rw [← hkf] at hbk hbl
      obtain ⟨K, hK⟩ : ∃ K, backF a b = K := ⟨_, rfl⟩
      rw [hK] at hbk hbl
      have HBK := Lib.hid hbk; have HKF := Lib.hid hkf; have HK := Lib.hid hK
      have HGO := Lib.hid hgo
      clear hc hkf hbk hK hgo
      by_cases h1 : k < a.size
      · have t1 : decide ((k : Int) < (a.size : Int)) = true := decide_eq_true (by omega)
        by_cases h2 : k < b.size
        · have t2 : decide ((k : Int) < (b.size : Int)) = true := decide_eq_true (by omega)
          have t3 := toNat_beq (a[k]'h1) (b[k]'h2)
          rw [decide_eq_false (fun h3 => HGO.out ⟨h1, h2, h3⟩)] at t3
          go_wp2_with fail
          go_quiet (fail)
          rename_i nq2
          rw [World.drewN_drewN]
          go_wp2_with fail
          go_loopw [6] (fun i wr => ∃ j nq : Nat, i = .int .i64 (j : Int) ∧ j + k ≤ a.size ∧ j + k ≤ b.size ∧ j + com ((a.data.toList.drop k).reverse.drop j) ((b.data.toList.drop k).reverse.drop j) = K ∧ wr = w.drewN nq) (fun i _ => a.size - (intOf i).toNat)
          case atStart => exact ⟨0, _, rfl, by omega, by omega, by rw [HBK.out]; simp, rfl⟩
          case round =>
            obtain ⟨j, nq3, rfl, hja, hjb, hc, rfl⟩ := hrel
            have wa0 : wrap64 ((a.size : Int) - (k : Int)) = (a.size : Int) - k := IntWalk.wrap64_in _ (by omega)
            have wb0 : wrap64 ((b.size : Int) - (k : Int)) = (b.size : Int) - k := IntWalk.wrap64_in _ (by omega)
            by_cases g1 : j + k < a.size
            · have u1 : decide ((j : Int) < (a.size : Int) - (k : Int)) = true := decide_eq_true (by omega)
              by_cases g2 : j + k < b.size
              · have u2 : decide ((j : Int) < (b.size : Int) - (k : Int)) = true := decide_eq_true (by omega)
                have hat := com_at (a.data.toList.drop k).reverse (b.data.toList.drop k).reverse j (by rw [List.length_reverse, List.length_drop, size_toList]; omega) (by rw [List.length_reverse, List.length_drop, size_toList]; omega)
                rw [revd_at a k j (by omega), revd_at b k j (by omega)] at hat
                obtain ⟨p, hp, hpl⟩ : ∃ p : Nat, a.size - 1 - j = p ∧ p < a.size := ⟨_, rfl, by omega⟩
                obtain ⟨q, hq, hql⟩ : ∃ q : Nat, b.size - 1 - j = q ∧ q < b.size := ⟨_, rfl, by omega⟩
                have wa1 : wrap64 ((a.size : Int) - 1) = (a.size : Int) - 1 := IntWalk.wrap64_in _ (by omega)
                have wb1 : wrap64 ((b.size : Int) - 1) = (b.size : Int) - 1 := IntWalk.wrap64_in _ (by omega)
                have wa : wrap64 ((a.size : Int) - 1 - (j : Int)) = (p : Int) := by rw [IntWalk.wrap64_in _ (by omega)]; omega
                have wb : wrap64 ((b.size : Int) - 1 - (j : Int)) = (q : Int) := by rw [IntWalk.wrap64_in _ (by omega)]; omega
                have wa' : (a.size : Int) - 1 - (j : Int) = (p : Int) := by omega
                have wb' : (b.size : Int) - 1 - (j : Int) = (q : Int) := by omega
                simp only [hp, hq] at hat
                have u3 := toNat_beq (a[p]'hpl) (b[q]'hql)
                by_cases h3 : a[p]'hpl = b[q]'hql
                · rw [decide_eq_true h3] at u3
                  rw [if_pos h3] at hat
                  rw [hat] at hc
                  have HC := Lib.hid hc
                  clear hc hat h3
                  go_wp2_with fail
                  go_quiet (fail)
                  rename_i nq4
                  rw [World.drewN_drewN]
                  go_wp2_with fail
                  go_roundw
                  case rel => exact ⟨j + 1, _, by go_num, by omega, by omega, by have := HC.out; omega, rfl⟩
                  case measure => simp [intOf]; omega
                · rw [decide_eq_false h3] at u3
                  rw [if_neg h3] at hat
                  rw [hat] at hc
                  have hjK : j = K := by omega
                  clear hc hat h3 wa1 wb1
                  subst hjK
                  first
                  | (exfalso; omega)
                  | (obtain ⟨Q, hQ⟩ : ∃ Q : Nat, b.size - j = Q := ⟨_, rfl⟩
                     have wQ : wrap64 ((b.size : Int) - (j : Int)) = (Q : Int) := by rw [IntWalk.wrap64_in _ (by omega)]; omega
                     have wA : wrap64 ((a.size : Int) - (j : Int)) = (a.size : Int) - j := IntWalk.wrap64_in _ (by omega)
                     have wQ' : (b.size : Int) - (j : Int) = (Q : Int) := by omega
                     have l1 : (k : Int) ≤ (Q : Int) := by omega
                     have l2 : (Q : Int) ≤ (b.size : Int) := by omega
                     go_wp2_with fail
                     go_quiet (fail)
                     rename_i nq4
                     rw [World.drewN_drewN]
                     go_wp2_with fail
                     go_ret
                     rw [← HKF.out, HK.out, hQ]
                     exact ⟨_, rfl, EdsAt.new _ [⟨(k : Int), (a.size : Int) - j, b.extract k Q⟩] #[.int .i64 (k : Int), .int .i64 ((a.size : Int) - j), .string (b.extract k Q)] rfl (by simp [maxLen]), Below.step (bel_drewN (Below.refl _ w) _) (Below.new _ _)⟩)
              · have u2 : decide ((j : Int) < (b.size : Int) - (k : Int)) = false := decide_eq_false (by omega)
                rw [com_out _ _ _ (.inr (by rw [List.length_reverse, List.length_drop, size_toList]; omega))] at hc
                have hjK : j = K := by omega
                clear hc
                subst hjK
                first
                | (exfalso; omega)
                | (obtain ⟨Q, hQ⟩ : ∃ Q : Nat, b.size - j = Q := ⟨_, rfl⟩
                   have wQ : wrap64 ((b.size : Int) - (j : Int)) = (Q : Int) := by rw [IntWalk.wrap64_in _ (by omega)]; omega
                   have wA : wrap64 ((a.size : Int) - (j : Int)) = (a.size : Int) - j := IntWalk.wrap64_in _ (by omega)
                   have wQ' : (b.size : Int) - (j : Int) = (Q : Int) := by omega
                   have l1 : (k : Int) ≤ (Q : Int) := by omega
                   have l2 : (Q : Int) ≤ (b.size : Int) := by omega
                   go_wp2_with fail
                   go_quiet (fail)
                   rename_i nq4
                   rw [World.drewN_drewN]
                   go_wp2_with fail
                   go_ret
                   rw [← HKF.out, HK.out, hQ]
                   exact ⟨_, rfl, EdsAt.new _ [⟨(k : Int), (a.size : Int) - j, b.extract k Q⟩] #[.int .i64 (k : Int), .int .i64 ((a.size : Int) - j), .string (b.extract k Q)] rfl (by simp [maxLen]), Below.step (bel_drewN (Below.refl _ w) _) (Below.new _ _)⟩)
            · have u1 : decide ((j : Int) < (a.size : Int) - (k : Int)) = false := decide_eq_false (by omega)
              rw [com_out _ _ _ (.inl (by rw [List.length_reverse, List.length_drop, size_toList]; omega))] at hc
              have hjK : j = K := by omega
              clear hc
              subst hjK
              first
              | (exfalso; omega)
              | (obtain ⟨Q, hQ⟩ : ∃ Q : Nat, b.size - j = Q := ⟨_, rfl⟩
                 have wQ : wrap64 ((b.size : Int) - (j : Int)) = (Q : Int) := by rw [IntWalk.wrap64_in _ (by omega)]; omega
                 have wA : wrap64 ((a.size : Int) - (j : Int)) = (a.size : Int) - j := IntWalk.wrap64_in _ (by omega)
                 have wQ' : (b.size : Int) - (j : Int) = (Q : Int) := by omega
                 have l1 : (k : Int) ≤ (Q : Int) := by omega
                 have l2 : (Q : Int) ≤ (b.size : Int) := by omega
                 go_wp2_with fail
                 go_quiet (fail)
                 rename_i nq4
                 rw [World.drewN_drewN]
                 go_wp2_with fail
                 go_ret
                 rw [← HKF.out, HK.out, hQ]
                 exact ⟨_, rfl, EdsAt.new _ [⟨(k : Int), (a.size : Int) - j, b.extract k Q⟩] #[.int .i64 (k : Int), .int .i64 ((a.size : Int) - j), .string (b.extract k Q)] rfl (by simp [maxLen]), Below.step (bel_drewN (Below.refl _ w) _) (Below.new _ _)⟩)
        · have t2 : decide ((k : Int) < (b.size : Int)) = false := decide_eq_false (by omega)
          go_wp2_with fail
          go_quiet (fail)
          rename_i nq2
          rw [World.drewN_drewN]
          go_wp2_with fail
          go_loopw [6] (fun i wr => ∃ j nq : Nat, i = .int .i64 (j : Int) ∧ j + k ≤ a.size ∧ j + k ≤ b.size ∧ j + com ((a.data.toList.drop k).reverse.drop j) ((b.data.toList.drop k).reverse.drop j) = K ∧ wr = w.drewN nq) (fun i _ => a.size - (intOf i).toNat)
          case atStart => exact ⟨0, _, rfl, by omega, by omega, by rw [HBK.out]; simp, rfl⟩
          case round =>
            obtain ⟨j, nq3, rfl, hja, hjb, hc, rfl⟩ := hrel
            have wa0 : wrap64 ((a.size : Int) - (k : Int)) = (a.size : Int) - k := IntWalk.wrap64_in _ (by omega)
            have wb0 : wrap64 ((b.size : Int) - (k : Int)) = (b.size : Int) - k := IntWalk.wrap64_in _ (by omega)
            by_cases g1 : j + k < a.size
            · have u1 : decide ((j : Int) < (a.size : Int) - (k : Int)) = true := decide_eq_true (by omega)
              by_cases g2 : j + k < b.size
              · have u2 : decide ((j : Int) < (b.size : Int) - (k : Int)) = true := decide_eq_true (by omega)
                have hat := com_at (a.data.toList.drop k).reverse (b.data.toList.drop k).reverse j (by rw [List.length_reverse, List.length_drop, size_toList]; omega) (by rw [List.length_reverse, List.length_drop, size_toList]; omega)
                rw [revd_at a k j (by omega), revd_at b k j (by omega)] at hat
                obtain ⟨p, hp, hpl⟩ : ∃ p : Nat, a.size - 1 - j = p ∧ p < a.size := ⟨_, rfl, by omega⟩
                obtain ⟨q, hq, hql⟩ : ∃ q : Nat, b.size - 1 - j = q ∧ q < b.size := ⟨_, rfl, by omega⟩
                have wa1 : wrap64 ((a.size : Int) - 1) = (a.size : Int) - 1 := IntWalk.wrap64_in _ (by omega)
                have wb1 : wrap64 ((b.size : Int) - 1) = (b.size : Int) - 1 := IntWalk.wrap64_in _ (by omega)
                have wa : wrap64 ((a.size : Int) - 1 - (j : Int)) = (p : Int) := by rw [IntWalk.wrap64_in _ (by omega)]; omega
                have wb : wrap64 ((b.size : Int) - 1 - (j : Int)) = (q : Int) := by rw [IntWalk.wrap64_in _ (by omega)]; omega
                have wa' : (a.size : Int) - 1 - (j : Int) = (p : Int) := by omega
                have wb' : (b.size : Int) - 1 - (j : Int) = (q : Int) := by omega
                simp only [hp, hq] at hat
                have u3 := toNat_beq (a[p]'hpl) (b[q]'hql)
                by_cases h3 : a[p]'hpl = b[q]'hql
                · rw [decide_eq_true h3] at u3
                  rw [if_pos h3] at hat
                  rw [hat] at hc
                  have HC := Lib.hid hc
                  clear hc hat h3
                  go_wp2_with fail
                  go_quiet (fail)
                  rename_i nq4
                  rw [World.drewN_drewN]
                  go_wp2_with fail
                  go_roundw
                  case rel => exact ⟨j + 1, _, by go_num, by omega, by omega, by have := HC.out; omega, rfl⟩
                  case measure => simp [intOf]; omega
                · rw [decide_eq_false h3] at u3
                  rw [if_neg h3] at hat
                  rw [hat] at hc
                  have hjK : j = K := by omega
                  clear hc hat h3 wa1 wb1
                  subst hjK
                  first
                  | (exfalso; omega)
                  | (obtain ⟨Q, hQ⟩ : ∃ Q : Nat, b.size - j = Q := ⟨_, rfl⟩
                     have wQ : wrap64 ((b.size : Int) - (j : Int)) = (Q : Int) := by rw [IntWalk.wrap64_in _ (by omega)]; omega
                     have wA : wrap64 ((a.size : Int) - (j : Int)) = (a.size : Int) - j := IntWalk.wrap64_in _ (by omega)
                     have wQ' : (b.size : Int) - (j : Int) = (Q : Int) := by omega
                     have l1 : (k : Int) ≤ (Q : Int) := by omega
                     have l2 : (Q : Int) ≤ (b.size : Int) := by omega
                     go_wp2_with fail
                     go_quiet (fail)
                     rename_i nq4
                     rw [World.drewN_drewN]
                     go_wp2_with fail
                     go_ret
                     rw [← HKF.out, HK.out, hQ]
                     exact ⟨_, rfl, EdsAt.new _ [⟨(k : Int), (a.size : Int) - j, b.extract k Q⟩] #[.int .i64 (k : Int), .int .i64 ((a.size : Int) - j), .string (b.extract k Q)] rfl (by simp [maxLen]), Below.step (bel_drewN (Below.refl _ w) _) (Below.new _ _)⟩)
              · have u2 : decide ((j : Int) < (b.size : Int) - (k : Int)) = false := decide_eq_false (by omega)
                rw [com_out _ _ _ (.inr (by rw [List.length_reverse, List.length_drop, size_toList]; omega))] at hc
                have hjK : j = K := by omega
                clear hc
                subst hjK
                first
                | (exfalso; omega)
                | (obtain ⟨Q, hQ⟩ : ∃ Q : Nat, b.size - j = Q := ⟨_, rfl⟩
                   have wQ : wrap64 ((b.size : Int) - (j : Int)) = (Q : Int) := by rw [IntWalk.wrap64_in _ (by omega)]; omega
                   have wA : wrap64 ((a.size : Int) - (j : Int)) = (a.size : Int) - j := IntWalk.wrap64_in _ (by omega)
                   have wQ' : (b.size : Int) - (j : Int) = (Q : Int) := by omega
                   have l1 : (k : Int) ≤ (Q : Int) := by omega
                   have l2 : (Q : Int) ≤ (b.size : Int) := by omega
                   go_wp2_with fail
                   go_quiet (fail)
                   rename_i nq4
                   rw [World.drewN_drewN]
                   go_wp2_with fail
                   go_ret
                   rw [← HKF.out, HK.out, hQ]
                   exact ⟨_, rfl, EdsAt.new _ [⟨(k : Int), (a.size : Int) - j, b.extract k Q⟩] #[.int .i64 (k : Int), .int .i64 ((a.size : Int) - j), .string (b.extract k Q)] rfl (by simp [maxLen]), Below.step (bel_drewN (Below.refl _ w) _) (Below.new _ _)⟩)
            · have u1 : decide ((j : Int) < (a.size : Int) - (k : Int)) = false := decide_eq_false (by omega)
              rw [com_out _ _ _ (.inl (by rw [List.length_reverse, List.length_drop, size_toList]; omega))] at hc
              have hjK : j = K := by omega
              clear hc
              subst hjK
              first
              | (exfalso; omega)
              | (obtain ⟨Q, hQ⟩ : ∃ Q : Nat, b.size - j = Q := ⟨_, rfl⟩
                 have wQ : wrap64 ((b.size : Int) - (j : Int)) = (Q : Int) := by rw [IntWalk.wrap64_in _ (by omega)]; omega
                 have wA : wrap64 ((a.size : Int) - (j : Int)) = (a.size : Int) - j := IntWalk.wrap64_in _ (by omega)
                 have wQ' : (b.size : Int) - (j : Int) = (Q : Int) := by omega
                 have l1 : (k : Int) ≤ (Q : Int) := by omega
                 have l2 : (Q : Int) ≤ (b.size : Int) := by omega
                 go_wp2_with fail
                 go_quiet (fail)
                 rename_i nq4
                 rw [World.drewN_drewN]
                 go_wp2_with fail
                 go_ret
                 rw [← HKF.out, HK.out, hQ]
                 exact ⟨_, rfl, EdsAt.new _ [⟨(k : Int), (a.size : Int) - j, b.extract k Q⟩] #[.int .i64 (k : Int), .int .i64 ((a.size : Int) - j), .string (b.extract k Q)] rfl (by simp [maxLen]), Below.step (bel_drewN (Below.refl _ w) _) (Below.new _ _)⟩)
      · have t1 : decide ((k : Int) < (a.size : Int)) = false := decide_eq_false (by omega)
        go_wp2_with fail
        go_quiet (fail)
        rename_i nq2
        rw [World.drewN_drewN]
        go_wp2_with fail
        go_loopw [6] (fun i wr => ∃ j nq : Nat, i = .int .i64 (j : Int) ∧ j + k ≤ a.size ∧ j + k ≤ b.size ∧ j + com ((a.data.toList.drop k).reverse.drop j) ((b.data.toList.drop k).reverse.drop j) = K ∧ wr = w.drewN nq) (fun i _ => a.size - (intOf i).toNat)
        case atStart => exact ⟨0, _, rfl, by omega, by omega, by rw [HBK.out]; simp, rfl⟩
        case round =>
          obtain ⟨j, nq3, rfl, hja, hjb, hc, rfl⟩ := hrel
          have wa0 : wrap64 ((a.size : Int) - (k : Int)) = (a.size : Int) - k := IntWalk.wrap64_in _ (by omega)
          have wb0 : wrap64 ((b.size : Int) - (k : Int)) = (b.size : Int) - k := IntWalk.wrap64_in _ (by omega)
          by_cases g1 : j + k < a.size
          · have u1 : decide ((j : Int) < (a.size : Int) - (k : Int)) = true := decide_eq_true (by omega)
            by_cases g2 : j + k < b.size
            · have u2 : decide ((j : Int) < (b.size : Int) - (k : Int)) = true := decide_eq_true (by omega)
              have hat := com_at (a.data.toList.drop k).reverse (b.data.toList.drop k).reverse j (by rw [List.length_reverse, List.length_drop, size_toList]; omega) (by rw [List.length_reverse, List.length_drop, size_toList]; omega)
              rw [revd_at a k j (by omega), revd_at b k j (by omega)] at hat
              obtain ⟨p, hp, hpl⟩ : ∃ p : Nat, a.size - 1 - j = p ∧ p < a.size := ⟨_, rfl, by omega⟩
              obtain ⟨q, hq, hql⟩ : ∃ q : Nat, b.size - 1 - j = q ∧ q < b.size := ⟨_, rfl, by omega⟩
              have wa1 : wrap64 ((a.size : Int) - 1) = (a.size : Int) - 1 := IntWalk.wrap64_in _ (by omega)
              have wb1 : wrap64 ((b.size : Int) - 1) = (b.size : Int) - 1 := IntWalk.wrap64_in _ (by omega)
              have wa : wrap64 ((a.size : Int) - 1 - (j : Int)) = (p : Int) := by rw [IntWalk.wrap64_in _ (by omega)]; omega
              have wb : wrap64 ((b.size : Int) - 1 - (j : Int)) = (q : Int) := by rw [IntWalk.wrap64_in _ (by omega)]; omega
              have wa' : (a.size : Int) - 1 - (j : Int) = (p : Int) := by omega
              have wb' : (b.size : Int) - 1 - (j : Int) = (q : Int) := by omega
              simp only [hp, hq] at hat
              have u3 := toNat_beq (a[p]'hpl) (b[q]'hql)
              by_cases h3 : a[p]'hpl = b[q]'hql
              · rw [decide_eq_true h3] at u3
                rw [if_pos h3] at hat
                rw [hat] at hc
                have HC := Lib.hid hc
                clear hc hat h3
                go_wp2_with fail
                go_quiet (fail)
                rename_i nq4
                rw [World.drewN_drewN]
                go_wp2_with fail
                go_roundw
                case rel => exact ⟨j + 1, _, by go_num, by omega, by omega, by have := HC.out; omega, rfl⟩
                case measure => simp [intOf]; omega
              · rw [decide_eq_false h3] at u3
                rw [if_neg h3] at hat
                rw [hat] at hc
                have hjK : j = K := by omega
                clear hc hat h3 wa1 wb1
                subst hjK
                first
                | (exfalso; omega)
                | (obtain ⟨Q, hQ⟩ : ∃ Q : Nat, b.size - j = Q := ⟨_, rfl⟩
                   have wQ : wrap64 ((b.size : Int) - (j : Int)) = (Q : Int) := by rw [IntWalk.wrap64_in _ (by omega)]; omega
                   have wA : wrap64 ((a.size : Int) - (j : Int)) = (a.size : Int) - j := IntWalk.wrap64_in _ (by omega)
                   have wQ' : (b.size : Int) - (j : Int) = (Q : Int) := by omega
                   have l1 : (k : Int) ≤ (Q : Int) := by omega
                   have l2 : (Q : Int) ≤ (b.size : Int) := by omega
                   go_wp2_with fail
                   go_quiet (fail)
                   rename_i nq4
                   rw [World.drewN_drewN]
                   go_wp2_with fail
                   go_ret
                   rw [← HKF.out, HK.out, hQ]
                   exact ⟨_, rfl, EdsAt.new _ [⟨(k : Int), (a.size : Int) - j, b.extract k Q⟩] #[.int .i64 (k : Int), .int .i64 ((a.size : Int) - j), .string (b.extract k Q)] rfl (by simp [maxLen]), Below.step (bel_drewN (Below.refl _ w) _) (Below.new _ _)⟩)
            · have u2 : decide ((j : Int) < (b.size : Int) - (k : Int)) = false := decide_eq_false (by omega)
              rw [com_out _ _ _ (.inr (by rw [List.length_reverse, List.length_drop, size_toList]; omega))] at hc
              have hjK : j = K := by omega
              clear hc
              subst hjK
              first
              | (exfalso; omega)
              | (obtain ⟨Q, hQ⟩ : ∃ Q : Nat, b.size - j = Q := ⟨_, rfl⟩
                 have wQ : wrap64 ((b.size : Int) - (j : Int)) = (Q : Int) := by rw [IntWalk.wrap64_in _ (by omega)]; omega
                 have wA : wrap64 ((a.size : Int) - (j : Int)) = (a.size : Int) - j := IntWalk.wrap64_in _ (by omega)
                 have wQ' : (b.size : Int) - (j : Int) = (Q : Int) := by omega
                 have l1 : (k : Int) ≤ (Q : Int) := by omega
                 have l2 : (Q : Int) ≤ (b.size : Int) := by omega
                 go_wp2_with fail
                 go_quiet (fail)
                 rename_i nq4
                 rw [World.drewN_drewN]
                 go_wp2_with fail
                 go_ret
                 rw [← HKF.out, HK.out, hQ]
                 exact ⟨_, rfl, EdsAt.new _ [⟨(k : Int), (a.size : Int) - j, b.extract k Q⟩] #[.int .i64 (k : Int), .int .i64 ((a.size : Int) - j), .string (b.extract k Q)] rfl (by simp [maxLen]), Below.step (bel_drewN (Below.refl _ w) _) (Below.new _ _)⟩)
          · have u1 : decide ((j : Int) < (a.size : Int) - (k : Int)) = false := decide_eq_false (by omega)
            rw [com_out _ _ _ (.inl (by rw [List.length_reverse, List.length_drop, size_toList]; omega))] at hc
            have hjK : j = K := by omega
            clear hc
            subst hjK
            first
            | (exfalso; omega)
            | (obtain ⟨Q, hQ⟩ : ∃ Q : Nat, b.size - j = Q := ⟨_, rfl⟩
               have wQ : wrap64 ((b.size : Int) - (j : Int)) = (Q : Int) := by rw [IntWalk.wrap64_in _ (by omega)]; omega
               have wA : wrap64 ((a.size : Int) - (j : Int)) = (a.size : Int) - j := IntWalk.wrap64_in _ (by omega)
               have wQ' : (b.size : Int) - (j : Int) = (Q : Int) := by omega
               have l1 : (k : Int) ≤ (Q : Int) := by omega
               have l2 : (Q : Int) ≤ (b.size : Int) := by omega
               go_wp2_with fail
               go_quiet (fail)
               rename_i nq4
               rw [World.drewN_drewN]
               go_wp2_with fail
               go_ret
               rw [← HKF.out, HK.out, hQ]
               exact ⟨_, rfl, EdsAt.new _ [⟨(k : Int), (a.size : Int) - j, b.extract k Q⟩] #[.int .i64 (k : Int), .int .i64 ((a.size : Int) - j), .string (b.extract k Q)] rfl (by simp [maxLen]), Below.step (bel_drewN (Below.refl _ w) _) (Below.new _ _)⟩)

theorem refDiff_calls (a b : ByteArray) (ha : a.size ≤ 140737488355328) (hb : b.size ≤ 140737488355328) (w : World) :
    Calls Try.prog 22 #[.string a, .string b] w fun e W' => ∃ v, e = .returned v ∧ EdsAt W'.heap.size W' v (diffF a b) ∧ Below w.heap.size w W' := by
  by_cases h : a = b
  · subst h
    have hdf : diffF a a = [] := by unfold diffF; rw [if_pos rfl]
    rw [hdf]
    clear hdf
    go_enter Try.func22, Try.ntmps22
    go_wp2_with fail
    go_ret
    exact ⟨_, rfl, EdsAt.nil _ _, Below.refl _ _⟩
  · exact refDiff_other a b ha hb h w
end Go.Proofs.Ytepniobmhplphaa.ed
