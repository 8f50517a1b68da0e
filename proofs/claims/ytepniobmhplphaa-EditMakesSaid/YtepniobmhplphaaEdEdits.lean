/-
  subeditorlaw02.Edits: what it makes of choices; its contract.
-/
import Derived.Test.YtepniobmhplphaaEdRefRight
import Derived.OwnWalk
import Derived.Maps.AppendAt
namespace Go.Proofs.Ytepniobmhplphaa.ed
open Go.RowKit
set_option linter.unusedVariables false

theorem infoE : (Try.prog.info? 44).map (fun i => (i.zero, i.size, i.bytes)) = some (some (.agg #[.int .i64 0, .int .i64 0, .string ⟨#[]⟩]), 3, 32) := by kernel_rfl

theorem cell_new3 (w : World) (t : TypeId) (a b c : Value) : ∀ (j : Nat) (u : Value), [a, b, c][j]? = some u → (w.alloc (.cells #[a, b, c] t)).cell? ((⟨w.heap.size, 0, none⟩ : Addr).add j) = some u := by
  intro j u hj
  have hg := World.alloc_heap_new w (.cells #[a, b, c] t)
  match j, hj with
  | 0, hj => simp at hj; subst hj; exact (ed.Blk.cell (t := t) hg 0)
  | 1, hj => simp at hj; subst hj; exact (ed.Blk.cell (t := t) hg 1)
  | 2, hj => simp at hj; subst hj; exact (ed.Blk.cell (t := t) hg 2)

abbrev xyzw : ByteArray := ⟨#[120, 121, 122, 119]⟩
/-- What a choice puts. -/
def putX (c : Int) : ByteArray := xyzw.extract 0 (c % 5).toNat
/-- Where the next one may begin. -/
def nextAt (f t c : Int) : Int := if 250 < c then max t (f + 1) - 1 else max t (f + 1)
def edsL (n : Int) : Nat → List Int → Int → List Ed
  | k + 1, a :: b :: c :: r, at' => if n < at' + a % 4 + b % 4 then [] else ⟨at' + a % 4, at' + a % 4 + b % 4, putX c⟩ :: edsL n k r (nextAt (at' + a % 4) (at' + a % 4 + b % 4) c)
  | _, _, _ => []
def edsF (bs : List Int) (n : Int) : List Ed := edsL n 10 bs 0
theorem edsL_length (n : Int) : ∀ k bs at', (edsL n k bs at').length ≤ k
  | 0, _, _ => by simp [edsL]
  | k + 1, [], _ => by simp [edsL]
  | k + 1, [_], _ => by simp [edsL]
  | k + 1, [_, _], _ => by simp [edsL]
  | k + 1, a :: b :: c :: r, at' => by
    simp only [edsL]
    split
    · simp
    · have := edsL_length n k r (nextAt (at' + a % 4) (at' + a % 4 + b % 4) c)
      simp; omega
theorem drop3 {bs : List Int} {i : Nat} (h : i + 2 < bs.length) : bs.drop i = bs.getD i 0 :: bs.getD (i + 1) 0 :: bs.getD (i + 2) 0 :: bs.drop (i + 3) := by
  rw [List.drop_eq_getElem_cons (by omega), List.drop_eq_getElem_cons (by omega), List.drop_eq_getElem_cons h]
  simp [List.getD, show i < bs.length by omega, show i + 1 < bs.length by omega, h]
theorem edsL_few (n : Int) (k : Nat) (bs : List Int) (at' : Int) (h : bs.length ≤ 2) : edsL n k bs at' = [] := by
  match k, bs, h with
  | 0, _, _ => rfl
  | k + 1, [], _ => rfl
  | k + 1, [_], _ => rfl
  | k + 1, [_, _], _ => rfl

theorem bytes_all {W : World} {v : Value} {bs : List Int} (h : law.BytesAt W v bs) : ∃ ao cap, v = .slice ao bs.length cap ∧ bs.length ≤ maxLen ∧
    ∀ j, j < bs.length → ∃ b off, ao = some ⟨b, off, none⟩ ∧ b < W.heap.size ∧ W.cell? ⟨b, off + j, none⟩ = some (.int .u8 (bs.getD j 0)) ∧ 0 ≤ bs.getD j 0 ∧ bs.getD j 0 ≤ 255 := by
  rcases h with ⟨rfl, rfl⟩ | ⟨a, cap, rfl, rfl⟩ | ⟨b, off, cap, rfl, hm, hc⟩
  · exact ⟨none, 0, rfl, Nat.zero_le _, fun j hj => by simp at hj⟩
  · exact ⟨some a, cap, rfl, Nat.zero_le _, fun j hj => by simp at hj⟩
  · refine ⟨_, cap, rfl, hm, fun j hj => ⟨b, off, rfl, ?_, hc j hj⟩⟩
    exact World.block_lt_of_cell? W _ (hc j hj).1

theorem _root_.Go.World.grownBy.block' {w wr w1 : World} {u : Value} {o : Obj} {k b p : Nat} {xs : List Value} (hg : (wr.alloc o).grownBy w1 u.ownBlock) (hB : Below w.heap.size w wr) (hrow : wr.ownsRow w.heap.size 44 3 u k xs) (hb : b < w.heap.size) :
    w1.cell? ⟨b, p, none⟩ = wr.cell? ⟨b, p, none⟩ := by
  have h1 : Below w.heap.size w ((wr.alloc o)) := hB.alloc hB.size _
  have h2 := h1.grown hg h1.size (fun j ej => (hrow.lt j ej).1)
  exact (h2.cell (p := ⟨b, p, none⟩) hb).trans (hB.cell (p := ⟨b, p, none⟩) hb).symm

theorem flat_snoc (es : List Ed) (e : Ed) : flat (es ++ [e]) = flat es ++ [.int .i64 e.f, .int .i64 e.t, .string e.x] := by simp [flat]

set_option maxRecDepth 100000 in
set_option maxHeartbeats 4000000 in
theorem edits_calls (v : Value) (bs : List Int) (n : Nat) (hn : n ≤ 1000) (w : World) (hv : law.BytesAt w v bs) :
    Calls Try.prog 13 #[v, .int .i64 (n : Int)] w fun e w' => ∃ u, e = .returned u ∧ EdsAt w'.heap.size w' u (edsF bs n) ∧ Below w.heap.size w w' := by
  obtain ⟨i0, hi, hz0, hz1, hz2⟩ := info_parts infoE
  obtain ⟨ao, cap, rfl, hm, hc⟩ := bytes_all hv
  unfold maxLen at hm
  generalize hN : bs.length = N at hm hc
  have HN := Lib.hid hN
  have HC := Lib.hid hc
  clear hN hc hv
  go_enter Try.func13, Try.ntmps13
  go_wp2_with fail
  go_loopw [5, 6, 7] (fun o a i wr => ∃ (k : Nat) (at' : Int) (es : List Ed), i = .int .i64 ((3 * k : Nat) : Int) ∧ a = .int .i64 at' ∧ k ≤ 10 ∧ 0 ≤ at' ∧ at' ≤ 1001 ∧ es.length = k ∧ es ++ edsL n (10 - k) (bs.drop (3 * k)) at' = edsF bs n ∧
    wr.ownsRow w.heap.size 44 3 o k (flat es) ∧ Below w.heap.size w wr) (fun _ _ i _ => 30 - (intOf i).toNat)
  case atStart => exact ⟨0, 0, [], rfl, rfl, Nat.zero_le _, by omega, by omega, rfl, rfl, World.ownsRow_nil _ _ _ _, Below.refl _ _⟩
  case round =>
    obtain ⟨k, at', es, rfl, rfl, hk, h0, h1, hel, hes, hrow, hB⟩ := hrel
    have hbs := hB.size
    have wi : wrap64 (((3 * k : Nat) : Int) + 2) = ((3 * k : Nat) : Int) + 2 := IntWalk.wrap64_in _ (by omega)
    by_cases hlen : 3 * k + 2 < N
    · have t1 : decide (((3 * k : Nat) : Int) + 2 < (N : Int)) = true := decide_eq_true (by omega)
      by_cases hk10 : k < 10
      · have t2 : decide (((3 * k : Nat) : Int) < 30) = true := decide_eq_true (by omega)
        obtain ⟨b, off, rfl, hb, c0, l0, u0⟩ := HC.out (3 * k) (by omega)
        obtain ⟨b', off', e1, _, c1, l1, u1⟩ := HC.out (3 * k + 1) (by omega)
        obtain ⟨b'', off'', e2, _, c2, l2, u2⟩ := HC.out (3 * k + 2) (by omega)
        cases e1
        cases e2
        rw [drop3 (by rw [HN.out]; exact hlen), show 10 - k = (9 - k) + 1 by omega] at hes
        simp only [edsL] at hes
        generalize bs.getD (3 * k) 0 = x0 at c0 l0 u0 hes
        generalize bs.getD (3 * k + 1) 0 = x1 at c1 l1 u1 hes
        generalize bs.getD (3 * k + 2) 0 = x2 at c2 l2 u2 hes
        have c0 := (hB.cell (p := ⟨b, off + 3 * k, none⟩) hb).trans c0
        have c1 := (hB.cell (p := ⟨b, off + (3 * k + 1), none⟩) hb).trans c1
        have c2 := (hB.cell (p := ⟨b, off + (3 * k + 2), none⟩) hb).trans c2
        obtain ⟨j, hj⟩ : ∃ j : Nat, 3 * k = j := ⟨_, rfl⟩
        rw [hj] at c0 c1 c2 t1 t2 hes ⊢
        have wj3 : wrap64 ((j : Int) + 3) = ((3 * (k + 1) : Nat) : Int) := by rw [IntWalk.wrap64_in _ (by omega)]; omega
        have g0 : (j : Int) < (N : Int) := by omega
        have g1 : (j : Int) + 1 < (N : Int) := by omega
        have g2 : (j : Int) + 2 < (N : Int) := by omega
        have HJ := Lib.hid hj
        have HE := Lib.hid hes; have HW3 := Lib.hid wj3
        clear hes hj wi wj3 hlen
        by_cases hbr : (n : Int) < at' + x0 % 4 + x1 % 4
        · have t3 : decide ((n : Int) < at' + x0 % 4 + x1 % 4) = true := decide_eq_true hbr
          go_wp2_with fail
          go_ret
          refine ⟨_, rfl, ?_, hB⟩
          have := HE.out
          rw [if_pos hbr, List.append_nil] at this
          rw [← this]
          exact EdsAt.row (by rw [hel]; exact hrow)
        · have t3 : decide ((n : Int) < at' + x0 % 4 + x1 % 4) = false := decide_eq_false hbr
          have hx5 : (x2 % 5).toNat ≤ 4 := by omega
          have hb2 : wr.heap.size < wr.heap.size + 1 := by omega
          have c2' : ∀ (X : Obj) (w1 : World), (wr.alloc X).grownBy w1 u5.ownBlock → w1.cell? ⟨b, off + (j + 2), none⟩ = some (.int .u8 x2) := fun X w1 hgr =>
            (hgr.block' hB hrow hb).trans c2
          have HC2 := Lib.hid c2'
          have HE2 := Lib.hid (show es ++ [⟨at' + x0 % 4, at' + x0 % 4 + x1 % 4, putX x2⟩] ++ edsL n (10 - (k + 1)) (bs.drop (3 * (k + 1))) (nextAt (at' + x0 % 4) (at' + x0 % 4 + x1 % 4) x2) = edsF bs n from by
            have := HE.out
            rw [if_neg hbr, show 9 - k = 10 - (k + 1) by omega, show j + 3 = 3 * (k + 1) by have := HJ.out; omega] at this
            rw [List.append_assoc]
            exact this)
          clear c2'
          by_cases h250 : 250 < x2
          · have t4 : decide (250 < x2) = true := decide_eq_true h250
            go_wp2_with (at_builtin; refine wpList_append_own _ rfl _ _ 22 rfl w.heap.size 44 i0 (.agg #[.int .i64 0, .int .i64 0, .string ⟨#[]⟩]) 3 32 Try.underlying22 hi hz0 hz1 hz2 rfl (by decide) _ _ _ rfl (hrow.alloc _) ⟨wr.heap.size, 0, none⟩ 1 1 [.int .i64 (at' + x0 % 4), .int .i64 (at' + x0 % 4 + x1 % 4), .string (xyzw.extract 0 (x2 % 5).toNat)] rfl rfl (cell_new3 _ _ _ _ _) (by simp [Value.oneCell']) (by unfold maxLen; omega) (by omega) (by simp; omega) ?_; intro v' w1 hown' hgrow _; have c3 := HC2.out _ _ hgrow)
            go_roundw
            case rel => exact ⟨k + 1, nextAt (at' + x0 % 4) (at' + x0 % 4 + x1 % 4) x2, _, by rw [← HW3.out, IntWalk.wrap64_in _ (by omega)], by unfold nextAt; rw [if_pos h250]; congr 1; omega, by omega, by unfold nextAt; rw [if_pos h250]; omega, by unfold nextAt; rw [if_pos h250]; omega, by rw [List.length_append, hel]; rfl, HE2.out, by rw [flat_snoc]; exact hown', (hB.alloc hB.size _).grown hgrow (by simp; omega) (fun j ej => (hrow.lt j ej).1)⟩
            case measure => have := HJ.out; simp [intOf]; omega
          · have t4 : decide (250 < x2) = false := decide_eq_false h250
            go_wp2_with (at_builtin; refine wpList_append_own _ rfl _ _ 22 rfl w.heap.size 44 i0 (.agg #[.int .i64 0, .int .i64 0, .string ⟨#[]⟩]) 3 32 Try.underlying22 hi hz0 hz1 hz2 rfl (by decide) _ _ _ rfl (hrow.alloc _) ⟨wr.heap.size, 0, none⟩ 1 1 [.int .i64 (at' + x0 % 4), .int .i64 (at' + x0 % 4 + x1 % 4), .string (xyzw.extract 0 (x2 % 5).toNat)] rfl rfl (cell_new3 _ _ _ _ _) (by simp [Value.oneCell']) (by unfold maxLen; omega) (by omega) (by simp; omega) ?_; intro v' w1 hown' hgrow _; have c3 := HC2.out _ _ hgrow)
            go_roundw
            case rel => exact ⟨k + 1, nextAt (at' + x0 % 4) (at' + x0 % 4 + x1 % 4) x2, _, by rw [← HW3.out, IntWalk.wrap64_in _ (by omega)], by unfold nextAt; rw [if_neg h250]; congr 1; omega, by omega, by unfold nextAt; rw [if_neg h250]; omega, by unfold nextAt; rw [if_neg h250]; omega, by rw [List.length_append, hel]; rfl, HE2.out, by rw [flat_snoc]; exact hown', (hB.alloc hB.size _).grown hgrow (by simp; omega) (fun j ej => (hrow.lt j ej).1)⟩
            case measure => have := HJ.out; simp [intOf]; omega
      · have t2 : decide (((3 * k : Nat) : Int) < 30) = false := decide_eq_false (by omega)
        obtain ⟨j, hj⟩ : ∃ j : Nat, 3 * k = j := ⟨_, rfl⟩
        rw [show 10 - k = 0 by omega] at hes
        simp only [edsL, List.append_nil] at hes
        rw [hj] at t1 t2 wi ⊢
        have HE := Lib.hid hes
        clear hes hj hlen
        go_wp2_with fail
        go_ret
        exact ⟨_, rfl, by rw [← HE.out]; exact EdsAt.row (by rw [hel]; exact hrow), hB⟩
    · have t1 : decide (((3 * k : Nat) : Int) + 2 < (N : Int)) = false := decide_eq_false (by omega)
      obtain ⟨j, hj⟩ : ∃ j : Nat, 3 * k = j := ⟨_, rfl⟩
      rw [edsL_few _ _ _ _ (by rw [List.length_drop, HN.out]; omega), List.append_nil] at hes
      rw [hj] at t1 wi ⊢
      have HE := Lib.hid hes
      clear hes hj hlen
      go_wp2_with fail
      go_ret
      exact ⟨_, rfl, by rw [← HE.out]; exact EdsAt.row (by rw [hel]; exact hrow), hB⟩
end Go.Proofs.Ytepniobmhplphaa.ed
