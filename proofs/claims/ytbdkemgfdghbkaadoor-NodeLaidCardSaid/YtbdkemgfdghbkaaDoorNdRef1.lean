/-
  node: the document's Same, Count, Deep; the law's left, Weight.
-/
import Derived.Test.YtbdkemgfdghbkaaDoorNdSame
import Derived.Test.YtbdkemgfdghbkaaDoorEdIn
import Derived.IntWalk
namespace Go.Proofs.YtbdkemgfdghbkaaDoor.nd
open Go.RowKit sx ed
set_option linter.unusedVariables false

def RSameOk (x : Nd) : Prop := ∀ (y : Nd) (w : World) (u v : Value), NdAt (Lt w.heap.size) w x u → NdAt (Lt w.heap.size) w y v →
  Calls Tryd.prog 25 #[u, v] w fun e w' => e = .returned (.bool (x.same y)) ∧ Below w.heap.size w w'

set_option maxRecDepth 100000 in
set_option maxHeartbeats 4000000 in
theorem rsame_ok (x : Nd) : RSameOk x := by
  refine Nd.induct (p := RSameOk) (fun x hp y w u v hu hv => ?_) x
  obtain ⟨s, rfl, hs⟩ := hu
  obtain ⟨s2, rfl, hs2⟩ := hv
  obtain ⟨ao, cap, rfl, hm⟩ := hs.slice
  obtain ⟨ao2, cap2, rfl, hm2⟩ := hs2.slice
  obtain ⟨k, t, f⟩ := x
  obtain ⟨k2, t2, g⟩ := y
  dsimp only at hs hs2 hm hm2 hp ⊢
  unfold maxLen at hm hm2
  have hq : Nd.same ⟨k, t, f⟩ ⟨k2, t2, g⟩ = (k == k2 && (t.toList == t2.toList) && f.same g) := rfl
  obtain ⟨W0, hW0⟩ : ∃ W0, ((w.alloc (.cells #[.int .i64 k, .string t, .slice ao f.len cap] 24)).alloc (.cells #[.int .i64 k2, .string t2, .slice ao2 g.len cap2] 24)) = W0 := ⟨_, rfl⟩
  have hb0 : Below w.heap.size w W0 := by rw [← hW0]; exact ((Below.refl _ w).alloc (Nat.le_refl _) _).alloc (by simp) _
  have hk1 : Blk W0 w.heap.size 24 #[.int .i64 k, .string t, .slice ao f.len cap] := by rw [← hW0]; exact (Blk.new w _ _).alloc _
  have hk2 : Blk W0 (w.heap.size + 1) 24 #[.int .i64 k2, .string t2, .slice ao2 g.len cap2] := by
    rw [← hW0]
    have := Blk.new (w.alloc (.cells #[.int .i64 k, .string t, .slice ao f.len cap] 24)) 24 #[.int .i64 k2, .string t2, .slice ao2 g.len cap2]
    simpa using this
  have hsz : W0.heap.size = w.heap.size + 2 := by rw [← hW0]; simp
  obtain ⟨b, hb⟩ : ∃ b, Nd.same ⟨k, t, f⟩ ⟨k2, t2, g⟩ = b := ⟨_, rfl⟩
  rw [hb] at hq ⊢
  have a0 := hk1.cell 0; have a1 := hk1.cell 1; have a2 := hk1.cell 2
  have b0 := hk2.cell 0; have b1 := hk2.cell 1; have b2 := hk2.cell 2
  by_cases h1 : k = k2
  · subst h1
    by_cases h2 : t = t2
    · subst h2
      by_cases hl : f.len = g.len
      · obtain ⟨m, hmm⟩ : ∃ m, g.len = m := ⟨_, rfl⟩
        have hmx := hl.trans hmm
        have hqq : b = f.same g := by rw [hq]; simp
        rw [hmm] at hm2 hs2 hW0 hk2 b2 ⊢
        rw [hmx] at hm hs hW0 hk1 a2 ⊢
        have HF := Lib.hid (hs.below hb0 (Nat.le_refl _)); have HG := Lib.hid (hs2.below hb0 (Nat.le_refl _)); have HL := Lib.hid hmx; have HL2 := Lib.hid hmm; have HB := Lib.hid hqq; have HP := Lib.hid hp; have HB0 := Lib.hid hb0
        have HSZ := Lib.hid hsz; have HK1 := Lib.hid hk1; have HK2 := Lib.hid hk2
        have HW0 := Lib.hid hW0
        clear hs hs2 hq hb hl hmm hmx hqq hp hb0 hk1 hk2 a0 a1 a2 b0 b1 b2 hsz hW0
        go_enter Tryd.func25, Tryd.ntmps25
        go_wp2_with fail
        rw [HW0.out]
        go_loopw [5] (fun i wr => ∃ k : Nat, k ≤ m ∧ i = .int .i64 (k : Int) ∧ (∀ j x y, j < k → f.get? j = some x → g.get? j = some y → x.same y = true) ∧ Below W0.heap.size W0 wr) (fun i _ => m - (intOf i).toNat)
        case atStart => exact ⟨0, Nat.zero_le _, rfl, fun j x y h => absurd h (Nat.not_lt_zero _), Below.refl _ _⟩
        case round =>
          obtain ⟨j, hj, rfl, heq, hbw⟩ := hrel
          have a2 := (HK1.out.own hbw).cell 2
          have b2 := (HK2.out.own hbw).cell 2
          have HEQ := Lib.hid heq
          clear heq
          by_cases hlt : j < m
          · obtain ⟨x, hx⟩ := Fo.get_of_lt (f := f) (i := j) (by rw [HL.out]; exact hlt)
            obtain ⟨y, hy⟩ := Fo.get_of_lt (f := g) (i := j) (by rw [HL2.out]; exact hlt)
            have hFw := HF.out.toLt.below hbw (Nat.le_refl _)
            have hGw := HG.out.toLt.below hbw (Nat.le_refl _)
            obtain ⟨g1, o1, ao1, cap1, rfl, _, hg1, d0, d1, d2, d3⟩ := hFw.get hx
            obtain ⟨g2, o2, ao2, cap2, rfl, _, hg2, e0, e1, e2, e3⟩ := hGw.get hy
            have hlt1 : (j : Int) < (m : Int) := by omega
            have hcall : ∀ W, Below wr.heap.size wr W → Calls Tryd.prog 25 #[.agg #[.int .i64 x.k, .string x.t, .slice ao1 x.kids.len cap1], .agg #[.int .i64 y.k, .string y.t, .slice ao2 y.kids.len cap2]] W fun e w' => e = .returned (.bool (x.same y)) ∧ Below W.heap.size W w' := fun W hW =>
              HP.out.get hx y W _ _ ((NdAt.mk (d3.toLt.below hW (Nat.le_refl _))).mono hW.size) ((NdAt.mk (e3.toLt.below hW (Nat.le_refl _))).mono hW.size)
            obtain ⟨c, hc⟩ : ∃ c, x.same y = c := ⟨_, rfl⟩
            rw [hc] at hcall
            have HC := Lib.hid hcall; have HS := Lib.hid hc; have HX := Lib.hid hx; have HY := Lib.hid hy
            have HW := Lib.hid hbw
            have i0 := fun y : In wr => In.cell d0 y
            have i1 := fun y : In wr => In.cell d1 y
            have i2 := fun y : In wr => In.cell d2 y
            have i3 := fun y : In wr => In.cell e0 y
            have i4 := fun y : In wr => In.cell e1 y
            have i5 := fun y : In wr => In.cell e2 y
            have i6 := fun y : In wr => In.cell a2 y
            have i7 := fun y : In wr => In.cell b2 y
            clear hcall hc hx hy d3 e3 hbw hFw hGw d0 d1 d2 e0 e1 e2
            cases c with
            | true =>
              go_wp2_with fail
              refine ed.wp_region_in (by kernel_rfl) (by kernel_rfl) ?_
              repeat (go_big_quiet_step (first | (go_at_call 25; refine ed.Calls.in_of (HC.out _ (In.h _)))))
              with_reducible refine wpQuiet_nil ?_
              rintro _ ⟨yy, rfl⟩
              go_wp2_with fail
              exact ⟨⟨j + 1, by omega, rfl, fun i x' y' hi h1 h2 => by
                by_cases hjk : i < j
                · exact HEQ.out i x' y' hjk h1 h2
                · obtain rfl : i = j := by omega
                  rw [HX.out] at h1; rw [HY.out] at h2
                  cases h1; cases h2; exact HS.out, HW.out.trans (yy.h.mono HW.out.size)⟩, by simp [intOf]; omega⟩
            | false =>
              obtain rfl : b = false := by rw [HB.out]; exact not_same HX.out HY.out HS.out
              go_wp2_with fail
              refine ed.wp_region_in (by kernel_rfl) (by kernel_rfl) ?_
              repeat (go_big_quiet_step (first | (go_at_call 25; refine ed.Calls.in_of (HC.out _ (In.h _)))))
              with_reducible refine wpQuiet_nil ?_
              rintro _ ⟨yy, rfl⟩
              go_wp2_with fail
              go_ret
              exact ⟨rfl, HB0.out.trans ((HW.out.trans (yy.h.mono HW.out.size)).mono HB0.out.size)⟩
          · obtain rfl : j = m := by omega
            have hge : decide ((j : Int) < (j : Int)) = false := by simp
            obtain rfl : b = true := by
              rw [HB.out]
              exact same_of (by rw [HL.out, HL2.out]) fun i x y h1 h2 => HEQ.out i x y (by have := Fo.get_lt h1; rw [HL.out] at this; exact this) h1 h2
            go_wp2_with fail
            go_ret
            exact ⟨rfl, HB0.out.trans (hbw.mono HB0.out.size)⟩
      · have hl1 : ((f.len : Int) == (g.len : Int)) = false := beq_eq_false_iff_ne.2 (by omega)
        have hl2 : ((f.len : Int) != (g.len : Int)) = true := by rw [bne, hl1]; rfl
        obtain rfl : b = false := by rw [hq, not_same_len hl]; simp
        have HB := Lib.hid hb0
        rw [← hW0] at HB
        clear hq hb hs hs2 hp hb0 hk1 hk2 a0 a1 a2 b0 b1 b2 hW0 hsz
        go_enter Tryd.func25, Tryd.ntmps25
        go_wp2_with fail
        go_ret
        exact ⟨rfl, HB.out⟩
    · have hf : (t.toList == t2.toList) = false := beq_eq_false_iff_ne.2 (fun e => h2 (bytes_inj e))
      have hf2 : (t.toList != t2.toList) = true := by rw [bne, hf]; rfl
      obtain rfl : b = false := by rw [hq, hf]; simp
      have HB := Lib.hid hb0
      rw [← hW0] at HB
      clear hq hb hs hs2 hp hb0 hk1 hk2 a0 a1 a2 b0 b1 b2 hW0 h2 hsz
      go_enter Tryd.func25, Tryd.ntmps25
      go_wp2_with fail
      go_ret
      exact ⟨rfl, HB.out⟩
  · have hf : (k == k2) = false := beq_eq_false_iff_ne.2 h1
    have hf2 : (k != k2) = true := by rw [bne, hf]; rfl
    obtain rfl : b = false := by rw [hq, hf]; simp
    have HB := Lib.hid hb0
    rw [← hW0] at HB
    clear hq hb hs hs2 hp hb0 hk1 hk2 a0 a1 a2 b0 b1 b2 hW0 h1 hsz
    go_enter Tryd.func25, Tryd.ntmps25
    go_wp2_with fail
    go_ret
    exact ⟨rfl, HB.out⟩
end Go.Proofs.YtbdkemgfdghbkaaDoor.nd
