/-
  node: Same, by the library's EqualFunc.
-/
import Derived.Test.YtbdkemgfdghbkaaDoorNdMem
import Derived.Test.YtbdkemgfdghbkaaDoorLaw
import Derived.Lib.Hide
import Derived.Laws.StructEq
namespace Go.Proofs.YtbdkemgfdghbkaaDoor.nd
open Go.RowKit sx
set_option linter.unusedVariables false

def SameOk (x : Nd) : Prop := ∀ (y : Nd) (w : World) (u v : Value), NdAt (Lt w.heap.size) w x u → NdAt (Lt w.heap.size) w y v →
  Calls Tryd.prog 19 #[u, v] w fun e w' => e = .returned (.bool (x.same y)) ∧ Below w.heap.size w w'

theorem same_get {f g : Fo} (h : f.same g = true) (i : Nat) : f.get? i = g.get? i := by rw [Fo.same_iff.1 h]
theorem not_same {f g : Fo} {i : Nat} {x y : Nd} (hx : f.get? i = some x) (hy : g.get? i = some y) (h : x.same y = false) : f.same g = false := by
  cases hs : f.same g with
  | false => rfl
  | true =>
    rw [Fo.same_iff.1 hs, hy] at hx
    cases hx
    rw [Nd.same_self] at h
    cases h
theorem not_same_len {f g : Fo} (h : f.len ≠ g.len) : f.same g = false := by
  cases hs : f.same g with
  | false => rfl
  | true => exact absurd (by rw [Fo.same_iff.1 hs]) h
theorem same_of {f g : Fo} (hl : f.len = g.len) (h : ∀ i x y, f.get? i = some x → g.get? i = some y → x.same y = true) : f.same g = true := by
  refine Fo.same_iff.2 (Fo.ext hl fun i hi => ?_)
  obtain ⟨x, hx⟩ := Fo.get_of_lt hi
  obtain ⟨y, hy⟩ := Fo.get_of_lt (f := g) (i := i) (by omega)
  rw [hx, hy, Nd.same_iff.1 (h i x y hx hy)]

set_option maxRecDepth 100000 in
set_option maxHeartbeats 4000000 in
theorem equalF_calls (f g : Fo) (hp : f.All SameOk) (w : World) (u v : Value) (hf : KidsAt (Lt w.heap.size) w f u) (hg : KidsAt (Lt w.heap.size) w g v) :
    Calls Tryd.prog 36 #[u, v, .func (.func 19) #[] #[]] w fun e w' => e = .returned (.bool (f.same g)) ∧ Below w.heap.size w w' := by
  obtain ⟨ao, cap, rfl, hm⟩ := hf.slice
  obtain ⟨bo, cap2, rfl, hm2⟩ := hg.slice
  unfold maxLen at hm hm2
  obtain ⟨b, hb⟩ : ∃ b, f.same g = b := ⟨_, rfl⟩
  rw [hb]
  by_cases hl : f.len = g.len
  · obtain ⟨m, hmm⟩ : ∃ m, g.len = m := ⟨_, rfl⟩
    have hmx := hl.trans hmm
    rw [hmm] at hm2 hg ⊢
    rw [hmx] at hm hf ⊢
    have HF := Lib.hid hf; have HG := Lib.hid hg; have HL := Lib.hid hmx; have HL2 := Lib.hid hmm; have HB := Lib.hid hb; have HP := Lib.hid hp
    clear hf hg hl hmm hmx hb hp
    go_enter Tryd.func36, Tryd.ntmps36
    go_wp2_with fail
    go_loopw [17] (fun i wr => ∃ k : Nat, k ≤ m ∧ i = .int .i64 (k : Int) ∧ (∀ j x y, j < k → f.get? j = some x → g.get? j = some y → x.same y = true) ∧ Below w.heap.size w wr) (fun i _ => m - (intOf i).toNat)
    case atStart => exact ⟨0, Nat.zero_le _, rfl, fun j x y h => absurd h (Nat.not_lt_zero _), Below.refl _ _⟩
    case round =>
      obtain ⟨k, hk, rfl, heq, hbw⟩ := hrel
      have HEQ := Lib.hid heq
      clear heq
      by_cases hlt : k < m
      · obtain ⟨x, hx⟩ := Fo.get_of_lt (f := f) (i := k) (by rw [HL.out]; exact hlt)
        obtain ⟨y, hy⟩ := Fo.get_of_lt (f := g) (i := k) (by rw [HL2.out]; exact hlt)
        obtain ⟨g1, o1, ao1, cap1, rfl, _, hg1, a0, a1, a2, a3⟩ := HF.out.get hx
        obtain ⟨g2, o2, ao2, cap2, rfl, _, hg2, b0, b1, b2, b3⟩ := HG.out.get hy
        have d0 := (hbw.cell (p := ⟨g1, _, none⟩) hg1).trans a0
        have d1 := (hbw.cell (p := ⟨g1, _, none⟩) hg1).trans a1
        have d2 := (hbw.cell (p := ⟨g1, _, none⟩) hg1).trans a2
        have e0 := (hbw.cell (p := ⟨g2, _, none⟩) hg2).trans b0
        have e1 := (hbw.cell (p := ⟨g2, _, none⟩) hg2).trans b1
        have e2 := (hbw.cell (p := ⟨g2, _, none⟩) hg2).trans b2
        have hlt1 : (k : Int) < (m : Int) := by omega
        have hw1 : g1 < wr.heap.size := Nat.lt_of_lt_of_le hg1 hbw.size
        have hw2 : g2 < wr.heap.size := Nat.lt_of_lt_of_le hg2 hbw.size
        have hcall : ∀ W, Below w.heap.size w W → Calls Tryd.prog 19 #[.agg #[.int .i64 x.k, .string x.t, .slice ao1 x.kids.len cap1], .agg #[.int .i64 y.k, .string y.t, .slice ao2 y.kids.len cap2]] W fun e w' => e = .returned (.bool (x.same y)) ∧ Below W.heap.size W w' := fun W hW =>
          HP.out.get hx y W _ _ ((NdAt.mk (a3.below hW (Nat.le_refl _))).mono hW.size) ((NdAt.mk (b3.below hW (Nat.le_refl _))).mono hW.size)
        obtain ⟨c, hc⟩ : ∃ c, x.same y = c := ⟨_, rfl⟩
        rw [hc] at hcall
        have HC := Lib.hid hcall; have HS := Lib.hid hc; have HX := Lib.hid hx; have HY := Lib.hid hy
        have HW := Lib.hid hbw
        clear hcall hc hx hy a0 a1 a2 a3 b0 b1 b2 b3 hbw
        have hbo : ∀ (o o' : Obj), Below w.heap.size w ((wr.alloc o).alloc o') := fun o o' => (HW.out.alloc HW.out.size _).alloc (by have := HW.out.size; simp; omega) _
        have HBO := Lib.hid hbo
        clear hbo
        cases c with
        | true =>
          go_wp2_with fail
          ((with_reducible refine (HC.out _ (HBO.out _ _)).mono ?_); rintro e w1 ⟨rfl, hb1⟩)
          have hb2 := (HBO.out _ _).trans (hb1.mono (HBO.out _ _).size)
          have HB2 := Lib.hid hb2
          clear hb1 hb2
          go_wp2_with fail
          exact ⟨⟨k + 1, by omega, rfl, fun j x' y' hj h1 h2 => by
            by_cases hjk : j < k
            · exact HEQ.out j x' y' hjk h1 h2
            · obtain rfl : j = k := by omega
              rw [HX.out] at h1; rw [HY.out] at h2
              cases h1; cases h2; exact HS.out, HB2.out⟩, by simp [intOf]; omega⟩
        | false =>
          obtain rfl : b = false := by rw [← HB.out]; exact not_same HX.out HY.out HS.out
          go_wp2_with fail
          ((with_reducible refine (HC.out _ (HBO.out _ _)).mono ?_); rintro e w1 ⟨rfl, hb1⟩)
          have hb2 := (HBO.out _ _).trans (hb1.mono (HBO.out _ _).size)
          have HB2 := Lib.hid hb2
          clear hb1 hb2
          go_wp2_with fail
          go_ret
          exact ⟨rfl, HB2.out⟩
      · obtain rfl : k = m := by omega
        have hge : decide ((k : Int) < (k : Int)) = false := by simp
        obtain rfl : b = true := by
          rw [← HB.out]
          exact same_of (by rw [HL.out, HL2.out]) fun i x y h1 h2 => HEQ.out i x y (by have := Fo.get_lt h1; rw [HL.out] at this; exact this) h1 h2
        go_wp2_with fail
        go_ret
        exact ⟨rfl, hbw⟩
  · have hl1 : ((f.len : Int) == (g.len : Int)) = false := beq_eq_false_iff_ne.2 (by omega)
    have hl2 : ((f.len : Int) != (g.len : Int)) = true := by rw [bne, hl1]; rfl
    obtain rfl : b = false := by rw [← hb]; exact not_same_len hl
    clear hb hf hg
    go_enter Tryd.func36, Tryd.ntmps36
    go_wp2_with fail
    go_ret
    exact ⟨rfl, Below.refl _ _⟩

set_option maxRecDepth 100000 in
set_option maxHeartbeats 4000000 in
theorem same_ok (x : Nd) : SameOk x := by
  refine Nd.induct (p := SameOk) (fun x hp y w u v hu hv => ?_) x
  obtain ⟨s, rfl, hs⟩ := hu
  obtain ⟨s2, rfl, hs2⟩ := hv
  obtain ⟨ao, cap, rfl, _⟩ := hs.slice
  obtain ⟨ao2, cap2, rfl, _⟩ := hs2.slice
  obtain ⟨k, t, f⟩ := x
  obtain ⟨k2, t2, g⟩ := y
  have hq : Nd.same ⟨k, t, f⟩ ⟨k2, t2, g⟩ = (k == k2 && (t.toList == t2.toList) && f.same g) := rfl
  have hcall := fun W (hW : Below w.heap.size w W) => equalF_calls f g hp W _ _ ((hs.below hW (Nat.le_refl _)).mono hW.size) ((hs2.below hW (Nat.le_refl _)).mono hW.size)
  have hb0 : Below w.heap.size w ((w.alloc (.cells #[.int .i64 k, .string t, .slice ao f.len cap] 24)).alloc (.cells #[.int .i64 k2, .string t2, .slice ao2 g.len cap2] 24)) := ((Below.refl _ w).alloc (Nat.le_refl _) _).alloc (by simp) _
  obtain ⟨c, hc⟩ : ∃ c, f.same g = c := ⟨_, rfl⟩
  rw [hc] at hcall hq
  obtain ⟨b, hb⟩ : ∃ b, Nd.same ⟨k, t, f⟩ ⟨k2, t2, g⟩ = b := ⟨_, rfl⟩
  rw [hb] at hq ⊢
  have HQ := Lib.hid hq; have HC := Lib.hid hcall; have HB := Lib.hid hb0
  clear hq hcall hb0 hb hc hs hs2 hp
  by_cases h1 : k = k2
  · subst h1
    by_cases h2 : t = t2
    · subst h2
      obtain rfl : b = c := by rw [HQ.out]; simp
      go_enter Tryd.func19, Tryd.ntmps19
      go_wp2_with fail
      ((with_reducible refine (HC.out _ HB.out).mono ?_); rintro e w1 ⟨rfl, hb1⟩)
      have hb2 := HB.out.trans (hb1.mono HB.out.size)
      have HB2 := Lib.hid hb2
      clear hb1 hb2
      go_wp2_with fail
      go_ret
      exact ⟨rfl, HB2.out⟩
    · have hf : (t.toList == t2.toList) = false := beq_eq_false_iff_ne.2 (fun e => h2 (bytes_inj e))
      obtain rfl : b = false := by rw [HQ.out, hf]; simp
      clear h2
      go_enter Tryd.func19, Tryd.ntmps19
      go_wp2_with fail
      go_ret
      exact ⟨rfl, HB.out⟩
  · have hf : (k == k2) = false := beq_eq_false_iff_ne.2 h1
    obtain rfl : b = false := by rw [HQ.out, hf]; simp
    clear h1
    go_enter Tryd.func19, Tryd.ntmps19
    go_wp2_with fail
    go_ret
    exact ⟨rfl, HB.out⟩
end Go.Proofs.YtbdkemgfdghbkaaDoor.nd
