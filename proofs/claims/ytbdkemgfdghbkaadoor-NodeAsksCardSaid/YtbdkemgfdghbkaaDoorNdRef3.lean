/-
  node: the law's left and Weight.
-/
import Derived.Test.YtbdkemgfdghbkaaDoorNdRef2
namespace Go.Proofs.YtbdkemgfdghbkaaDoor.nd
open Go.RowKit sx ed
set_option linter.unusedVariables false

def LeftOk (x : Nd) : Prop := x.Tx 140737488355328 → ∀ (m : Int) (w : World) (v : Value), 0 ≤ m → m ≤ 1000 → NdAt (Lt w.heap.size) w x v →
  Calls Tryd.prog 26 #[v, .int .i64 m] w fun e w' => e = .returned (.int .i64 (x.left m)) ∧ Below w.heap.size w w'

set_option maxRecDepth 100000 in
set_option maxHeartbeats 4000000 in
theorem left_ok (x : Nd) : LeftOk x := by
  refine Nd.induct (p := LeftOk) (fun x hp htx m w v hm0 hm1 hu => ?_) x
  obtain ⟨s, rfl, hs⟩ := hu
  obtain ⟨ao, cap, rfl, hm⟩ := hs.slice
  obtain ⟨k, t, f⟩ := x
  dsimp only at hs hm hp ⊢
  unfold maxLen at hm
  obtain ⟨ht, htf⟩ := htx
  dsimp only at ht htf
  obtain ⟨W0, hW0⟩ : ∃ W0, w.alloc (.cells #[.int .i64 k, .string t, .slice ao f.len cap] 24) = W0 := ⟨_, rfl⟩
  have hb0 : Below w.heap.size w W0 := by rw [← hW0]; exact (Below.refl _ w).alloc (Nat.le_refl _) _
  have hk1 : Blk W0 w.heap.size 24 #[.int .i64 k, .string t, .slice ao f.len cap] := by rw [← hW0]; exact Blk.new w _ _
  obtain ⟨n, hmm⟩ : ∃ n, f.len = n := ⟨_, rfl⟩
  rw [hmm] at hm hs hW0 hk1 ⊢
  obtain ⟨m0, hm0'⟩ : ∃ m0 : Int, m - (1 + (t.size : Int)) = m0 := ⟨_, rfl⟩
  have hv : Nd.left ⟨k, t, f⟩ m = f.left m0 := by rw [← hm0']; rfl
  rw [hv]
  have hge0 : -(1 + (140737488355328 : Int)) ≤ m0 := by omega
  have hle0 : m0 ≤ 1000 := by omega
  have hw1 : wrap64 (1 + (t.size : Int)) = 1 + (t.size : Int) := IntWalk.wrap64_in _ (by omega)
  have hw2 : wrap64 (m - (1 + (t.size : Int))) = m0 := by rw [IntWalk.wrap64_in _ (by omega)]; exact hm0'
  have HF := Lib.hid (hs.below hb0 (Nat.le_refl _)); have HL := Lib.hid hmm; have HP := Lib.hid hp; have HB0 := Lib.hid hb0
  have HK1 := Lib.hid hk1; have HW0 := Lib.hid hW0; have HT := Lib.hid htf; have HM := Lib.hid hm0'
  clear hs hmm hp hb0 hk1 hW0 htf hv hm0'
  go_enter Tryd.func26, Tryd.ntmps26
  go_wp2_with fail
  rw [HW0.out]
  clear hw1 hw2
  go_loopw [1, 5] (fun a i wr => ∃ (j : Nat) (c : Int), j ≤ n ∧ i = .int .i64 (j : Int) ∧ a = .int .i64 c ∧ c = (f.take j).left m0 ∧ (c < 0 → f.left m0 = c) ∧ -(1 + (140737488355328 : Int)) ≤ c ∧ c ≤ 1000 ∧ Below W0.heap.size W0 wr) (fun _ i _ => n - (intOf i).toNat)
  case atStart => 
    have e0 : m0 = (f.take 0).left m0 := by cases f <;> rfl
    exact ⟨0, m0, Nat.zero_le _, rfl, by first | rfl | rw [← HM.out], e0, fun h => by rw [Fo.left_neg f h], hge0, hle0, Below.refl _ _⟩
  case round =>
    obtain ⟨j, c, hj, rfl, rfl, hc, hneg, hcl, hch, hbw⟩ := hrel
    have a2 := (HK1.out.own hbw).cell 2
    by_cases hlt : j < n
    · have hlt1 : (j : Int) < (n : Int) := by omega
      by_cases hc0 : 0 ≤ c
      · obtain ⟨x, hx⟩ := Fo.get_of_lt (f := f) (i := j) (by rw [HL.out]; exact hlt)
        have hFw := HF.out.toLt.below hbw (Nat.le_refl _)
        obtain ⟨g1, o1, ao1, cap1, rfl, _, hg1, d0, d1, d2, d3⟩ := hFw.get hx
        have hxt := HT.out.get hx
        have hcc := Fo.left_snoc hx (m := m0) (by rw [← hc]; exact hc0)
        rw [← hc] at hcc
        have hcall : Calls Tryd.prog 26 #[.agg #[.int .i64 x.k, .string x.t, .slice ao1 x.kids.len cap1], .int .i64 c] wr fun e w' => e = .returned (.int .i64 (x.left c)) ∧ Below wr.heap.size wr w' :=
          HP.out.get hx hxt c wr _ hc0 hch (NdAt.mk d3.toLt)
        have hl1 := Nd.left_le x c
        have hl2 := Nd.left_ge hxt hc0
        obtain ⟨d, hd⟩ : ∃ d, x.left c = d := ⟨_, rfl⟩
        rw [hd] at hcall hcc hl1 hl2
        have hdh : d ≤ 1000 := by omega
        have hst : d < 0 → f.left m0 = d := fun h => by rw [← hcc] at h ⊢; exact Fo.left_stop h
        have HC := Lib.hid hcall; have HR := Lib.hid hcc; have HS := Lib.hid hst; have HD2 := Lib.hid hl2; have HDH := Lib.hid hdh
        have HW := Lib.hid hbw
        clear hcall hx d3 hbw hFw hc hcc hd hneg hst hxt hl1 hl2
        go_wp2_with fail
        ((with_reducible refine HC.out.mono ?_); rintro e w1 ⟨rfl, hb1⟩)
        have hb2 := HW.out.trans (hb1.mono HW.out.size)
        have HB2 := Lib.hid hb2
        clear hb1 hb2
        go_wp2_with fail
        exact ⟨⟨j + 1, d, by omega, by go_num, rfl, HR.out.symm, HS.out, HD2.out, HDH.out, HB2.out⟩, by simp [intOf]; omega⟩
      · have hcn : decide (0 ≤ c) = false := decide_eq_false hc0
        have hcn2 : c < 0 := by omega
        have e := hneg hcn2
        have HE := Lib.hid e
        clear hneg e hc
        go_wp2_with fail
        go_ret
        exact ⟨ret_int HE.out.symm, HB0.out.trans (hbw.mono HB0.out.size)⟩
    · obtain rfl : j = n := by omega
      have hge : decide ((j : Int) < (j : Int)) = false := by simp
      rw [Fo.take_all (by rw [HL.out]; exact Nat.le_refl _)] at hc
      have HC := Lib.hid hc
      clear hc hneg
      go_wp2_with fail
      go_ret
      exact ⟨ret_int HC.out, HB0.out.trans (hbw.mono HB0.out.size)⟩

/-- How much there is, up to a thousand, and one. -/
def Nd.heavy (x : Nd) : Int := 1000 - max (x.left 1000) (-1)
theorem Nd.weight_of {x y : Nd} (h : x.heavy + y.heavy ≤ 300) : x.weight + y.weight ≤ 300 := by
  unfold Nd.heavy at h
  have h1 := Nd.left_le x 1000
  have h2 := Nd.left_le y 1000
  have h3 : 0 ≤ x.left 1000 := by omega
  have h4 : 0 ≤ y.left 1000 := by omega
  rw [Nd.left_of h3, Nd.left_of h4] at h
  omega
theorem Nd.heavy_range (x : Nd) : 0 ≤ x.heavy ∧ x.heavy ≤ 1001 := by
  have := Nd.left_le x 1000
  unfold Nd.heavy
  omega

set_option maxRecDepth 100000 in
set_option maxHeartbeats 4000000 in
theorem weight_calls (x : Nd) (htx : x.Tx 140737488355328) (w : World) (v : Value) (hu : NdAt (Lt w.heap.size) w x v) :
    Calls Tryd.prog 9 #[v] w fun e w' => e = .returned (.int .i64 x.heavy) ∧ Below w.heap.size w w' := by
  obtain ⟨s, rfl, hs⟩ := hu
  obtain ⟨ao, cap, rfl, hm⟩ := hs.slice
  have hb0 : Below w.heap.size w (w.alloc (.cells #[.int .i64 x.k, .string x.t, .slice ao x.kids.len cap] 24)) := (Below.refl _ w).alloc (Nat.le_refl _) _
  have hcall := left_ok x htx 1000 (w.alloc (.cells #[.int .i64 x.k, .string x.t, .slice ao x.kids.len cap] 24)) _ (by omega) (by omega) ((NdAt.mk (hs.below hb0 (Nat.le_refl _))).mono hb0.size)
  have h1 := Nd.left_le x 1000
  have h2 := Nd.left_ge htx (m := 1000) (by omega)
  obtain ⟨k, t, f⟩ := x
  dsimp only at hcall hs hm hb0 ⊢
  unfold Nd.heavy
  obtain ⟨d, hd⟩ : ∃ d, Nd.left ⟨k, t, f⟩ 1000 = d := ⟨_, rfl⟩
  rw [hd] at hcall h1 h2 ⊢
  have HC := Lib.hid hcall; have HB0 := Lib.hid hb0
  clear hcall hb0 hd hs htx
  by_cases hd1 : -1 ≤ d
  · have hmx : max d (-1) = d := by omega
    rw [hmx]
    clear hmx
    go_enter Tryd.func9, Tryd.ntmps9
    go_wp2_with fail
    ((with_reducible refine HC.out.mono ?_); rintro e w1 ⟨rfl, hb1⟩)
    have hb2 := HB0.out.trans (hb1.mono HB0.out.size)
    have HB2 := Lib.hid hb2
    clear hb1 hb2
    go_wp2_with fail
    go_ret
    exact ⟨rfl, HB2.out⟩
  · have hmx : max d (-1) = -1 := by omega
    rw [hmx]
    have hd2 : d ≤ -1 := by omega
    clear hmx
    go_enter Tryd.func9, Tryd.ntmps9
    go_wp2_with fail
    ((with_reducible refine HC.out.mono ?_); rintro e w1 ⟨rfl, hb1⟩)
    have hb2 := HB0.out.trans (hb1.mono HB0.out.size)
    have HB2 := Lib.hid hb2
    clear hb1 hb2
    go_wp2_with fail
    go_ret
    exact ⟨rfl, HB2.out⟩
end Go.Proofs.YtbdkemgfdghbkaaDoor.nd
