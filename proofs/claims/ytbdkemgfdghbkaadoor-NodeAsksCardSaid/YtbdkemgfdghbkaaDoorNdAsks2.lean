/-
  node: the law's same, at.
-/
import Derived.Test.YtbdkemgfdghbkaaDoorNdClone
import Derived.Test.YtbdkemgfdghbkaaDoorNdRWith
import Derived.Test.YtbdkemgfdghbkaaDoorNdRef1
import Derived.Test.YtbdkemgfdghbkaaDoorEdIn
namespace Go.Proofs.YtbdkemgfdghbkaaDoor.nd
open Go.RowKit Go.Shelf sx ed
set_option linter.unusedVariables false

set_option maxRecDepth 100000 in
set_option maxHeartbeats 4000000 in
theorem lsame_calls (x y : Nd) (w : World) (u v : Value) (hu : NdAt (Lt w.heap.size) w x u) (hv : NdAt (Lt w.heap.size) w y v) :
    Calls Tryd.prog 14 #[u, v] w fun e w' => e = .returned (.bool true) ∧ Below w.heap.size w w' := by
  obtain ⟨s, rfl, hs⟩ := hu
  obtain ⟨s2, rfl, hs2⟩ := hv
  obtain ⟨ao, cap, rfl, hm⟩ := hs.slice
  obtain ⟨ao2, cap2, rfl, hm2⟩ := hs2.slice
  obtain ⟨W0, hW0⟩ : ∃ W0, ((w.alloc (.cells #[.int .i64 x.k, .string x.t, .slice ao x.kids.len cap] 24)).alloc (.cells #[.int .i64 y.k, .string y.t, .slice ao2 y.kids.len cap2] 24)) = W0 := ⟨_, rfl⟩
  have hb0 : Below w.heap.size w W0 := by rw [← hW0]; exact ((Below.refl _ w).alloc (Nat.le_refl _) _).alloc (by simp) _
  have hk1 : Blk W0 w.heap.size 24 #[.int .i64 x.k, .string x.t, .slice ao x.kids.len cap] := by rw [← hW0]; exact (Blk.new w _ _).alloc _
  have hk2 : Blk W0 (w.heap.size + 1) 24 #[.int .i64 y.k, .string y.t, .slice ao2 y.kids.len cap2] := by
    rw [← hW0]
    have := Blk.new (w.alloc (.cells #[.int .i64 x.k, .string x.t, .slice ao x.kids.len cap] 24)) 24 #[.int .i64 y.k, .string y.t, .slice ao2 y.kids.len cap2]
    simpa using this
  have hA : ∀ W, Below W0.heap.size W0 W → NdAt (Lt W.heap.size) W x (.agg #[.int .i64 x.k, .string x.t, .slice ao x.kids.len cap]) ∧ NdAt (Lt W.heap.size) W y (.agg #[.int .i64 y.k, .string y.t, .slice ao2 y.kids.len cap2]) := fun W hW => by
    have hb := hb0.trans (hW.mono hb0.size)
    exact ⟨⟨_, rfl, (hs.below hb (Nat.le_refl _)).mono hb.size⟩, ⟨_, rfl, (hs2.below hb (Nat.le_refl _)).mono hb.size⟩⟩
  obtain ⟨c, hc⟩ : ∃ c, x.same y = c := ⟨_, rfl⟩
  have h1 := fun W hW => (same_ok x y W _ _ (hA W hW).1 (hA W hW).2)
  have h2 := fun W hW => (rsame_ok x y W _ _ (hA W hW).1 (hA W hW).2)
  rw [hc] at h1 h2
  have i0 := fun y : In W0 => In.cell (hk1.cell 0) y
  have i1 := fun y : In W0 => In.cell (hk1.cell 1) y
  have i2 := fun y : In W0 => In.cell (hk1.cell 2) y
  have i3 := fun y : In W0 => In.cell (hk2.cell 0) y
  have i4 := fun y : In W0 => In.cell (hk2.cell 1) y
  have i5 := fun y : In W0 => In.cell (hk2.cell 2) y
  have H1 := Lib.hid h1; have H2 := Lib.hid h2; have HW0 := Lib.hid hW0; have HB0 := Lib.hid hb0
  clear h1 h2 hW0 hb0 hA hk1 hk2 hs hs2 hm hm2 hc
  have hcc : (c == c) = true := by cases c <;> rfl
  go_enter Tryd.func14, Tryd.ntmps14
  go_upto_region 1 with fail
  rw [HW0.out]
  refine ed.wp_region_in (by kernel_rfl) (by kernel_rfl) ?_
  repeat (go_big_quiet_step (first
    | (go_at_call 19; with_reducible refine ed.Calls.in_of (H1.out _ (In.h _)))
    | (go_at_call 25; with_reducible refine ed.Calls.in_of (H2.out _ (In.h _)))))
  with_reducible refine wpQuiet_nil ?_
  rintro _ ⟨yy, rfl⟩
  go_wp2_with fail
  go_ret
  exact ⟨rfl, HB0.out.trans (yy.h.mono HB0.out.size)⟩

/-- A node and whether it is there. -/
def AtL (w : World) (y : Nd) (b : Bool) (e : Ending) (w' : World) : Prop :=
  ∃ ao cap, e = .returned (.tuple #[.agg #[.int .i64 y.k, .string y.t, .slice ao y.kids.len cap], .bool b]) ∧ KidsAt (Lt w'.heap.size) w' y.kids (.slice ao y.kids.len cap) ∧ Below w.heap.size w w'
abbrev nd0 : Nd := ⟨0, ⟨#[]⟩, .nil⟩
theorem AtL.of {w w' : World} {r : Option Nd} {e : Ending} (h : AtRes w r e w') : AtL w (r.getD nd0) r.isSome e w' := by
  cases r with
  | none => obtain ⟨rfl, hb⟩ := h; exact ⟨none, 0, rfl, kids_nil _ _ _ _, hb⟩
  | some y =>
    obtain ⟨u, rfl, s, rfl, hbd, hb⟩ := h
    obtain ⟨ao, cap, rfl⟩ := hbd.slice
    exact ⟨ao, cap, rfl, hbd.kids.toLt, hb⟩
theorem AtL.ofR {w w' : World} {r : Option Nd} {e : Ending} (h : RAtRes w r e w') : AtL w (r.getD nd0) r.isSome e w' := by
  cases r with
  | none => obtain ⟨rfl, hb⟩ := h; exact ⟨none, 0, rfl, kids_nil _ _ _ _, hb⟩
  | some y =>
    obtain ⟨u, rfl, ⟨s, rfl, hk⟩, hb⟩ := h
    obtain ⟨ao, cap, rfl, _⟩ := hk.slice
    exact ⟨ao, cap, rfl, hk.toLt, hb⟩
theorem AtL.ofW {S : Nat → Prop} {w w' : World} {r : Option Nd} {e : Ending} (h : RWithRes S w r e w') : AtL w (r.getD nd0) r.isSome e w' := by
  cases r with
  | none => obtain ⟨rfl, hb⟩ := h; exact ⟨none, 0, rfl, kids_nil _ _ _ _, hb⟩
  | some y =>
    obtain ⟨u, rfl, ⟨s, rfl, hk⟩, hb⟩ := h
    obtain ⟨ao, cap, rfl, _⟩ := hk.slice
    exact ⟨ao, cap, rfl, hk.toLt, hb⟩

set_option maxRecDepth 100000 in
set_option maxHeartbeats 8000000 in
theorem lat_calls (x y : Nd) (hwx : x.weight ≤ 400000) (hwy : y.weight ≤ 400000) (l : List Int) (w : World) (u p v : Value) (hu : NdAt (Lt w.heap.size) w x u) (hp : IntsAt (Lt w.heap.size) w p l) (hv : NdAt (Lt w.heap.size) w y v) :
    Calls Tryd.prog 15 #[u, p, v] w fun e w' => e = .returned (.bool true) ∧ Below w.heap.size w w' := by
  obtain ⟨s, rfl, hs⟩ := hu
  obtain ⟨s2, rfl, hs2⟩ := hv
  obtain ⟨ao, cap, rfl, hm⟩ := hs.slice
  obtain ⟨ao2, cap2, rfl, hm2⟩ := hs2.slice
  obtain ⟨po, pc, rfl, _⟩ := id hp
  obtain ⟨W0, hW0⟩ : ∃ W0, ((w.alloc (.cells #[.int .i64 x.k, .string x.t, .slice ao x.kids.len cap] 24)).alloc (.cells #[.int .i64 y.k, .string y.t, .slice ao2 y.kids.len cap2] 24)) = W0 := ⟨_, rfl⟩
  have hb0 : Below w.heap.size w W0 := by rw [← hW0]; exact ((Below.refl _ w).alloc (Nat.le_refl _) _).alloc (by simp) _
  have hk1 : Blk W0 w.heap.size 24 #[.int .i64 x.k, .string x.t, .slice ao x.kids.len cap] := by rw [← hW0]; exact (Blk.new w _ _).alloc _
  have hk2 : Blk W0 (w.heap.size + 1) 24 #[.int .i64 y.k, .string y.t, .slice ao2 y.kids.len cap2] := by
    rw [← hW0]
    have := Blk.new (w.alloc (.cells #[.int .i64 x.k, .string x.t, .slice ao x.kids.len cap] 24)) 24 #[.int .i64 y.k, .string y.t, .slice ao2 y.kids.len cap2]
    simpa using this
  obtain ⟨n1, hn1⟩ : ∃ n1, x.kids.len = n1 := ⟨_, rfl⟩
  obtain ⟨n2, hn2⟩ : ∃ n2, y.kids.len = n2 := ⟨_, rfl⟩
  obtain ⟨k1, hkk1⟩ : ∃ k1, x.k = k1 := ⟨_, rfl⟩
  obtain ⟨k2, hkk2⟩ : ∃ k2, y.k = k2 := ⟨_, rfl⟩
  obtain ⟨t1, htt1⟩ : ∃ t1, x.t = t1 := ⟨_, rfl⟩
  obtain ⟨t2, htt2⟩ : ∃ t2, y.t = t2 := ⟨_, rfl⟩
  obtain ⟨ln, hln⟩ : ∃ ln, l.length = ln := ⟨_, rfl⟩
  have hA : ∀ W, Below W0.heap.size W0 W → (NdAt (Lt W.heap.size) W x (.agg #[.int .i64 x.k, .string x.t, .slice ao x.kids.len cap]) ∧ NdAt (Lt W.heap.size) W y (.agg #[.int .i64 y.k, .string y.t, .slice ao2 y.kids.len cap2]) ∧ IntsAt (Lt W.heap.size) W (.slice po l.length pc) l) ∧ (Blk W w.heap.size 24 #[.int .i64 x.k, .string x.t, .slice ao x.kids.len cap] ∧ Blk W (w.heap.size + 1) 24 #[.int .i64 y.k, .string y.t, .slice ao2 y.kids.len cap2]) ∧ Below w.heap.size w W := fun W hW => by
    have hb := hb0.trans (hW.mono hb0.size)
    exact ⟨⟨⟨_, rfl, (hs.below hb (Nat.le_refl _)).mono hb.size⟩, ⟨_, rfl, (hs2.below hb (Nat.le_refl _)).mono hb.size⟩, (hp.below hb (Nat.le_refl _)).keep (fun k hk => Nat.lt_of_lt_of_le hk hb.size) (fun _ _ => rfl)⟩, ⟨hk1.own hW, hk2.own hW⟩, hb⟩
  obtain ⟨q1, hq1⟩ : ∃ q1, (x.at l).getD nd0 = q1 := ⟨_, rfl⟩
  obtain ⟨b1, hb1⟩ : ∃ b1, (x.at l).isSome = b1 := ⟨_, rfl⟩
  obtain ⟨q2, hq2⟩ : ∃ q2, (x.put l y).getD nd0 = q2 := ⟨_, rfl⟩
  obtain ⟨b2, hb2⟩ : ∃ b2, (x.put l y).isSome = b2 := ⟨_, rfl⟩
  have f1 := fun W hW => (at_calls x (by omega) l W _ _ (hA W hW).1.1 (hA W hW).1.2.2).mono fun e w' h => AtL.of h
  have f2 := fun W hW => (rat_calls x (by omega) l W _ _ (hA W hW).1.1 (hA W hW).1.2.2).mono fun e w' h => AtL.ofR h
  have f3 := fun W hW => (with_calls x y (by omega) (by omega) l W _ _ _ (hA W hW).1.1 (hA W hW).1.2.2 (hA W hW).1.2.1).mono fun e w' h => AtL.of h
  have f4 := fun W hW => (rwith_ok l (Lt W.heap.size) x y W _ _ _ (fun _ e => e) (by omega) (hA W hW).1.1 (hA W hW).1.2.2 (hA W hW).1.2.1).mono fun e w' h => AtL.ofW h
  rw [hq1, hb1] at f1 f2
  rw [hq2, hb2] at f3 f4
  simp only [hn1, hn2, hkk1, hkk2, htt1, htt2] at hA f1 f2 f3 f4
  rw [hn1, hn2, hkk1, hkk2, htt1, htt2] at hW0
  rw [hn1, hn2, hkk1, hkk2, htt1, htt2]
  simp only [hln] at hA f1 f2 f3 f4 ⊢
  have HA := Lib.hid hA; have F1 := Lib.hid f1; have F2 := Lib.hid f2; have F3 := Lib.hid f3; have F4 := Lib.hid f4; have HW0 := Lib.hid hW0
  clear hA f1 f2 f3 f4 hW0 hb0 hk1 hk2 hs hs2 hp hm hm2 hq1 hb1 hq2 hb2 hn1 hn2 hkk1 hkk2 htt1 htt2 hln
  go_enter Tryd.func15, Tryd.ntmps15
  go_upto_region 1 with fail
  rw [HW0.out]
  have HB0 := Lib.hid (Below.refl W0.heap.size W0)
  obtain ⟨_, ⟨g1, g2⟩, _⟩ := HA.out W0 HB0.out
  have x0 := g1.cell 0; have x1 := g1.cell 1; have x2 := g1.cell 2
  have y0 := g2.cell 0; have y1 := g2.cell 1; have y2 := g2.cell 2
  clear g1 g2
  go_wp2_with fail
  refine (F1.out W0 HB0.out).mono ?_
  rintro e w1 ⟨a1, c1, rfl, hk, hbb⟩
  have HK := Lib.hid hk; have HB := Lib.hid hbb
  clear hk hbb x0 x1 x2 y0 y1 y2
  go_upto_region 2 with fail
  obtain ⟨W2, hW2⟩ : ∃ W2, w1.alloc (.cells #[.int .i64 q1.k, .string q1.t, .slice a1 q1.kids.len c1] 24) = W2 := ⟨_, rfl⟩
  rw [hW2]
  have hb12 : Below w1.heap.size w1 W2 := by rw [← hW2]; exact (Below.refl _ w1).alloc (Nat.le_refl _) _
  have hz2 : Blk W2 w1.heap.size 24 #[.int .i64 q1.k, .string q1.t, .slice a1 q1.kids.len c1] := by rw [← hW2]; exact Blk.new w1 _ _
  have hst : Below W0.heap.size W0 W2 := HB.out.trans (hb12.mono HB.out.size)
  have hbw2 : Below W0.heap.size W0 W2 := HB0.out.trans (hst.mono HB0.out.size)
  have hn2 : NdAt (Lt W2.heap.size) W2 q1 (.agg #[.int .i64 q1.k, .string q1.t, .slice a1 q1.kids.len c1]) := NdAt.mk ((HK.out.below hb12 (Nat.le_refl _)).mono hb12.size)
  have HZ1 := Lib.hid hz2; have HB2 := Lib.hid hbw2; have HN1 := Lib.hid hn2
  clear hW2 hb12 hz2 hbw2 hn2 hst HK HB
  obtain ⟨_, ⟨g1, g2⟩, _⟩ := HA.out W2 HB2.out
  have x0 := g1.cell 0; have x1 := g1.cell 1; have x2 := g1.cell 2
  have y0 := g2.cell 0; have y1 := g2.cell 1; have y2 := g2.cell 2
  clear g1 g2
  go_wp2_with fail
  refine (F2.out W2 HB2.out).mono ?_
  rintro e w3 ⟨a2, c2, rfl, hk, hbb⟩
  have HK := Lib.hid hk; have HB := Lib.hid hbb
  clear hk hbb x0 x1 x2 y0 y1 y2
  go_upto_region 3 with fail
  obtain ⟨W4, hW2⟩ : ∃ W4, w3.alloc (.cells #[.int .i64 q1.k, .string q1.t, .slice a2 q1.kids.len c2] 24) = W4 := ⟨_, rfl⟩
  rw [hW2]
  have hb12 : Below w3.heap.size w3 W4 := by rw [← hW2]; exact (Below.refl _ w3).alloc (Nat.le_refl _) _
  have hz2 : Blk W4 w3.heap.size 24 #[.int .i64 q1.k, .string q1.t, .slice a2 q1.kids.len c2] := by rw [← hW2]; exact Blk.new w3 _ _
  have hst : Below W2.heap.size W2 W4 := HB.out.trans (hb12.mono HB.out.size)
  have hbw2 : Below W0.heap.size W0 W4 := HB2.out.trans (hst.mono HB2.out.size)
  have hn2 : NdAt (Lt W4.heap.size) W4 q1 (.agg #[.int .i64 q1.k, .string q1.t, .slice a2 q1.kids.len c2]) := NdAt.mk ((HK.out.below hb12 (Nat.le_refl _)).mono hb12.size)
  have HZ1 := Lib.hid (HZ1.out.own hst); have HN1 := Lib.hid ((HN1.out.below hst (Nat.le_refl _)).mono hst.size)
  have HZ2 := Lib.hid hz2; have HB4 := Lib.hid hbw2; have HN2 := Lib.hid hn2
  clear hW2 hb12 hz2 hbw2 hn2 hst HK HB
  obtain ⟨_, ⟨g1, g2⟩, _⟩ := HA.out W4 HB4.out
  have x0 := g1.cell 0; have x1 := g1.cell 1; have x2 := g1.cell 2
  have y0 := g2.cell 0; have y1 := g2.cell 1; have y2 := g2.cell 2
  clear g1 g2
  go_wp2_with fail
  refine (F3.out W4 HB4.out).mono ?_
  rintro e w5 ⟨a3, c3, rfl, hk, hbb⟩
  have HK := Lib.hid hk; have HB := Lib.hid hbb
  clear hk hbb x0 x1 x2 y0 y1 y2
  go_upto_region 4 with fail
  obtain ⟨W6, hW2⟩ : ∃ W6, w5.alloc (.cells #[.int .i64 q2.k, .string q2.t, .slice a3 q2.kids.len c3] 24) = W6 := ⟨_, rfl⟩
  rw [hW2]
  have hb12 : Below w5.heap.size w5 W6 := by rw [← hW2]; exact (Below.refl _ w5).alloc (Nat.le_refl _) _
  have hz2 : Blk W6 w5.heap.size 24 #[.int .i64 q2.k, .string q2.t, .slice a3 q2.kids.len c3] := by rw [← hW2]; exact Blk.new w5 _ _
  have hst : Below W4.heap.size W4 W6 := HB.out.trans (hb12.mono HB.out.size)
  have hbw2 : Below W0.heap.size W0 W6 := HB4.out.trans (hst.mono HB4.out.size)
  have hn2 : NdAt (Lt W6.heap.size) W6 q2 (.agg #[.int .i64 q2.k, .string q2.t, .slice a3 q2.kids.len c3]) := NdAt.mk ((HK.out.below hb12 (Nat.le_refl _)).mono hb12.size)
  have HZ1 := Lib.hid (HZ1.out.own hst); have HN1 := Lib.hid ((HN1.out.below hst (Nat.le_refl _)).mono hst.size)
  have HZ2 := Lib.hid (HZ2.out.own hst); have HN2 := Lib.hid ((HN2.out.below hst (Nat.le_refl _)).mono hst.size)
  have HZ3 := Lib.hid hz2; have HB6 := Lib.hid hbw2; have HN3 := Lib.hid hn2
  clear hW2 hb12 hz2 hbw2 hn2 hst HK HB
  obtain ⟨_, ⟨g1, g2⟩, _⟩ := HA.out W6 HB6.out
  have x0 := g1.cell 0; have x1 := g1.cell 1; have x2 := g1.cell 2
  have y0 := g2.cell 0; have y1 := g2.cell 1; have y2 := g2.cell 2
  clear g1 g2
  go_wp2_with fail
  refine (F4.out W6 HB6.out).mono ?_
  rintro e w7 ⟨a4, c4, rfl, hk, hbb⟩
  have HK := Lib.hid hk; have HB := Lib.hid hbb
  clear hk hbb x0 x1 x2 y0 y1 y2
  go_upto_region 5 with fail
  obtain ⟨W8, hW2⟩ : ∃ W8, w7.alloc (.cells #[.int .i64 q2.k, .string q2.t, .slice a4 q2.kids.len c4] 24) = W8 := ⟨_, rfl⟩
  rw [hW2]
  have hb12 : Below w7.heap.size w7 W8 := by rw [← hW2]; exact (Below.refl _ w7).alloc (Nat.le_refl _) _
  have hz2 : Blk W8 w7.heap.size 24 #[.int .i64 q2.k, .string q2.t, .slice a4 q2.kids.len c4] := by rw [← hW2]; exact Blk.new w7 _ _
  have hst : Below W6.heap.size W6 W8 := HB.out.trans (hb12.mono HB.out.size)
  have hbw2 : Below W0.heap.size W0 W8 := HB6.out.trans (hst.mono HB6.out.size)
  have hn2 : NdAt (Lt W8.heap.size) W8 q2 (.agg #[.int .i64 q2.k, .string q2.t, .slice a4 q2.kids.len c4]) := NdAt.mk ((HK.out.below hb12 (Nat.le_refl _)).mono hb12.size)
  have HZ1 := Lib.hid (HZ1.out.own hst); have HN1 := Lib.hid ((HN1.out.below hst (Nat.le_refl _)).mono hst.size)
  have HZ2 := Lib.hid (HZ2.out.own hst); have HN2 := Lib.hid ((HN2.out.below hst (Nat.le_refl _)).mono hst.size)
  have HZ3 := Lib.hid (HZ3.out.own hst); have HN3 := Lib.hid ((HN3.out.below hst (Nat.le_refl _)).mono hst.size)
  have HZ4 := Lib.hid hz2; have HB8 := Lib.hid hbw2; have HN4 := Lib.hid hn2
  clear hW2 hb12 hz2 hbw2 hn2 hst HK HB
  have r0 := HZ1.out.cell 0; have r1 := HZ1.out.cell 1; have r2 := HZ1.out.cell 2
  have r3 := HZ2.out.cell 0; have r4 := HZ2.out.cell 1; have r5 := HZ2.out.cell 2
  have s1 := rsame_ok q1 q1 W8 _ _ HN1.out HN2.out
  rw [Nd.same_self] at s1
  have S1 := Lib.hid s1
  clear s1
  have hbb1 : (b1 == b1) = true := by cases b1 <;> rfl
  have hbb2 : (b2 == b2) = true := by cases b2 <;> rfl
  go_wp2_with fail
  refine S1.out.mono ?_
  rintro e w9 ⟨rfl, hb9⟩
  have HZ3 := Lib.hid (HZ3.out.own hb9); have HN3 := Lib.hid ((HN3.out.below hb9 (Nat.le_refl _)).mono hb9.size)
  have HZ4 := Lib.hid (HZ4.out.own hb9); have HN4 := Lib.hid ((HN4.out.below hb9 (Nat.le_refl _)).mono hb9.size)
  have HB9 := Lib.hid (HB8.out.trans (hb9.mono HB8.out.size))
  clear hb9 r0 r1 r2 r3 r4 r5
  have r0 := HZ3.out.cell 0; have r1 := HZ3.out.cell 1; have r2 := HZ3.out.cell 2
  have r3 := HZ4.out.cell 0; have r4 := HZ4.out.cell 1; have r5 := HZ4.out.cell 2
  have s2 := rsame_ok q2 q2 w9 _ _ HN3.out HN4.out
  rw [Nd.same_self] at s2
  have S2 := Lib.hid s2
  clear s2
  go_wp2_with fail
  refine S2.out.mono ?_
  rintro e w10 ⟨rfl, hb10⟩
  have hfin := (HA.out _ (HB9.out.trans (hb10.mono HB9.out.size))).2.2
  have HFIN := Lib.hid hfin
  clear hfin hb10 r0 r1 r2 r3 r4 r5
  go_wp2_with fail
  go_ret
  exact ⟨rfl, HFIN.out⟩
end Go.Proofs.YtbdkemgfdghbkaaDoor.nd
