/-
  subeditorlaw07.NodeAsks: for every input it returns true, and the arguments read as they did. No condition.
-/
import Derived.Test.YtbdkemgfdghbkaaDoorNdLaw
import Derived.Test.YtbdkemgfdghbkaaDoorNdAsks1
import Derived.Test.YtbdkemgfdghbkaaDoorNdAsks2
import Derived.Test.YtbdkemgfdghbkaaDoorNdOpen
import Derived.Test.YtbdkemgfdghbkaaDoorNdRef3
import Derived.Deep.RegionHeld3
import Derived.Test.YtbdkemgfdghbkaaDoorTie
import Derived.Test.YtbdkemgfdghbkaaDoorCards
namespace Go.Proofs.YtbdkemgfdghbkaaDoor.nodeAsks
open Go.RowKit Go.ChangeShapes Go.WideShapes Go.ChangeAt Go.Shelf Go.Lib sx ed law nd
set_option linter.unusedVariables false

/-- What holds in the last statement: three trees' cells. -/
abbrev NC (V : World) (p q r : Nat) (ka kb : Int) (ta tb : ByteArray) (na ca nb cb m cap : Nat) (aa ab ao : Option Addr) (u : World) : Prop := (u.cell? ⟨p, 0, none⟩ = some (.int .i64 ka) ∧ u.cell? ⟨p, 1, none⟩ = some (.string ta) ∧ u.cell? ⟨p, 2, none⟩ = some (.slice aa na ca) ∧ u.cell? ⟨q, 0, none⟩ = some (.int .i64 kb) ∧ u.cell? ⟨q, 1, none⟩ = some (.string tb) ∧ u.cell? ⟨q, 2, none⟩ = some (.slice ab nb cb) ∧ u.cell? ⟨r, 0, none⟩ = some (.int .i64 10) ∧ u.cell? ⟨r, 1, none⟩ = some (.string ⟨#[]⟩) ∧ u.cell? ⟨r, 2, none⟩ = some (.slice ao m cap)) ∧ Below V.heap.size V u
theorem NC.more {V : World} {p q r : Nat} {ka kb : Int} {ta tb : ByteArray} {na ca nb cb m cap : Nat} {aa ab ao : Option Addr} {u v : World} (h : NC V p q r ka kb ta tb na ca nb cb m cap aa ab ao u) (hb : Below u.heap.size u v) : NC V p q r ka kb ta tb na ca nb cb m cap aa ab ao v := by
  obtain ⟨⟨h0, h1, h2, h3, h4, h5, h6, h7, h8⟩, hz⟩ := h
  have k : ∀ {p : Addr} {x : Value}, u.cell? p = some x → v.cell? p = some x := fun hp => (hb.cell (World.block_lt_of_cell? u _ hp)).trans hp
  exact ⟨⟨k h0, k h1, k h2, k h3, k h4, k h5, k h6, k h7, k h8⟩, hz.trans (hb.mono hz.size)⟩

set_option maxRecDepth 100000 in
set_option maxHeartbeats 8000000 in
theorem walk (A B : Nd) (hA : A.Kd) (hB : B.Kd) (tA : A.Tx reachBytes) (tB : B.Tx reachBytes) (l bs ds : List Int) (kk : Int) (hkk : 0 ≤ kk ∧ kk ≤ 255) (w : World) (va vb vp vc vd : Value)
    (ha : NdAt (Lt w.heap.size) w A va) (hb : NdAt (Lt w.heap.size) w B vb) (hp : IntsAt (Lt w.heap.size) w vp l) (hc : BytesAt w vc bs) (hd : BytesAt w vd ds) (T : PrintTabs) (hT : Tabs T w) :
    Calls Tryd.prog 3 #[va, vb, vp, vc, vd, .int .u8 kk] w fun e w' => e = .returned (.bool true) ∧ Below w.heap.size w w' := by
  obtain ⟨sa, rfl, hsa⟩ := ha
  obtain ⟨sb, rfl, hsb⟩ := hb
  obtain ⟨aa, ca, rfl, hma⟩ := hsa.slice
  obtain ⟨ab, cb, rfl, hmb⟩ := hsb.slice
  obtain ⟨po, pc, rfl, hpm, _⟩ := id hp
  obtain ⟨na, hna⟩ : ∃ na, A.kids.len = na := ⟨_, rfl⟩
  obtain ⟨nb, hnb⟩ : ∃ nb, B.kids.len = nb := ⟨_, rfl⟩
  obtain ⟨ka, hka⟩ : ∃ ka, A.k = ka := ⟨_, rfl⟩
  obtain ⟨kb, hkb⟩ : ∃ kb, B.k = kb := ⟨_, rfl⟩
  obtain ⟨ta, hta⟩ : ∃ ta, A.t = ta := ⟨_, rfl⟩
  obtain ⟨tb, htb⟩ : ∃ tb, B.t = tb := ⟨_, rfl⟩
  obtain ⟨pl, hpl⟩ : ∃ pl, l.length = pl := ⟨_, rfl⟩
  obtain ⟨W0, hW0⟩ : ∃ W0, ((w.alloc (.cells #[.int .i64 ka, .string ta, .slice aa na ca] 24)).alloc (.cells #[.int .i64 kb, .string tb, .slice ab nb cb] 24)) = W0 := ⟨_, rfl⟩
  have hb0 : Below w.heap.size w W0 := by rw [← hW0]; exact ((Below.refl _ w).alloc (Nat.le_refl _) _).alloc (by simp) _
  have hk1 : Blk W0 w.heap.size 24 #[.int .i64 ka, .string ta, .slice aa na ca] := by rw [← hW0]; exact (Blk.new w _ _).alloc _
  have hk2 : Blk W0 (w.heap.size + 1) 24 #[.int .i64 kb, .string tb, .slice ab nb cb] := by
    rw [← hW0]
    have := Blk.new (w.alloc (.cells #[.int .i64 ka, .string ta, .slice aa na ca] 24)) 24 #[.int .i64 kb, .string tb, .slice ab nb cb]
    simpa using this
  have hnA : NdAt (Lt w.heap.size) w A (.agg #[.int .i64 A.k, .string A.t, .slice aa A.kids.len ca]) := ⟨_, rfl, hsa⟩
  have hnB : NdAt (Lt w.heap.size) w B (.agg #[.int .i64 B.k, .string B.t, .slice ab B.kids.len cb]) := ⟨_, rfl, hsb⟩
  rw [hka, hta, hna] at hnA ⊢
  rw [hkb, htb, hnb] at hnB ⊢
  rw [hpl] at hp hpm ⊢
  have hall : ∀ W, Below W0.heap.size W0 W → (NdAt (Lt W.heap.size) W A (.agg #[.int .i64 ka, .string ta, .slice aa na ca]) ∧ NdAt (Lt W.heap.size) W B (.agg #[.int .i64 kb, .string tb, .slice ab nb cb]) ∧ IntsAt (Lt W.heap.size) W (.slice po pl pc) l) ∧ (Blk W w.heap.size 24 #[.int .i64 ka, .string ta, .slice aa na ca] ∧ Blk W (w.heap.size + 1) 24 #[.int .i64 kb, .string tb, .slice ab nb cb]) ∧ BytesAt W vc bs ∧ BytesAt W vd ds ∧ Tabs T W ∧ Below w.heap.size w W := fun W hW => by
    have hbw := hb0.trans (hW.mono hb0.size)
    exact ⟨⟨(hnA.below hbw (Nat.le_refl _)).mono hbw.size, (hnB.below hbw (Nat.le_refl _)).mono hbw.size, (hp.below hbw (Nat.le_refl _)).keep (fun k hk => Nat.lt_of_lt_of_le hk hbw.size) (fun _ _ => rfl)⟩, ⟨hk1.own hW, hk2.own hW⟩, hc.below hbw, hd.below hbw, hT.below hbw, hbw⟩
  have hrb : reachBytes ≤ 140737488355328 := by decide
  have hwa : ∀ W, Below W0.heap.size W0 W → Calls Tryd.prog 9 #[.agg #[.int .i64 ka, .string ta, .slice aa na ca]] W fun e w' => e = .returned (.int .i64 A.heavy) ∧ Below W.heap.size W w' := fun W hW => weight_calls A (tA.mono hrb) W _ (hall W hW).1.1
  have hwb : ∀ W, Below W0.heap.size W0 W → Calls Tryd.prog 9 #[.agg #[.int .i64 kb, .string tb, .slice ab nb cb]] W fun e w' => e = .returned (.int .i64 B.heavy) ∧ Below W.heap.size W w' := fun W hW => weight_calls B (tB.mono hrb) W _ (hall W hW).1.2.1
  have hkn : ∀ W, Below W0.heap.size W0 W → Calls Tryd.prog 10 #[] W fun e w' => e = .returned (.bool true) ∧ Below W.heap.size W w' := fun W hW => known_calls T W (hall W hW).2.2.2.2.1
  obtain ⟨HA', hHA⟩ : ∃ z, A.heavy = z := ⟨_, rfl⟩
  obtain ⟨HB', hHB⟩ : ∃ z, B.heavy = z := ⟨_, rfl⟩
  have rA := A.heavy_range
  have rB := B.heavy_range
  have hwt := fun h => Nd.weight_of (x := A) (y := B) h
  rw [hHA] at hwa rA hwt
  rw [hHB] at hwb rB hwt
  have sm1 : IntKind.i64.wrap (HA' + HB') = HA' + HB' := by simp [IntKind.wrap, IntKind.bits, IntKind.signed]; omega
  have HALL := Lib.hid hall; have HWA := Lib.hid hwa; have HWB := Lib.hid hwb; have HKN := Lib.hid hkn; have HW0 := Lib.hid hW0; have HWT := Lib.hid hwt; have HKA := Lib.hid hA; have HKB := Lib.hid hB; have HRA := Lib.hid rA; have HRB := Lib.hid rB
  have i0 := fun y : In W0 => In.cell (hk1.cell 0) y
  have i1 := fun y : In W0 => In.cell (hk1.cell 1) y
  have i2 := fun y : In W0 => In.cell (hk1.cell 2) y
  have i3 := fun y : In W0 => In.cell (hk2.cell 0) y
  have i4 := fun y : In W0 => In.cell (hk2.cell 1) y
  have i5 := fun y : In W0 => In.cell (hk2.cell 2) y
  clear hall hwa hwb hkn hW0 hwt hb0 hk1 hk2 hnA hnB hA hB tA tB hc hd hp hT hsa hsb hma hmb hna hnb hka hkb hta htb hpl hHA hHB hrb
  go_enter Tryd.func3, Tryd.ntmps3
  go_upto_region 1 with fail
  rw [HW0.out]
  by_cases hg1 : 300 < HA' + HB'
  · have g1 : decide (300 < HA' + HB') = true := decide_eq_true hg1
    clear rA rB
    refine ed.wp_region_in (by kernel_rfl) (by kernel_rfl) ?_
    repeat (go_big_quiet_step (first
      | (go_at_call 9; with_reducible refine ed.Calls.in_of (HWA.out _ (In.h _)))
      | (go_at_call 9; with_reducible refine ed.Calls.in_of (HWB.out _ (In.h _)))
      | (go_at_call 10; with_reducible refine ed.Calls.in_of (HKN.out _ (In.h _)))))
    with_reducible refine wpQuiet_nil ?_
    rintro _ ⟨yy, rfl⟩
    have hbu := yy.h
    obtain ⟨u, hu⟩ : ∃ u, yy.u = u := ⟨_, rfl⟩
    rw [hu] at hbu ⊢
    have HBU := Lib.hid hbu
    clear hbu hu i0 i1 i2 i3 i4 i5
    go_wp2_with fail
    refine (HKN.out u HBU.out).mono ?_
    rintro e w1 ⟨rfl, hb1⟩
    go_wp2_with fail
    go_ret
    exact ⟨rfl, (HALL.out _ (HBU.out.trans (hb1.mono HBU.out.size))).2.2.2.2.2⟩
  · have g1 : decide (300 < HA' + HB') = false := decide_eq_false hg1
    have hww := HWT.out (by omega)
    by_cases hg2 : 50 < pl
    · have g2 : decide ((50 : Int) < (pl : Int)) = true := decide_eq_true (by omega)
      clear rA rB hww
      refine ed.wp_region_in (by kernel_rfl) (by kernel_rfl) ?_
      repeat (go_big_quiet_step (first
        | (go_at_call 9; with_reducible refine ed.Calls.in_of (HWA.out _ (In.h _)))
        | (go_at_call 9; with_reducible refine ed.Calls.in_of (HWB.out _ (In.h _)))
        | (go_at_call 10; with_reducible refine ed.Calls.in_of (HKN.out _ (In.h _)))))
      with_reducible refine wpQuiet_nil ?_
      rintro _ ⟨yy, rfl⟩
      have hbu := yy.h
      obtain ⟨u, hu⟩ : ∃ u, yy.u = u := ⟨_, rfl⟩
      rw [hu] at hbu ⊢
      have HBU := Lib.hid hbu
      clear hbu hu i0 i1 i2 i3 i4 i5
      go_wp2_with fail
      refine (HKN.out u HBU.out).mono ?_
      rintro e w1 ⟨rfl, hb1⟩
      go_wp2_with fail
      go_ret
      exact ⟨rfl, (HALL.out _ (HBU.out.trans (hb1.mono HBU.out.size))).2.2.2.2.2⟩
    · have g2 : decide ((50 : Int) < (pl : Int)) = false := decide_eq_false (by omega)
      clear rA rB
      refine ed.wp_region_in (by kernel_rfl) (by kernel_rfl) ?_
      repeat (go_big_quiet_step (first
        | (go_at_call 9; with_reducible refine ed.Calls.in_of (HWA.out _ (In.h _)))
        | (go_at_call 9; with_reducible refine ed.Calls.in_of (HWB.out _ (In.h _)))
        | (go_at_call 10; with_reducible refine ed.Calls.in_of (HKN.out _ (In.h _)))))
      with_reducible refine wpQuiet_nil ?_
      rintro _ ⟨yy, rfl⟩
      have hbu := yy.h
      obtain ⟨u, hu⟩ : ∃ u, yy.u = u := ⟨_, rfl⟩
      rw [hu] at hbu ⊢
      have HBU := Lib.hid hbu
      clear hbu hu i0 i1 i2 i3 i4 i5
      have htr := fun W (h : BytesAt W vc bs) => tree_calls bs W vc h
      have hnx := treeN_nice bs
      obtain ⟨fa, hfa⟩ : ∃ fa, (treeN bs).kids = fa := ⟨_, rfl⟩
      rw [show treeN bs = ⟨10, ⟨#[]⟩, fa⟩ by rw [← hfa]; rfl] at hnx
      simp only [hfa] at htr
      have HTR := Lib.hid htr
      clear htr hfa
      go_wp2_with fail
      refine (HTR.out u (HALL.out u HBU.out).2.2.1).mono ?_
      rintro e w1 ⟨s, rfl, hbd, hb1⟩
      obtain ⟨ao, cap, rfl⟩ := hbd.slice
      obtain ⟨m, hm⟩ : ∃ m, fa.len = m := ⟨_, rfl⟩
      rw [hm]
      have hkx := hbd.kids.toLt
      rw [hm] at hkx
      have HKX := Lib.hid hkx; have HB1 := Lib.hid (HBU.out.trans (hb1.mono HBU.out.size))
      clear hkx hbd hb1
      go_upto_region 4 with fail
      obtain ⟨W2, hW2⟩ : ∃ W2, w1.alloc (.cells #[.int .i64 10, .string ⟨#[]⟩, .slice ao m cap] 24) = W2 := ⟨_, rfl⟩
      rw [hW2]
      have hb2 : Below w1.heap.size w1 W2 := by rw [← hW2]; exact (Below.refl _ w1).alloc (Nat.le_refl _) _
      have hn2 : Blk W2 w1.heap.size 24 #[.int .i64 10, .string ⟨#[]⟩, .slice ao m cap] := by rw [← hW2]; exact Blk.new w1 _ _
      have hbw2 := HB1.out.trans (hb2.mono HB1.out.size)
      obtain ⟨x, hx⟩ : ∃ x, (⟨10, ⟨#[]⟩, fa⟩ : Nd) = x := ⟨_, rfl⟩
      have hnd2 : NdAt (Lt W2.heap.size) W2 x (.agg #[.int .i64 10, .string ⟨#[]⟩, .slice ao m cap]) := by rw [← hx]; exact NdAt.mk ((HKX.out.below hb2 (Nat.le_refl _)).mono hb2.size)
      rw [hx] at hnx
      obtain ⟨c, hc⟩ : ∃ c, x.count = c := ⟨_, rfl⟩
      have hc2 : c ≤ 200 := by rw [← hc]; exact Nat.le_trans (Nd.count_le x) hnx.2
      have hc1 : 1 ≤ c := by rw [← hc]; simp [Nd.count]
      have hpa := rpaths_ok x (by omega) W2 _ hnd2
      rw [hc] at hpa
      have x0 := hn2.cell 0; have x1 := hn2.cell 1; have x2 := hn2.cell 2
      have HN2 := Lib.hid hn2; have HND2 := Lib.hid hnd2; have HBW2 := Lib.hid hbw2; have HNX := Lib.hid hnx; have HC := Lib.hid hc; have HPA := Lib.hid hpa
      clear hW2 hb2 hn2 hbw2 hx hnd2 hnx hc hpa
      go_wp2_with fail
      refine HPA.out.mono ?_
      rintro e W6 ⟨v7, L, rfl, hown, hls, hb7⟩
      obtain ⟨gl, cl, rfl, hcl, hgl, hpath⟩ := lists_row hc1 hown hls
      have hbw6 := HBW2.out.trans (hb7.mono HBW2.out.size)
      have hn6 := HN2.out.own hb7
      have hnd6 := (HND2.out.below hb7 (Nat.le_refl _)).mono hb7.size
      obtain ⟨r, hr, hrk⟩ : ∃ r : Nat, kk % (c : Int) = (r : Int) ∧ r < c := ⟨(kk % (c : Int)).toNat, by have := Int.emod_nonneg kk (show (c : Int) ≠ 0 by omega); omega, by have := Int.emod_lt_of_pos kk (show 0 < (c : Int) by omega); have := Int.emod_nonneg kk (show (c : Int) ≠ 0 by omega); omega⟩
      have hrt : Int.tmod kk (c : Int) = (r : Int) := by rw [Int.tmod_eq_emod_of_nonneg hkk.1]; exact hr
      have hr1 : (r : Int) < (c : Int) := by omega
      have hk0 : decide ((c : Int) = 0) = false := decide_eq_false (by omega)
      obtain ⟨p, hp⟩ : ∃ p, x.paths[r]? = some p := ⟨_, List.getElem?_eq_getElem (by rw [Nd.paths_len, HC.out]; exact hrk)⟩
      obtain ⟨pa, pcp, hpk⟩ := hpath r p hp
      have hpr := hpk W6 (Nat.le_refl _) (fun _ _ _ => rfl)
      obtain ⟨lp, hlp⟩ : ∃ lp, p.length = lp := ⟨_, rfl⟩
      rw [hlp] at hpr
      have hpr0 := hpr.1
      have hz : ∀ W, Below W6.heap.size W6 W → (NdAt (Lt W.heap.size) W A (.agg #[.int .i64 ka, .string ta, .slice aa na ca]) ∧ NdAt (Lt W.heap.size) W B (.agg #[.int .i64 kb, .string tb, .slice ab nb cb]) ∧ NdAt (Lt W.heap.size) W x (.agg #[.int .i64 10, .string ⟨#[]⟩, .slice ao m cap])) ∧ (IntsAt (Lt W.heap.size) W (.slice po pl pc) l ∧ IntsAt (Lt W.heap.size) W (.slice pa lp pcp) (ints p)) ∧ BytesAt W vd ds ∧ Tabs T W ∧ Below w.heap.size w W := fun W hW => by
        have h0 := hbw6.trans (hW.mono hbw6.size)
        obtain ⟨⟨g1, g2, g3⟩, _, _, g4, g5, g6⟩ := HALL.out W h0
        exact ⟨⟨g1, g2, (hnd6.below hW (Nat.le_refl _)).mono hW.size⟩, ⟨g3, (hpr.2.below hW (Nat.le_refl _)).keep (fun k hk => Nat.lt_of_lt_of_le hk hW.size) (fun _ _ => rfl)⟩, g4, g5, g6⟩
      obtain ⟨_, ⟨ga, gb⟩, _⟩ := HALL.out W6 hbw6
      have hS : NC W6 w.heap.size (w.heap.size + 1) w1.heap.size ka kb ta tb na ca nb cb m cap aa ab ao W6 := ⟨⟨ga.cell 0, ga.cell 1, ga.cell 2, gb.cell 0, gb.cell 1, gb.cell 2, hn6.cell 0, hn6.cell 1, hn6.cell 2⟩, Below.refl _ _⟩
      have HZ := Lib.hid hz; have HSS := Lib.hid hS
      clear hpath hown hls hb7 hbw6 hn6 hnd6 hpk hpr hz ga gb hS x0 x1 x2 hr hp hlp
      go_upto_region 6 with fail
      have hwA : A.weight ≤ 300 := by omega
      have hwB : B.weight ≤ 300 := by omega
      have hwX : x.weight ≤ 1000 := by have := HNX.out.2; omega
      clear hww
      have as1 : ∀ (u : World), NC W6 w.heap.size (w.heap.size + 1) w1.heap.size ka kb ta tb na ca nb cb m cap aa ab ao u → Calls Tryd.prog 13 #[.agg #[.int .i64 ka, .string ta, .slice aa na ca]] u fun e w' => e = .returned (.bool true) ∧ Below u.heap.size u w' := fun u h => asks_calls T A (by omega) HKA.out u (HZ.out u h.2).2.2.2.1 _ (HZ.out u h.2).1.1
      have as2 : ∀ (u : World), NC W6 w.heap.size (w.heap.size + 1) w1.heap.size ka kb ta tb na ca nb cb m cap aa ab ao u → Calls Tryd.prog 13 #[.agg #[.int .i64 10, .string ⟨#[]⟩, .slice ao m cap]] u fun e w' => e = .returned (.bool true) ∧ Below u.heap.size u w' := fun u h => asks_calls T x (by omega) HNX.out.1.kd u (HZ.out u h.2).2.2.2.1 _ (HZ.out u h.2).1.2.2
      have sa1 : ∀ (u : World), NC W6 w.heap.size (w.heap.size + 1) w1.heap.size ka kb ta tb na ca nb cb m cap aa ab ao u → Calls Tryd.prog 14 #[.agg #[.int .i64 ka, .string ta, .slice aa na ca], .agg #[.int .i64 kb, .string tb, .slice ab nb cb]] u fun e w' => e = .returned (.bool true) ∧ Below u.heap.size u w' := fun u h => lsame_calls A B u _ _ (HZ.out u h.2).1.1 (HZ.out u h.2).1.2.1
      have sa2 : ∀ (u : World), NC W6 w.heap.size (w.heap.size + 1) w1.heap.size ka kb ta tb na ca nb cb m cap aa ab ao u → Calls Tryd.prog 14 #[.agg #[.int .i64 10, .string ⟨#[]⟩, .slice ao m cap], .agg #[.int .i64 10, .string ⟨#[]⟩, .slice ao m cap]] u fun e w' => e = .returned (.bool true) ∧ Below u.heap.size u w' := fun u h => lsame_calls x x u _ _ (HZ.out u h.2).1.2.2 (HZ.out u h.2).1.2.2
      have at1 : ∀ (u : World), NC W6 w.heap.size (w.heap.size + 1) w1.heap.size ka kb ta tb na ca nb cb m cap aa ab ao u → Calls Tryd.prog 15 #[.agg #[.int .i64 ka, .string ta, .slice aa na ca], .slice po pl pc, .agg #[.int .i64 kb, .string tb, .slice ab nb cb]] u fun e w' => e = .returned (.bool true) ∧ Below u.heap.size u w' := fun u h => lat_calls A B (by omega) (by omega) l u _ _ _ (HZ.out u h.2).1.1 (HZ.out u h.2).2.1.1 (HZ.out u h.2).1.2.1
      have at2 : ∀ (u : World), NC W6 w.heap.size (w.heap.size + 1) w1.heap.size ka kb ta tb na ca nb cb m cap aa ab ao u → Calls Tryd.prog 15 #[.agg #[.int .i64 10, .string ⟨#[]⟩, .slice ao m cap], .slice pa lp pcp, .agg #[.int .i64 ka, .string ta, .slice aa na ca]] u fun e w' => e = .returned (.bool true) ∧ Below u.heap.size u w' := fun u h => lat_calls x A (by omega) (by omega) (ints p) u _ _ _ (HZ.out u h.2).1.2.2 (HZ.out u h.2).2.1.2 (HZ.out u h.2).1.1
      have at3 : ∀ (u : World), NC W6 w.heap.size (w.heap.size + 1) w1.heap.size ka kb ta tb na ca nb cb m cap aa ab ao u → Calls Tryd.prog 15 #[.agg #[.int .i64 10, .string ⟨#[]⟩, .slice ao m cap], .slice po pl pc, .agg #[.int .i64 ka, .string ta, .slice aa na ca]] u fun e w' => e = .returned (.bool true) ∧ Below u.heap.size u w' := fun u h => lat_calls x A (by omega) (by omega) l u _ _ _ (HZ.out u h.2).1.2.2 (HZ.out u h.2).2.1.1 (HZ.out u h.2).1.1
      have at4 : ∀ (u : World), NC W6 w.heap.size (w.heap.size + 1) w1.heap.size ka kb ta tb na ca nb cb m cap aa ab ao u → Calls Tryd.prog 15 #[.agg #[.int .i64 ka, .string ta, .slice aa na ca], .slice none 0 0, .agg #[.int .i64 10, .string ⟨#[]⟩, .slice ao m cap]] u fun e w' => e = .returned (.bool true) ∧ Below u.heap.size u w' := fun u h => lat_calls A x (by omega) (by omega) [] u _ _ _ (HZ.out u h.2).1.1 ⟨none, 0, rfl, Nat.zero_le _, Nat.le_refl _, fun h => absurd rfl h⟩ (HZ.out u h.2).1.2.2
      have tr : ∀ (u : World), NC W6 w.heap.size (w.heap.size + 1) w1.heap.size ka kb ta tb na ca nb cb m cap aa ab ao u → Calls Tryd.prog 11 #[vd] u fun e w' => ∃ v, e = .returned v ∧ NdAt (Lt w'.heap.size) w' (treeN ds) v ∧ Below u.heap.size u w' := fun u h => by
        refine (tree_calls ds u vd (HZ.out u h.2).2.2.1).mono ?_
        rintro e w' ⟨s, rfl, hbd, hb⟩
        exact ⟨_, rfl, NdAt.mk hbd.kids.toLt, hb⟩
      have sa3 : ∀ (u : World) (v : Value), NC W6 w.heap.size (w.heap.size + 1) w1.heap.size ka kb ta tb na ca nb cb m cap aa ab ao u → NdAt (Lt u.heap.size) u (treeN ds) v → Calls Tryd.prog 14 #[.agg #[.int .i64 10, .string ⟨#[]⟩, .slice ao m cap], v] u fun e w' => e = .returned (.bool true) ∧ Below u.heap.size u w' := fun u v h hv => lsame_calls x (treeN ds) u _ v (HZ.out u h.2).1.2.2 hv
      have more : ∀ (u v : World), NC W6 w.heap.size (w.heap.size + 1) w1.heap.size ka kb ta tb na ca nb cb m cap aa ab ao u → Below u.heap.size u v → NC W6 w.heap.size (w.heap.size + 1) w1.heap.size ka kb ta tb na ca nb cb m cap aa ab ao v := fun u v h hb => NC.more h hb
      have H_as1 := Lib.hid as1
      have H_as2 := Lib.hid as2
      have H_sa1 := Lib.hid sa1
      have H_sa2 := Lib.hid sa2
      have H_at1 := Lib.hid at1
      have H_at2 := Lib.hid at2
      have H_at3 := Lib.hid at3
      have H_at4 := Lib.hid at4
      have H_tr := Lib.hid tr
      have H_sa3 := Lib.hid sa3
      have H_more := Lib.hid more
      obtain ⟨⟨e0, e1, e2, e3, e4, e5, e6, e7, e8⟩, _⟩ := id HSS.out
      clear as1 as2 sa1 sa2 at1 at2 at3 at4 tr sa3 more
      go_region_held3 (fun u => (u.cell? ⟨w.heap.size, 0, none⟩ = some (.int .i64 ka) ∧ u.cell? ⟨w.heap.size, 1, none⟩ = some (.string ta) ∧ u.cell? ⟨w.heap.size, 2, none⟩ = some (.slice aa na ca) ∧ u.cell? ⟨w.heap.size + 1, 0, none⟩ = some (.int .i64 kb) ∧ u.cell? ⟨w.heap.size + 1, 1, none⟩ = some (.string tb) ∧ u.cell? ⟨w.heap.size + 1, 2, none⟩ = some (.slice ab nb cb) ∧ u.cell? ⟨w1.heap.size, 0, none⟩ = some (.int .i64 10) ∧ u.cell? ⟨w1.heap.size, 1, none⟩ = some (.string ⟨#[]⟩) ∧ u.cell? ⟨w1.heap.size, 2, none⟩ = some (.slice ao m cap)) ∧ Below W6.heap.size W6 u)
        (first
          | assumption
          | exact H_more.out _ _ HSS.out ((Below.refl _ _).drew)
          | exact H_more.out _ _ (by assumption) (by assumption))
        (first
          | (go_at_call 13; with_reducible refine (H_as1.out _ (by assumption)).mono ?_; rintro _ u1 ⟨rfl, hbn⟩; have hcs := H_more.out _ _ (by assumption) hbn)
          | (go_at_call 13; with_reducible refine (H_as2.out _ (by assumption)).mono ?_; rintro _ u1 ⟨rfl, hbn⟩; have hcs := H_more.out _ _ (by assumption) hbn)
          | (go_at_call 14; with_reducible refine (H_sa1.out _ (by assumption)).mono ?_; rintro _ u1 ⟨rfl, hbn⟩; have hcs := H_more.out _ _ (by assumption) hbn)
          | (go_at_call 14; with_reducible refine (H_sa2.out _ (by assumption)).mono ?_; rintro _ u1 ⟨rfl, hbn⟩; have hcs := H_more.out _ _ (by assumption) hbn)
          | (go_at_call 15; with_reducible refine (H_at1.out _ (by assumption)).mono ?_; rintro _ u1 ⟨rfl, hbn⟩; have hcs := H_more.out _ _ (by assumption) hbn)
          | (go_at_call 15; with_reducible refine (H_at2.out _ (by assumption)).mono ?_; rintro _ u1 ⟨rfl, hbn⟩; have hcs := H_more.out _ _ (by assumption) hbn)
          | (go_at_call 15; with_reducible refine (H_at3.out _ (by assumption)).mono ?_; rintro _ u1 ⟨rfl, hbn⟩; have hcs := H_more.out _ _ (by assumption) hbn)
          | (go_at_call 15; with_reducible refine (H_at4.out _ (by assumption)).mono ?_; rintro _ u1 ⟨rfl, hbn⟩; have hcs := H_more.out _ _ (by assumption) hbn)
          | (go_at_call 11; with_reducible refine (H_tr.out _ (by assumption)).mono ?_; rintro _ u2 ⟨v2, rfl, hnd2, hbn2⟩; have hcs := H_more.out _ _ (by assumption) hbn2)
          | (go_at_call 14; with_reducible refine (H_sa3.out _ _ (by assumption) (by assumption)).mono ?_; rintro _ u3 ⟨rfl, hbn3⟩; have hcs := H_more.out _ _ (by assumption) hbn3))
      rename_i hHeld
      have hfin := (HZ.out _ hHeld.2).2.2.2.2
      go_wp2_with fail
      go_ret
      exact ⟨rfl, hfin⟩

set_option maxRecDepth 100000 in
theorem lifted (os : Os) (started : os.Started) (H : Type) (enc : TypeId × Value → H) :
    ReturnsInHanded {} Tryd.checked os 3 .any (fun w args => (Rows.nodeAsksSpec.pre enc Tryd.prog Tryd.f3 Rows.nodeAsksRow.domain false w args ∧ laidMetH Tryd.prog nd.laid w) ∧ sizedMet enc Tryd.prog Tryd.f3 (OpenSpec.ofChange Rows.nodeAsksSpec) false w args) (Rows.nodeAsksSpec.post enc Tryd.prog Tryd.f3 false true false false) := by
  refine returnsInHanded_of_change_and (C := Tryd.checked) (X := fun w _ => laidMetH Tryd.prog nd.laid w) (fun _ _ _ hh h => h.of_heap hh) law.own started (by kernel_rfl) Tryd.func3
    (ChangeSpec.witness_shaped (enc := enc) (C := Tryd.checked) (os := os) (X := fun w _ => laidMetH Tryd.prog nd.laid w) false (World.laidAll Tryd.prog os nd.laid) #[.agg #[.int .i64 0, .string ⟨#[]⟩, .slice none 0 0], .agg #[.int .i64 0, .string ⟨#[]⟩, .slice none 0 0], .slice none 0 0, .slice none 0 0, .slice none 0 0, .int .u8 0] 8 (World.laidAll_os _ _ _) (World.shaped_of_ZipB (by kernel_rfl) (by kernel_rfl)) (by kernel_rfl) (by kernel_rfl) (by kernel_rfl) (nd.laid_met os _)) ?_
  intro W base args ds gs before hval0 hW _ hsize0 hL _
  have hsize : (DataW.weightsEach Tryd.prog (Tryd.f3.params.toList ++ _) (ds ++ gs)).all (· ≤ reachBytes) = true := hsize0
  have hTb := nd.tabs_of_laid hL
  have hval : ∀ (j : Nat) t v, Tryd.f3.params[j]? = some t → args[j]? = some v → Value.okWide Tryd.prog W .any base t v := hval0
  have hW' := hW
  obtain ⟨p, q, hA0, hV, rfl, _, _⟩ := hW
  have hA : DataW.TrodAll enc Tryd.prog W 0 (fun _ => true) true Tryd.f3.params.toList args.toList ds p := hA0
  rw [Tryd.params3] at hA hval
  obtain ⟨v0, vs0, d0, ds0, p0, q0, hargs, rfl, rfl, h0, r0⟩ := trodAll_cons hA
  obtain ⟨v1, vs1, d1, ds1, p1, q1, rfl, rfl, rfl, h1, r1⟩ := trodAll_cons r0
  obtain ⟨v2, vs2, d2, ds2, p2, q2, rfl, rfl, rfl, h2, r2⟩ := trodAll_cons r1
  obtain ⟨v3, vs3, d3, ds3, p3, q3, rfl, rfl, rfl, h3, r3⟩ := trodAll_cons r2
  obtain ⟨v4, vs4, d4, ds4, p4, q4, rfl, rfl, rfl, h4, r4⟩ := trodAll_cons r3
  obtain ⟨v5, vs5, d5, ds5, p5, q5, rfl, rfl, rfl, h5, r5⟩ := trodAll_cons r4
  obtain ⟨rfl, rfl, rfl⟩ := trodAll_nil r5
  obtain rfl : args = #[v0, v1, v2, v3, v4, v5] := by cases args; simp_all
  obtain ⟨rfl, rfl⟩ := trodVars_none hV
  obtain ⟨x0, hx0, kd0, tx0⟩ := nd.open_node (hval 0 24 v0 rfl rfl) h0
  have hsz0 := tx0 (List.all_eq_true.2 fun n hn => List.all_eq_true.1 hsize n (DataW.weights_mem_each (j := 0) rfl rfl n hn))
  obtain ⟨x1, hx1, kd1, tx1⟩ := nd.open_node (hval 1 24 v1 rfl rfl) h1
  have hsz1 := tx1 (List.all_eq_true.2 fun n hn => List.all_eq_true.1 hsize n (DataW.weights_mem_each (j := 1) rfl rfl n hn))
  obtain ⟨l2, hl2⟩ := nd.open_list (hval 2 25 v2 rfl rfl) h2
  obtain ⟨bs3, hbs3⟩ := law.open_bytes (hval 3 26 v3 rfl rfl) h3
  obtain ⟨bs4, hbs4⟩ := law.open_bytes (hval 4 26 v4 rfl rfl) h4
  obtain ⟨k5, rfl, rfl, rfl, wk5⟩ := open_int Tryd.underlying5 (hval 5 5 v5 rfl rfl) h5
  clear hL
  refine (walk x0 x1 kd0 kd1 hsz0 hsz1 l2 bs3 bs4 k5 (law.u8_wf wk5) W v0 v1 v2 v3 v4 hx0 hx1 hl2 hbs3 hbs4 _ hTb).mono fun e W' ⟨he, hb⟩ => ⟨_, he, ?_⟩
  exact law.law_post rfl hW' rfl (by kernel_rfl) (by kernel_rfl) hb

/-- NodeAsks, for every input. -/
theorem holds : Rows.NodeAsksSaid :=
  OpenClaim.holds_of_wide 3 Tryd.f3 rfl rfl rfl rfl rfl rfl rfl ⟨rfl, rfl, rfl, rfl, rfl⟩ rfl rfl rfl rfl rfl (by kernel_rfl) Tryd.func3 (by kernel_rfl)
    (of_decide_eq_true (by kernel_rfl)) (by unfold Func.isWrapper; first | (rw [if_pos (by decide +kernel)]; kernel_rfl) | (rw [if_neg (by decide +kernel)]; exact ⟨rfl, rfl⟩))
    (fun os started H enc _ => lifted os started H enc)

/-- The tied card of NodeAsks. -/
theorem card : Rows.NodeAsksCardSaid :=
  Claim7.holds_tied_plain_at .later [] [.data, .data, .data, .data, .pinned, .pinned, .pinned, .pinned, .pinned, .pinned] true Rows.nodeAsksCard.stood.harness false
    holds (fun _ h => by cases h) (by kernel_rfl) (fun _ h => by cases h) nodeAsks_row_tie rfl ⟨rfl, rfl⟩ (by kernel_rfl) rfl
    (fun f fn hf hfn => by
      obtain rfl : f = 3 := Option.some.inj ((show Tryd.prog.funcNamed "subeditor/subeditorlaw07.NodeAsks" = some 3 by kernel_rfl).symm.trans hf) |>.symm
      obtain rfl : fn = Tryd.f3 := (Option.some.inj (Tryd.func3.symm.trans hfn)).symm
      exact ⟨by kernel_rfl, fun j t ht => by
        rw [Tryd.params3] at ht
        have hm := List.mem_toArray.1 (Array.mem_of_getElem? ht)
        have hall : (Tryd.f3.params.toList.all fun u => !Tryd.prog.wantsStandIn u) = true := by kernel_rfl
        rw [show Tryd.f3.params.toList = _ from congrArg Array.toList Tryd.params3] at hall
        exact (show Tryd.prog.wantsStandIn t = false by simpa using List.all_eq_true.1 hall t hm)⟩)
    (by kernel_rfl)
end Go.Proofs.YtbdkemgfdghbkaaDoor.nodeAsks
