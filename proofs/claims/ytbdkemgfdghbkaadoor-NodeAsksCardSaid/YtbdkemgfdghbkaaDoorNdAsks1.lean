/-
  node: the law's asks.
-/
import Derived.Test.YtbdkemgfdghbkaaDoorNdRPaths
import Derived.Test.YtbdkemgfdghbkaaDoorNdRShow
import Derived.Test.YtbdkemgfdghbkaaDoorNdClone
import Derived.Test.YtbdkemgfdghbkaaDoorNdDeep
import Derived.Test.YtbdkemgfdghbkaaDoorNdRef2
import Derived.Deep.RegionHeld3
namespace Go.Proofs.YtbdkemgfdghbkaaDoor.nd
open Go.RowKit Go.Shelf sx ed
set_option linter.unusedVariables false

abbrev AC (W8 : World) (b : Nat) (k : Int) (t : ByteArray) (n cap : Nat) (ao : Option Addr) (u : World) : Prop :=
  (u.cell? ⟨b, 0, none⟩ = some (.int .i64 k) ∧ u.cell? ⟨b, 1, none⟩ = some (.string t) ∧ u.cell? ⟨b, 2, none⟩ = some (.slice ao n cap)) ∧ Below W8.heap.size W8 u
theorem AC.more {W8 : World} {b : Nat} {k : Int} {t : ByteArray} {n cap : Nat} {ao : Option Addr} {u v : World} (h : AC W8 b k t n cap ao u) (hb : Below u.heap.size u v) : AC W8 b k t n cap ao v := by
  obtain ⟨⟨h1, h2, h3⟩, h5⟩ := h
  have q : ∀ {p : Addr} {x : Value}, u.cell? p = some x → v.cell? p = some x := fun hp => (hb.cell (World.block_lt_of_cell? u _ hp)).trans hp
  exact ⟨⟨q h1, q h2, q h3⟩, h5.trans (hb.mono h5.size)⟩

theorem ints_get {p : List Nat} {k : Nat} (h : k < p.length) : ∃ z, (ints p)[k]? = some z := ⟨_, List.getElem?_eq_getElem (by simpa [ints] using h)⟩

set_option maxRecDepth 100000 in
set_option maxHeartbeats 8000000 in
theorem asks_calls (T : Lib.PrintTabs) (x : Nd) (hwt : x.weight ≤ 100000) (hkd : x.Kd) (w : World) (hT : Tabs T w) (v : Value) (hu : NdAt (Lt w.heap.size) w x v) :
    Calls Tryd.prog 13 #[v] w fun e w' => e = .returned (.bool true) ∧ Below w.heap.size w w' := by
  obtain ⟨s, rfl, hs⟩ := hu
  obtain ⟨ao, cap, rfl, hm⟩ := hs.slice
  obtain ⟨k0, hk0⟩ : ∃ k0, x.k = k0 := ⟨_, rfl⟩
  obtain ⟨t0, ht0⟩ : ∃ t0, x.t = t0 := ⟨_, rfl⟩
  obtain ⟨n, hn⟩ : ∃ n, x.kids.len = n := ⟨_, rfl⟩
  obtain ⟨c, hc⟩ : ∃ c, x.count = c := ⟨_, rfl⟩
  obtain ⟨dp, hdp⟩ : ∃ dp, x.deep = dp := ⟨_, rfl⟩
  obtain ⟨S, hS⟩ : ∃ S, (⟨(x.show T).toArray⟩ : ByteArray) = S := ⟨_, rfl⟩
  have hnd : NdAt (Lt w.heap.size) w x (.agg #[.int .i64 x.k, .string x.t, .slice ao x.kids.len cap]) := ⟨_, rfl, hs⟩
  rw [hk0, ht0, hn] at hnd ⊢
  have hc2 : c ≤ 100000 := by rw [← hc]; exact Nat.le_trans (Nd.count_le x) hwt
  have hc1 : 1 ≤ c := by rw [← hc]; simp [Nd.count]
  obtain ⟨W0, hW0⟩ : ∃ W0, w.alloc (.cells #[.int .i64 k0, .string t0, .slice ao n cap] 24) = W0 := ⟨_, rfl⟩
  have hb0 : Below w.heap.size w W0 := by rw [← hW0]; exact (Below.refl _ w).alloc (Nat.le_refl _) _
  have hk1 : Blk W0 w.heap.size 24 #[.int .i64 k0, .string t0, .slice ao n cap] := by rw [← hW0]; exact Blk.new w _ _
  have hnd0 := (hnd.below hb0 (Nat.le_refl _)).mono hb0.size
  have hpa := paths_calls x (by omega) W0 _ hnd0
  rw [hc] at hpa
  have HPA := Lib.hid hpa; have HW0 := Lib.hid hW0; have HB0 := Lib.hid hb0; have HK1 := Lib.hid hk1; have HND0 := Lib.hid hnd0; have HT := Lib.hid hT; have HKD := Lib.hid hkd; have HC := Lib.hid hc; have HDP := Lib.hid hdp; have HS := Lib.hid hS
  have x0 := hk1.cell 0; have x1 := hk1.cell 1; have x2 := hk1.cell 2
  clear hpa hW0 hb0 hk1 hnd0 hT hkd hc hdp hS hnd hs hm hk0 ht0 hn
  go_enter Tryd.func13, Tryd.ntmps13
  go_upto_region 1 with fail
  rw [HW0.out]
  go_wp2_with fail
  refine HPA.out.mono ?_
  rintro e w1 ⟨v1, L1, rfl, hown1, hls1, hb1⟩
  obtain ⟨gl, cl, rfl, hcl, hgl, hp1⟩ := lists_row hc1 hown1 hls1
  have hbw1 := HB0.out.trans (hb1.mono HB0.out.size)
  have hk11 := HK1.out.own hb1
  have hnd1 := (HND0.out.below hb1 (Nat.le_refl _)).mono hb1.size
  have hpb := rpaths_ok x (by rw [HC.out]; omega) w1 _ hnd1
  rw [HC.out] at hpb
  have y0 := hk11.cell 0; have y1 := hk11.cell 1; have y2 := hk11.cell 2
  have HPB := Lib.hid hpb; have HBW1 := Lib.hid hbw1; have HK11 := Lib.hid hk11; have HND1 := Lib.hid hnd1; have HP1 := Lib.hid hp1
  clear hpb hbw1 hk11 hnd1 hp1 hown1 hls1 hb1 x0 x1 x2
  go_wp2_with fail
  refine HPB.out.mono ?_
  rintro e w2 ⟨v2, L2, rfl, hown2, hls2, hb2⟩
  obtain ⟨gm, cm, rfl, hcm, hgm, hp2⟩ := lists_row hc1 hown2 hls2
  have hbw2 := HBW1.out.trans (hb2.mono HBW1.out.size)
  have hk2 := HK11.out.own hb2
  have hnd2 := (HND1.out.below hb2 (Nat.le_refl _)).mono hb2.size
  have hT2 := HT.out.below hbw2
  have hall : ∀ W, Below w2.heap.size w2 W → NdAt (Lt W.heap.size) W x (.agg #[.int .i64 k0, .string t0, .slice ao n cap]) ∧ Tabs T W ∧ Below w.heap.size w W := fun W hb =>
    ⟨(hnd2.below hb (Nat.le_refl _)).mono hb.size, hT2.below hb, hbw2.trans (hb.mono hbw2.size)⟩
  have hboth : ∀ (k : Nat) (p : List Nat), x.paths[k]? = some p → ∃ pa pc qa qc, ∀ W, Below w2.heap.size w2 W → (W.cell? ⟨gl, k, none⟩ = some (.slice pa p.length pc) ∧ IntsAt (Lt W.heap.size) W (.slice pa p.length pc) (ints p)) ∧ (W.cell? ⟨gm, k, none⟩ = some (.slice qa p.length qc) ∧ IntsAt (Lt W.heap.size) W (.slice qa p.length qc) (ints p)) := fun k p hp => by
    obtain ⟨pa, pc, h1⟩ := HP1.out k p hp
    obtain ⟨qa, qc, h2⟩ := hp2 k p hp
    refine ⟨pa, pc, qa, qc, fun W hb => ⟨h1 W (hb2.trans (hb.mono hb2.size)).size (fun b _ hl => (hb2.trans (hb.mono hb2.size)).block b hl), h2 W hb.size (fun b _ hl => hb.block b hl)⟩⟩
  have hac : AC w2 w.heap.size k0 t0 n cap ao w2 := ⟨⟨hk2.cell 0, hk2.cell 1, hk2.cell 2⟩, Below.refl _ _⟩
  have HALL := Lib.hid hall; have HBOTH := Lib.hid hboth; have HAC := Lib.hid hac; have HBW2 := Lib.hid hbw2
  clear hall hboth hac hbw2 hk2 hnd2 hT2 hown2 hls2 hb2 hp2 y0 y1 y2
  go_upto_region 3 with fail
  have hct : x.count ≤ 1000000 := by rw [HC.out]; omega
  have dd1 : ∀ {u : World}, AC w2 w.heap.size k0 t0 n cap ao u → Calls Tryd.prog 23 #[.agg #[.int .i64 k0, .string t0, .slice ao n cap]] u fun e w' => e = .returned (.int .i64 (dp : Int)) ∧ Below u.heap.size u w' := fun {u} h => by
    rw [← HDP.out]; exact deep_calls x hct u _ (HALL.out u h.2).1
  have dd2 : ∀ {u : World}, AC w2 w.heap.size k0 t0 n cap ao u → Calls Tryd.prog 27 #[.agg #[.int .i64 k0, .string t0, .slice ao n cap]] u fun e w' => e = .returned (.int .i64 (dp : Int)) ∧ Below u.heap.size u w' := fun {u} h => by
    rw [← HDP.out]; exact rdeep_ok x hct u _ (HALL.out u h.2).1
  have cc1 : ∀ {u : World}, AC w2 w.heap.size k0 t0 n cap ao u → Calls Tryd.prog 20 #[.agg #[.int .i64 k0, .string t0, .slice ao n cap]] u fun e w' => e = .returned (.int .i64 (c : Int)) ∧ Below u.heap.size u w' := fun {u} h => by
    rw [← HC.out]; exact count_calls x hct u _ (HALL.out u h.2).1
  have cc2 : ∀ {u : World}, AC w2 w.heap.size k0 t0 n cap ao u → Calls Tryd.prog 28 #[.agg #[.int .i64 k0, .string t0, .slice ao n cap]] u fun e w' => e = .returned (.int .i64 (c : Int)) ∧ Below u.heap.size u w' := fun {u} h => by
    rw [← HC.out]; exact rcount_ok x hct u _ (HALL.out u h.2).1
  have ss1 : ∀ {u : World}, AC w2 w.heap.size k0 t0 n cap ao u → Calls Tryd.prog 22 #[.agg #[.int .i64 k0, .string t0, .slice ao n cap]] u fun e w' => e = .returned (.string S) ∧ Below u.heap.size u w' := fun {u} h => by
    rw [← HS.out]; exact show_calls T x (by omega) HKD.out u (HALL.out u h.2).2.1 _ (HALL.out u h.2).1
  have ss2 : ∀ {u : World}, AC w2 w.heap.size k0 t0 n cap ao u → Calls Tryd.prog 29 #[.agg #[.int .i64 k0, .string t0, .slice ao n cap]] u fun e w' => e = .returned (.string S) ∧ Below u.heap.size u w' := fun {u} h => by
    rw [← HS.out]; exact rshow_ok T x (by omega) HKD.out u _ (HALL.out u h.2).2.1 (HALL.out u h.2).1
  have cp : ∀ {u : World}, AC w2 w.heap.size k0 t0 n cap ao u → Calls Tryd.prog 21 #[.agg #[.int .i64 k0, .string t0, .slice ao n cap]] u fun e w' => ∃ v, e = .returned v ∧ NdAt (Lt w'.heap.size) w' x v ∧ Below u.heap.size u w' := fun {u} h => by
    refine (copy_calls x (by omega) u _ (HALL.out u h.2).1).mono ?_
    rintro e w' ⟨v, rfl, hcp⟩
    obtain ⟨s, rfl, hbd, hb⟩ := hcp
    exact ⟨_, rfl, NdAt.mk hbd.kids.toLt, hb⟩
  have sm : ∀ {u : World} {v : Value}, AC w2 w.heap.size k0 t0 n cap ao u → NdAt (Lt u.heap.size) u x v → Calls Tryd.prog 25 #[v, .agg #[.int .i64 k0, .string t0, .slice ao n cap]] u fun e w' => e = .returned (.bool true) ∧ Below u.heap.size u w' := fun {u v} h hv => by
    have := rsame_ok x x u v _ hv (HALL.out u h.2).1
    rw [Nd.same_self] at this
    exact this
  obtain ⟨⟨z0, z1, z2⟩, _⟩ := id HAC.out
  have hAC := HAC.out
  go_region_held3 (fun u => (u.cell? ⟨w.heap.size, 0, none⟩ = some (.int .i64 k0) ∧ u.cell? ⟨w.heap.size, 1, none⟩ = some (.string t0) ∧ u.cell? ⟨w.heap.size, 2, none⟩ = some (.slice ao n cap)) ∧ Below w2.heap.size w2 u)
    (first
      | assumption
      | exact AC.more hAC ((Below.refl _ _).drew)
      | exact AC.more (by assumption) (by assumption))
    (first
      | (go_at_call 23; with_reducible refine (dd1 (by assumption)).mono ?_; rintro _ u1 ⟨rfl, hbn⟩; have hcs := AC.more (by assumption) hbn)
      | (go_at_call 27; with_reducible refine (dd2 (by assumption)).mono ?_; rintro _ u1 ⟨rfl, hbn⟩; have hcs := AC.more (by assumption) hbn)
      | (go_at_call 20; with_reducible refine (cc1 (by assumption)).mono ?_; rintro _ u1 ⟨rfl, hbn⟩; have hcs := AC.more (by assumption) hbn)
      | (go_at_call 28; with_reducible refine (cc2 (by assumption)).mono ?_; rintro _ u1 ⟨rfl, hbn⟩; have hcs := AC.more (by assumption) hbn)
      | (go_at_call 22; with_reducible refine (ss1 (by assumption)).mono ?_; rintro _ u1 ⟨rfl, hbn⟩; have hcs := AC.more (by assumption) hbn)
      | (go_at_call 29; with_reducible refine (ss2 (by assumption)).mono ?_; rintro _ u1 ⟨rfl, hbn⟩; have hcs := AC.more (by assumption) hbn)
      | (go_at_call 21; with_reducible refine (cp (by assumption)).mono ?_; rintro _ u2 ⟨v2, rfl, hnd2, hbn2⟩; have hcs := AC.more (by assumption) hbn2)
      | (go_at_call 25; with_reducible refine (sm (by assumption) (by assumption)).mono ?_; rintro _ u3 ⟨rfl, hbn3⟩; have hcs := AC.more (by assumption) hbn3))
  rename_i hHeld
  have hb3 := hHeld.2
  have HB3 := Lib.hid hb3
  clear hHeld hAC hb3 z0 z1 z2 dd1 dd2 cc1 cc2 ss1 ss2 cp sm
  go_wp2_with fail
  go_loopw [5] (fun i wr => ∃ q : Nat, q ≤ c ∧ i = .int .i64 (q : Int) ∧ Below w2.heap.size w2 wr) (fun i _ => c - (intOf i).toNat)
  case atStart => exact ⟨0, Nat.zero_le _, rfl, HB3.out⟩
  case round =>
    obtain ⟨q, hq, rfl, hb⟩ := hrel
    by_cases hlt : q < c
    · have hlt1 : (q : Int) < (c : Int) := by omega
      obtain ⟨p, hp⟩ : ∃ p, x.paths[q]? = some p := ⟨_, List.getElem?_eq_getElem (by rw [Nd.paths_len, HC.out]; exact hlt)⟩
      obtain ⟨pa, pc, qa, qc, hpq⟩ := HBOTH.out q p hp
      have hplen : p.length ≤ 1000000 := by have := paths_short (List.mem_of_getElem? hp); have := HC.out; omega
      obtain ⟨lp, hlp⟩ : ∃ lp, p.length = lp := ⟨_, rfl⟩
      rw [hlp] at hpq hplen
      have k1 := (hpq _ hb).1.1
      have k2 := (hpq _ hb).2.1
      have HPQ := Lib.hid hpq; have HLP := Lib.hid hlp; have HB4 := Lib.hid hb
      clear hpq hlp hb hp
      go_upto_region 8 with fail
      go_region
      clear k1 k2
      go_wp2_with fail
      go_loopw [6] (fun i wz => ∃ r : Nat, r ≤ lp ∧ i = .int .i64 (r : Int) ∧ Below w2.heap.size w2 wz) (fun i _ => lp - (intOf i).toNat)
      case atStart => exact ⟨0, Nat.zero_le _, rfl, HB4.out.drew⟩
      case round =>
        obtain ⟨r, hr, rfl, hb⟩ := hrel
        have k1 := (HPQ.out _ hb).1.1
        have k2 := (HPQ.out _ hb).2.1
        by_cases hrl : r < lp
        · have hrl1 : (r : Int) < (lp : Int) := by omega
          obtain ⟨z, hz⟩ := ints_get (p := p) (k := r) (by rw [HLP.out]; exact hrl)
          obtain ⟨ga, oa, rfl, _, _, c1⟩ := (HPQ.out _ hb).1.2.get hz
          obtain ⟨gb, ob, rfl, _, _, c2⟩ := (HPQ.out _ hb).2.2.get hz
          have HB5 := Lib.hid hb
          clear hb hz
          go_upto_region 13 with fail
          go_region
          go_wp2_with fail
          exact ⟨⟨r + 1, hrl, by go_num, HB5.out.drew⟩, by simp [intOf]; omega⟩
        · obtain rfl : r = lp := by omega
          have hge : decide ((r : Int) < (r : Int)) = false := by simp
          have HB5 := Lib.hid hb
          clear hb
          go_wp2_with fail
          exact ⟨⟨q + 1, hlt, by go_num, HB5.out⟩, by simp [intOf]; omega⟩
    · obtain rfl : q = c := by omega
      have hge : decide ((q : Int) < (q : Int)) = false := by simp
      have HB4 := Lib.hid hb
      clear hb
      go_wp2_with fail
      go_ret
      exact ⟨rfl, (HALL.out _ HB4.out).2.2⟩
end Go.Proofs.YtbdkemgfdghbkaaDoor.nd
