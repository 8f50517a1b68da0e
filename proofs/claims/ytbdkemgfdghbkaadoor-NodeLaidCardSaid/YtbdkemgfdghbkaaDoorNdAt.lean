/-
  node: has, At.
-/
import Derived.Test.YtbdkemgfdghbkaaDoorNdCopy
import Derived.Test.YtbdkemgfdghbkaaDoorNdRef2
namespace Go.Proofs.YtbdkemgfdghbkaaDoor.nd
open Go.RowKit sx ed
set_option linter.unusedVariables false

/-- A list of numbers. -/
def IntsAt (S : Nat → Prop) (W : World) (v : Value) (l : List Int) : Prop :=
  ∃ ao cap, v = .slice ao l.length cap ∧ l.length ≤ maxLen ∧ l.length ≤ cap ∧ (l ≠ [] → ∃ g o, ao = some ⟨g, o, none⟩ ∧ S g ∧ ∀ (j : Nat) z, l[j]? = some z → W.cell? ⟨g, o + j, none⟩ = some (.int .i64 z))
theorem IntsAt.keep {S S' : Nat → Prop} {W W' : World} {v : Value} {l : List Int} (h : IntsAt S W v l) (hS : ∀ k, S k → S' k) (hk : ∀ k, S k → W'.heap[k]? = W.heap[k]?) : IntsAt S' W' v l := by
  obtain ⟨ao, cap, e, hm, hlc, hr⟩ := h
  refine ⟨ao, cap, e, hm, hlc, fun hn => ?_⟩
  obtain ⟨g, o, e', hs, hc⟩ := hr hn
  exact ⟨g, o, e', hS _ hs, fun j z hj => by rw [← hc j z hj]; simp [World.cell?, hk g hs]⟩
theorem IntsAt.below {n m : Nat} {W W' : World} {v : Value} {l : List Int} (h : IntsAt (Lt n) W v l) (hb : Below m W W') (hm : n ≤ m) : IntsAt (Lt n) W' v l := h.keep (fun _ e => e) (fun k hk => hb.block k (Nat.lt_of_lt_of_le hk hm))
theorem IntsAt.get {S : Nat → Prop} {W : World} {l : List Int} {ao : Option Addr} {len cap j : Nat} {z : Int} (h : IntsAt S W (.slice ao len cap) l) (hj : l[j]? = some z) :
    ∃ g o, ao = some ⟨g, o, none⟩ ∧ S g ∧ g < W.heap.size ∧ W.cell? ⟨g, o + j, none⟩ = some (.int .i64 z) := by
  obtain ⟨ao', cap', e, hm, _, hr⟩ := h
  cases e
  obtain ⟨g, o, e, hs, hc⟩ := hr (fun e => by rw [e] at hj; cases hj)
  exact ⟨g, o, e, hs, World.block_lt_of_cell? W _ (hc j z hj), hc j z hj⟩

set_option maxRecDepth 100000 in
set_option maxHeartbeats 4000000 in
theorem has_calls (k i : Int) (t : ByteArray) (ao : Option Addr) (n cap : Nat) (b : Bool) (hb : decide (0 ≤ i ∧ i < (n : Int)) = b) (w : World) :
    Calls Tryd.prog 34 #[.agg #[.int .i64 k, .string t, .slice ao n cap], .int .i64 i] w fun e w' => e = .returned (.bool b) ∧ Below w.heap.size w w' := by
  have hb0 : Below w.heap.size w (w.alloc (.cells #[.int .i64 k, .string t, .slice ao n cap] 24)) := (Below.refl _ w).alloc (Nat.le_refl _) _
  have HB0 := Lib.hid hb0
  clear hb0
  by_cases h0 : 0 ≤ i
  · by_cases h1 : i < (n : Int)
    · obtain rfl : b = true := by rw [← hb]; exact decide_eq_true ⟨h0, h1⟩
      clear hb
      go_enter Tryd.func34, Tryd.ntmps34
      go_wp2_with fail
      go_ret
      exact ⟨rfl, HB0.out⟩
    · obtain rfl : b = false := by rw [← hb]; exact decide_eq_false (fun e => h1 e.2)
      have h2 : decide (i < (n : Int)) = false := decide_eq_false h1
      clear hb h1
      go_enter Tryd.func34, Tryd.ntmps34
      go_wp2_with fail
      go_ret
      exact ⟨rfl, HB0.out⟩
  · obtain rfl : b = false := by rw [← hb]; exact decide_eq_false (fun e => h0 e.1)
    have h2 : decide (0 ≤ i) = false := decide_eq_false h0
    clear hb h0
    go_enter Tryd.func34, Tryd.ntmps34
    go_wp2_with fail
    go_ret
    exact ⟨rfl, HB0.out⟩

abbrev zeroNd : Value := .agg #[.int .i64 0, .string ⟨#[]⟩, .slice none 0 0]
/-- What At tells. -/
def AtRes (w : World) (r : Option Nd) (e : Ending) (w' : World) : Prop :=
  match r with
  | none => e = .returned (.tuple #[zeroNd, .bool false]) ∧ Below w.heap.size w w'
  | some y => ∃ u, e = .returned (.tuple #[u, .bool true]) ∧ CopyOf w y u w'
theorem set3_below {N : Nat} {u : World} (a b c : Value) {B : Nat} (hB : N ≤ B) : Below N u (((u.setCell ⟨B, 0, none⟩ a).setCell ⟨B, 1, none⟩ b).setCell ⟨B, 2, none⟩ c) :=
  (((Below.refl _ u).setCell (p := ⟨B, 0, none⟩) hB a).setCell (p := ⟨B, 1, none⟩) hB b).setCell (p := ⟨B, 2, none⟩) hB c
theorem set3_blk {u : World} {B : Nat} {t : TypeId} {x y z : Value} (h : Blk u B t #[x, y, z]) (a b c : Value) : Blk (((u.setCell ⟨B, 0, none⟩ a).setCell ⟨B, 1, none⟩ b).setCell ⟨B, 2, none⟩ c) B t #[a, b, c] := ((h.set (o := 0) a).set (o := 1) b).set (o := 2) c
theorem set3_other {u : World} {B A : Nat} {t : TypeId} {vs : Array Value} (h : Blk u A t vs) (hne : A ≠ B) (a b c : Value) : Blk (((u.setCell ⟨B, 0, none⟩ a).setCell ⟨B, 1, none⟩ b).setCell ⟨B, 2, none⟩ c) A t vs := ((h.other hne a).other hne b).other hne c
theorem Building.set3 {N B : Nat} {W : World} {f : Fo} {v : Value} (h : Building N W f v) (hB : B < N) (a b c : Value) : Building N (((W.setCell ⟨B, 0, none⟩ a).setCell ⟨B, 1, none⟩ b).setCell ⟨B, 2, none⟩ c) f v := ((h.far hB a).far hB b).far hB c
theorem at_none {x : Nd} {i : Int} {p : List Int} (h : ¬ (0 ≤ i ∧ i < (x.kids.len : Int))) : x.at (i :: p) = none := by
  rw [Nd.at]
  by_cases h0 : i < 0
  · rw [if_pos h0]
  · rw [if_neg h0, Fo.get_none (by omega)]
theorem at_some {x y : Nd} {i : Int} {p : List Int} (h0 : 0 ≤ i) (hy : x.kids.get? i.toNat = some y) : x.at (i :: p) = y.at p := by
  rw [Nd.at, if_neg (by omega), hy]

/-- Between two rounds of At: what the box holds. -/
def AtCur (w : World) (x : Nd) (l : List Int) (j : Nat) (y : Nd) (wr : World) : Prop :=
  (∃ ao cap, Blk wr w.heap.size 24 #[.int .i64 y.k, .string y.t, .slice ao y.kids.len cap] ∧ KidsAt (Lt w.heap.size) wr y.kids (.slice ao y.kids.len cap)) ∧
  Blk wr (w.heap.size + 1) 24 #[.int .i64 0, .string ⟨#[]⟩, .slice none 0 0] ∧ Below w.heap.size w wr ∧ x.at l = y.at (l.drop j) ∧ y.weight ≤ 1000000

set_option maxRecDepth 100000 in
set_option maxHeartbeats 8000000 in
theorem at_of (hcl : ∀ (t : ByteArray), t.size ≤ 140737488351232 → ∀ W, Calls Tryd.prog 39 #[.string t] W fun e w' => e = .returned (.string t) ∧ Below W.heap.size W w') (x : Nd) (hwt : x.weight ≤ 1000000) (l : List Int) (w : World) (v p : Value)
    (hu : NdAt (Lt w.heap.size) w x v) (hpt : IntsAt (Lt w.heap.size) w p l) :
    Calls Tryd.prog 18 #[v, p] w (AtRes w (x.at l)) := by
  obtain ⟨s, rfl, hs⟩ := hu
  obtain ⟨ao, cap, rfl, hm⟩ := hs.slice
  obtain ⟨po, pc, rfl, hpm, _, _⟩ := id hpt
  unfold maxLen at hm hpm
  obtain ⟨W0, hW0⟩ : ∃ W0, ((w.alloc (.cells #[.int .i64 x.k, .string x.t, .slice ao x.kids.len cap] 24)).alloc (.cells #[.int .i64 0, .string ⟨#[]⟩, .slice none 0 0] 24)) = W0 := ⟨_, rfl⟩
  have hb0 : Below w.heap.size w W0 := by rw [← hW0]; exact ((Below.refl _ w).alloc (Nat.le_refl _) _).alloc (by simp) _
  have hk1 : Blk W0 w.heap.size 24 #[.int .i64 x.k, .string x.t, .slice ao x.kids.len cap] := by rw [← hW0]; exact (Blk.new w _ _).alloc _
  have hk2 : Blk W0 (w.heap.size + 1) 24 #[.int .i64 0, .string ⟨#[]⟩, .slice none 0 0] := by
    rw [← hW0]
    simpa using Blk.new (w.alloc (.cells #[.int .i64 x.k, .string x.t, .slice ao x.kids.len cap] 24)) 24 #[.int .i64 0, .string ⟨#[]⟩, .slice none 0 0]
  have hcur : AtCur w x l 0 x W0 := ⟨⟨ao, cap, hk1, hs.below hb0 (Nat.le_refl _)⟩, hk2, hb0, rfl, hwt⟩
  obtain ⟨n, hn⟩ : ∃ n, l.length = n := ⟨_, rfl⟩
  rw [hn] at hpt hpm ⊢
  have HCUR := Lib.hid hcur; have HW0 := Lib.hid hW0; have HPT := Lib.hid hpt; have HN := Lib.hid hn
  clear hcur hW0 hpt hn hk1 hk2 hb0 hs hwt hm
  go_enter Tryd.func18, Tryd.ntmps18
  go_wp2_with fail
  rw [HW0.out]
  go_loopw [10] (fun i wr => ∃ (j : Nat) (y : Nd), j ≤ n ∧ i = .int .i64 (j : Int) ∧ AtCur w x l j y wr) (fun i _ => n - (intOf i).toNat)
  case atStart => exact ⟨0, x, Nat.zero_le _, rfl, HCUR.out⟩
  case round =>
    obtain ⟨j, y, hj, rfl, ⟨ay, cy, hbx, hky⟩, hrs, hbw, hat, hyw⟩ := hrel
    have b0 := hbx.cell 0; have b1 := hbx.cell 1; have b2 := hbx.cell 2
    have q0 := hbx.frozen 0; have q1 := hbx.frozen 1; have q2 := hbx.frozen 2
    have f0 := hrs.frozen 0; have f1 := hrs.frozen 1; have f2 := hrs.frozen 2
    have c0 := hrs.cell 0; have c1 := hrs.cell 1; have c2 := hrs.cell 2
    by_cases hlt : j < n
    · obtain ⟨i, hi⟩ : ∃ i, l[j]? = some i := ⟨_, List.getElem?_eq_getElem (by rw [HN.out]; exact hlt)⟩
      obtain ⟨g, o, rfl, _, hg, hci⟩ := HPT.out.get hi
      have hc := (hbw.cell (p := ⟨g, _, none⟩) hg).trans hci
      have hdr : l.drop j = i :: l.drop (j + 1) := by rw [List.drop_eq_getElem_cons (by rw [HN.out]; exact hlt)]; rw [List.getElem?_eq_getElem (by rw [HN.out]; exact hlt)] at hi; cases hi; rfl
      rw [hdr] at hat
      have hlt1 : (j : Int) < (n : Int) := by omega
      have HBX := Lib.hid hbx; have HRS := Lib.hid hrs; have HBW := Lib.hid hbw; have HKY := Lib.hid hky; have HYW := Lib.hid hyw
      have hwl := hrs.lt
      by_cases hin : 0 ≤ i ∧ i < (y.kids.len : Int)
      · obtain ⟨z, hz⟩ := Fo.get_of_lt (f := y.kids) (i := i.toNat) (by omega)
        rw [at_some hin.1 hz] at hat
        have hzw := Fo.weight_get hz
        have HAT := Lib.hid hat; have HZ := Lib.hid hz; have HZW := Lib.hid hzw
        have hcall := fun W => has_calls y.k i y.t ay y.kids.len cy true (decide_eq_true hin) W
        have HC := Lib.hid hcall
        obtain ⟨hi0, hi1⟩ := hin
        obtain ⟨gz, oz, az, cz, rfl, hgs, hgz, d0, d1, d2, d3⟩ := hky.get hz
        have hgw : gz < wr.heap.size := hgz
        have HD3 := Lib.hid d3; have HD0 := Lib.hid d0; have HD1 := Lib.hid d1; have HD2 := Lib.hid d2
        clear hbx hrs hbw hky hyw hat hz hzw hcall hdr hi hci d0 d1 d2 d3
        go_wp2_with fail
        ((with_reducible refine (HC.out _).mono ?_); rintro e wb ⟨rfl, hb1⟩)
        have hcz := (HBX.out.own hb1)
        have hrz := (HRS.out.own hb1)
        have d0 := (hb1.cell (p := ⟨gz, _, none⟩) hgw).trans HD0.out
        have d1 := (hb1.cell (p := ⟨gz, _, none⟩) hgw).trans HD1.out
        have d2 := (hb1.cell (p := ⟨gz, _, none⟩) hgw).trans HD2.out
        have b0 := hcz.cell 0; have b1 := hcz.cell 1; have b2 := hcz.cell 2
        have q0 := hcz.frozen 0; have q1 := hcz.frozen 1; have q2 := hcz.frozen 2
        have d3 := (HD3.out.below hb1 (Nat.le_of_lt (by omega))).below (set3_below (.int .i64 z.k) (.string z.t) (.slice az z.kids.len cz) (Nat.le_refl w.heap.size)) (Nat.le_refl _)
        have hnew : AtCur w x l (j + 1) z (((wb.setCell ⟨w.heap.size, 0, none⟩ (.int .i64 z.k)).setCell ⟨w.heap.size, 1, none⟩ (.string z.t)).setCell ⟨w.heap.size, 2, none⟩ (.slice az z.kids.len cz)) :=
          ⟨⟨az, cz, set3_blk hcz _ _ _, d3⟩, set3_other hrz (by omega) _ _ _, (HBW.out.trans (hb1.mono HBW.out.size)).trans (set3_below _ _ _ (Nat.le_refl _)), HAT.out, by
            have h1 := HZW.out
            have h2 := HYW.out
            simp only [Nd.weight] at h1 h2 ⊢
            omega⟩
        have HNEW := Lib.hid hnew
        clear hb1 hcz hrz hnew d3
        go_wp2_with fail
        exact ⟨⟨j + 1, z, by omega, by go_num, HNEW.out⟩, by simp [intOf]; omega⟩
      · rw [at_none hin] at hat
        have hcall := fun W => has_calls y.k i y.t ay y.kids.len cy false (decide_eq_false hin) W
        have HC := Lib.hid hcall; have HAT := Lib.hid hat
        clear hbx hrs hbw hky hyw hat hcall hdr hi hci hin
        go_wp2_with fail
        ((with_reducible refine (HC.out _).mono ?_); rintro e wb ⟨rfl, hb1⟩)
        have hrz := (HRS.out.own hb1)
        have HB1 := Lib.hid (HBW.out.trans (hb1.mono HBW.out.size))
        have f0 := hrz.frozen 0; have f1 := hrz.frozen 1; have f2 := hrz.frozen 2
        have c0 := hrz.cell 0; have c1 := hrz.cell 1; have c2 := hrz.cell 2
        have g := set3_blk hrz (.int .i64 0) (.string ⟨#[]⟩) (.slice none 0 0)
        have g0 := g.cell 0; have g1 := g.cell 1; have g2 := g.cell 2
        clear hb1 hrz g
        go_wp2_with fail
        refine bodyPost_ret (v := .tuple #[zeroNd, .bool false]) (by simp [results, Tryd.results18, go_sem, g0, g1, g2]) rfl ?_
        rw [HAT.out]
        exact ⟨rfl, HB1.out.trans (set3_below _ _ _ (Nat.le_succ _))⟩
    · obtain rfl : j = n := by omega
      have hge : decide ((j : Int) < (j : Int)) = false := by simp
      rw [List.drop_of_length_le (by rw [HN.out]; exact Nat.le_refl _)] at hat
      have hcall := copy_of hcl y hyw wr _ ((NdAt.mk hky).mono hbw.size)
      have HC := Lib.hid hcall; have HAT := Lib.hid hat; have HRS := Lib.hid hrs; have HBW := Lib.hid hbw
      have hwl := hrs.lt
      clear hbx hrs hbw hky hyw hat hcall
      go_wp2_with fail
      ((with_reducible refine HC.out.mono ?_); rintro e wb ⟨u, rfl, s', rfl, hbd, hb1⟩)
      obtain ⟨ao5, cap5, rfl⟩ := hbd.slice
      have hrz := (HRS.out.own hb1)
      have HB1 := Lib.hid (HBW.out.trans (hb1.mono HBW.out.size))
      have f0 := hrz.frozen 0; have f1 := hrz.frozen 1; have f2 := hrz.frozen 2
      have c0 := hrz.cell 0; have c1 := hrz.cell 1; have c2 := hrz.cell 2
      have g := set3_blk hrz (.int .i64 y.k) (.string y.t) (.slice ao5 y.kids.len cap5)
      have g0 := g.cell 0; have g1 := g.cell 1; have g2 := g.cell 2
      have HBD := Lib.hid hbd
      clear hb1 hrz g hbd
      go_wp2_with fail
      refine bodyPost_ret (v := .tuple #[.agg #[.int .i64 y.k, .string y.t, .slice ao5 y.kids.len cap5], .bool true]) (by simp [results, Tryd.results18, go_sem, g0, g1, g2]) rfl ?_
      rw [HAT.out]
      exact ⟨_, rfl, _, rfl, (HBD.out.set3 hwl _ _ _).less (by omega), HB1.out.trans (set3_below _ _ _ (Nat.le_succ _))⟩
end Go.Proofs.YtbdkemgfdghbkaaDoor.nd
