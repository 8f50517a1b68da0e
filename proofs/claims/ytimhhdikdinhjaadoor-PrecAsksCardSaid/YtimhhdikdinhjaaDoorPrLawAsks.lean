/-
  subeditorlaw06.PrecAsks: for every input it returns true, and the arguments read as they did. No condition.
-/
import Derived.Test.YtimhhdikdinhjaaDoorPrLaw
import Derived.Test.YtimhhdikdinhjaaDoorPrRef2
import Derived.Test.YtimhhdikdinhjaaDoorEdIn
import Derived.Deep.RegionHeld3
import Derived.Deep.CutRange
import Derived.SizedLaws
import Derived.Test.YtimhhdikdinhjaaDoorCards
import Derived.Test.YtimhhdikdinhjaaDoorTie
import Derived.SevenTiedAt
namespace Go.Proofs.YtimhhdikdinhjaaDoor.precAsks
open Go.RowKit Go.ChangeShapes Go.WideShapes Go.ChangeAt Go.ChangeMaps
open pr sx
set_option linter.unusedVariables false

theorem cellsT : Tryd.prog.cellsOf 23 = 2 := by kernel_rfl
theorem open_tok {H : Type} {enc : TypeId × Value → H} {W : World} {base : Nat} {v : Value} {d : DataW H} {p : List MemPlace} (hok : Value.okWide Tryd.prog W .any base 23 v)
    (h : DataW.Trod enc Tryd.prog W 0 (fun _ => true) true 23 v d p) :
    ∃ (k : Int) (s : ByteArray), v = .agg #[.int .i64 k, .string s] ∧ d = .agg [.lit (.int .i64 k), .lit (.string s.data.toList)] := by
  obtain ⟨cs, rfl, hsz⟩ := okWide_struct Tryd.underlying23 hok
  obtain ⟨fuel, hf⟩ := h
  rw [cellsT] at hsz
  obtain ⟨xs, k, hk, hxy, _, hxl, hfl⟩ := DataW.trod_struct Tryd.underlying23 hf
  obtain ⟨l⟩ := cs
  match xs, hxl, l, hsz with
  | [y0, y1], _, [v0, v1], _ =>
    have q0 := hfl 0 _ rfl
    have q1 := hfl 1 _ rfl
    simp [cellsI, cellsS, Value.cells] at q0 q1
    obtain ⟨n0, e0, r0, g0⟩ := DataW.trod_int Tryd.underlying3 q0
    obtain ⟨s2, e2, r2, _⟩ := DataW.trod_string Tryd.underlying9 q1
    simp at e0 e2
    subst e0 e2
    refine ⟨n0, s2, rfl, ?_⟩
    have h1 := (Prod.mk.inj hxy).1
    rw [h1]
    simp [r0, r2]
theorem sized_tok {H : Type} {ts : List TypeId} {ds : List (DataW H)} (h : (DataW.weightsEach Tryd.prog ts ds).all (· ≤ reachBytes) = true) {j : Nat} {t : TypeId} {k : Int} {bytes : List UInt8} (hT : t = 23) (ht : ts[j]? = some t) (hd : ds[j]? = some (.agg [.lit (.int .i64 k), .lit (.string bytes)])) : bytes.length ≤ reachBytes := by
  subst hT
  have := List.all_eq_true.1 h _ (DataW.weights_mem_each ht hd bytes.length (by
    unfold DataW.weights
    rw [Tryd.underlying23]
    simp [DataW.weightsEach, DataW.weights]))
  simpa using this

set_option maxRecDepth 100000 in
set_option maxHeartbeats 4000000 in
theorem same1_calls (u v : Value) (l : List ByteArray) (w : World) (n m : Nat) (ha : StrsAt n w u l) (hb : StrsAt m w v l) :
    Calls Tryd.prog 13 #[u, v] w fun e w' => e = .returned (.bool true) ∧ Below w.heap.size w w' := by
  obtain ⟨ao, cap, rfl, hm, hc⟩ := ha
  obtain ⟨bo, cap2, rfl, _, hc2⟩ := hb
  unfold maxLen at hm
  have HC := Lib.hid hc; have HC2 := Lib.hid hc2
  clear hc hc2
  go_enter Tryd.func13, Tryd.ntmps13
  go_wp2_with fail
  go_loopw [5] (fun i wr => ∃ k : Nat, k ≤ l.length ∧ i = .int .i64 (k : Int) ∧ Below w.heap.size w wr) (fun i _ => l.length - (intOf i).toNat)
  case atStart => exact ⟨0, Nat.zero_le _, rfl, Below.refl _ _⟩
  case round =>
    obtain ⟨k, hk, rfl, hb⟩ := hrel
    by_cases hlt : k < l.length
    · obtain ⟨t, ht⟩ : ∃ t, l[k]? = some t := ⟨_, List.getElem?_eq_getElem hlt⟩
      obtain ⟨g, off, rfl, _, c0⟩ := HC.out k t ht
      obtain ⟨g2, off2, rfl, _, e0⟩ := HC2.out k t ht
      have d0 := (hb.cell (p := ⟨g, off + k, none⟩) (World.block_lt_of_cell? w _ c0)).trans c0
      have d2 := (hb.cell (p := ⟨g2, off2 + k, none⟩) (World.block_lt_of_cell? w _ e0)).trans e0
      have hlt1 : (k : Int) < (l.length : Int) := by omega
      clear c0 e0 ht
      go_wp2_with fail
      go_region
      go_wp2_with fail
      exact ⟨⟨k + 1, by omega, rfl, hb.drew⟩, by simp [intOf]; omega⟩
    · obtain rfl : k = l.length := by omega
      have hge : decide ((l.length : Int) < (l.length : Int)) = false := by simp
      go_wp2_with fail
      go_ret
      exact ⟨rfl, hb⟩
set_option maxRecDepth 100000 in
set_option maxHeartbeats 4000000 in
theorem asks_calls (s : ByteArray) (hs : s.size ≤ maxLen) (w : World) (hL : LvAt w) :
    Calls Tryd.prog 10 #[.string s] w fun e W' => e = .returned (.bool true) ∧ Below w.heap.size w W' := by
  have a1 := fun W (hB : Below w.heap.size w W) => level_calls s hs W (hL.own hB)
  have a2 := fun W (hB : Below w.heap.size w W) => side_calls s hs W (hL.own hB)
  have a3 := fun W (hB : Below w.heap.size w W) => left_calls s hs W (hL.own hB)
  have a4 := fun W (hB : Below w.heap.size w W) => right_calls s hs W (hL.own hB)
  have b1 := fun W (hB : Below w.heap.size w W) => rlevel_calls s W
  have b2 := fun W (hB : Below w.heap.size w W) => rside_calls s W
  have b3 := fun W (hB : Below w.heap.size w W) => rleft_calls s W
  have b4 := fun W (hB : Below w.heap.size w W) => rright_calls s W
  obtain ⟨v1, e1⟩ : ∃ v, levelOf s = v := ⟨_, rfl⟩
  obtain ⟨v2, e2⟩ : ∃ v, sideOf s = v := ⟨_, rfl⟩
  obtain ⟨v3, e3⟩ : ∃ v, besideOf s 1 = v := ⟨_, rfl⟩
  obtain ⟨v4, e4⟩ : ∃ v, besideOf s 2 = v := ⟨_, rfl⟩
  simp only [e1] at a1 b1
  simp only [e2] at a2 b2
  simp only [e3] at a3 b3
  simp only [e4] at a4 b4
  have A1 := Lib.hid a1; have A2 := Lib.hid a2; have A3 := Lib.hid a3; have A4 := Lib.hid a4
  have R1 := Lib.hid b1; have R2 := Lib.hid b2; have R3 := Lib.hid b3; have R4 := Lib.hid b4
  have B1 := Below.refl w.heap.size w
  clear hL a1 a2 a3 a4 b1 b2 b3 b4 e1 e2 e3 e4
  go_enter Tryd.func10, Tryd.ntmps10
  go_wp2_with fail
  ((with_reducible refine (A1.out _ B1).mono ?_); rintro e w2 ⟨rfl, hb2⟩)
  have B2 := Below.next B1 hb2 (Nat.le_refl _)
  clear hb2
  go_wp2_with fail
  ((with_reducible refine (R1.out _ B2).mono ?_); rintro e w3 ⟨rfl, hb3⟩)
  have B3 := Below.next B2 hb3 (Nat.le_refl _)
  clear hb3
  go_wp2_with fail
  ((with_reducible refine (A2.out _ B3).mono ?_); rintro e w4 ⟨rfl, hb4⟩)
  have B4 := Below.next B3 hb4 (Nat.le_refl _)
  clear hb4
  go_wp2_with fail
  ((with_reducible refine (R2.out _ B4).mono ?_); rintro e w5 ⟨rfl, hb5⟩)
  have B5 := Below.next B4 hb5 (Nat.le_refl _)
  clear hb5
  go_wp2_with fail
  ((with_reducible refine (A3.out _ B5).mono ?_); rintro e w6 ⟨rfl, hb6⟩)
  have B6 := Below.next B5 hb6 (Nat.le_refl _)
  clear hb6
  go_wp2_with fail
  ((with_reducible refine (R3.out _ B6).mono ?_); rintro e w7 ⟨rfl, hb7⟩)
  have B7 := Below.next B6 hb7 (Nat.le_refl _)
  clear hb7
  go_wp2_with fail
  ((with_reducible refine (A4.out _ B7).mono ?_); rintro e w8 ⟨rfl, hb8⟩)
  have B8 := Below.next B7 hb8 (Nat.le_refl _)
  clear hb8
  go_wp2_with fail
  ((with_reducible refine (R4.out _ B8).mono ?_); rintro e w9 ⟨rfl, hb9⟩)
  have B9 := Below.next B8 hb9 (Nat.le_refl _)
  clear hb9
  go_wp2_with fail
  go_ret
  exact ⟨rfl, B9⟩

abbrev S2 (W5 : World) (bx by' : Nat) (kx ky : Int) (tx ty : ByteArray) (u : World) : Prop :=
  (u.cell? ⟨bx, 0, none⟩ = some (.int .i64 kx) ∧ u.cell? ⟨bx, 1, none⟩ = some (.string tx) ∧ u.cell? ⟨by', 0, none⟩ = some (.int .i64 ky) ∧ u.cell? ⟨by', 1, none⟩ = some (.string ty)) ∧ Below W5.heap.size W5 u
theorem S2.step {W5 : World} {bx by' : Nat} {kx ky : Int} {tx ty : ByteArray} {u u' : World} (h : S2 W5 bx by' kx ky tx ty u) (hb : Below u.heap.size u u') : S2 W5 bx by' kx ky tx ty u' := by
  obtain ⟨⟨h1, h2, h3, h4⟩, hB⟩ := h
  have lt : ∀ (p : Addr) v, u.cell? p = some v → u'.cell? p = some v := fun p v hp => (hb.cell (World.block_lt_of_cell? u p hp)).trans hp
  exact ⟨⟨lt _ _ h1, lt _ _ h2, lt _ _ h3, lt _ _ h4⟩, hB.trans (hb.mono hB.size)⟩

set_option maxRecDepth 100000 in
set_option maxHeartbeats 4000000 in
theorem walk_long (s : ByteArray) (kd : Int) (tx : ByteArray) (hs : s.size ≤ 140737488351232) (ht : tx.size ≤ 140737488351232) (hl : 200 < s.size + tx.size) (k : Int) (w : World) (hL : LvAt w) :
    Calls Tryd.prog 3 #[.string s, .agg #[.int .i64 kd, .string tx], .int .u8 k] w fun e W' => e = .returned (.bool true) ∧ Below w.heap.size w W' := by
  have t1 : decide ((200 : Int) < (s.size : Int) + (tx.size : Int)) = true := decide_eq_true (by omega)
  have q1 : wrap64 ((s.size : Int) + (tx.size : Int)) = (s.size : Int) + (tx.size : Int) := by rw [IntWalk.wrap64_in]; omega
  have hb0 : Below w.heap.size w (w.alloc (.cells #[.int .i64 kd, .string tx] 23)) := (Below.refl _ w).alloc (Nat.le_refl _) _
  have HB := Lib.hid hb0
  have KN := Lib.hid (fun W (hB : Below w.heap.size w W) => known_calls W (hL.own hB))
  clear hL hl hs ht hb0
  go_enter Tryd.func3, Tryd.ntmps3
  go_wp2_with fail
  ((with_reducible refine (KN.out _ HB.out).mono ?_); rintro e w2 ⟨rfl, hb2⟩)
  have B2 := Below.next HB.out hb2 (by simp)
  go_wp2_with fail
  go_ret
  exact ⟨rfl, B2⟩

set_option maxRecDepth 100000 in
set_option maxHeartbeats 8000000 in
theorem walk_short (s : ByteArray) (kd : Int) (tx : ByteArray) (hl : s.size + tx.size ≤ 200) (k : Int) (hk : 0 ≤ k ∧ k ≤ 255) (w : World) (hL : LvAt w) :
    Calls Tryd.prog 3 #[.string s, .agg #[.int .i64 kd, .string tx], .int .u8 k] w fun e W' => e = .returned (.bool true) ∧ Below w.heap.size w W' := by
  have t1 : decide ((200 : Int) < (s.size : Int) + (tx.size : Int)) = false := decide_eq_false (by omega)
  have q1 : wrap64 ((s.size : Int) + (tx.size : Int)) = (s.size : Int) + (tx.size : Int) := by rw [IntWalk.wrap64_in]; omega
  have hb0 : Below w.heap.size w (w.alloc (.cells #[.int .i64 kd, .string tx] 23)) := (Below.refl _ w).alloc (Nat.le_refl _) _
  have hx0 : Blk (w.alloc (.cells #[.int .i64 kd, .string tx] 23)) w.heap.size 23 #[.int .i64 kd, .string tx] := Blk.new w _ _
  have HB := Lib.hid hb0; have HX := Lib.hid hx0
  have KN := Lib.hid (fun W (hB : Below w.heap.size w W) => known_calls W (hL.own hB))
  have hj : (k % 24).toNat < 24 := by omega
  have hts := (txt_facts _ hj).1
  have HJ := Lib.hid hj; have HTS := Lib.hid hts; have HL := Lib.hid hL; have HLN := Lib.hid hl
  obtain ⟨hk0, hk1⟩ := hk
  have hm0 : 0 ≤ k % 24 := by omega
  have hm1 : k % 24 < 24 := by omega
  have hn0 : 0 ≤ k % 15 := by omega
  have hn1 : k % 15 < 15 := by omega
  clear hL hl hb0 hx0 hj hts
  go_enter Tryd.func3, Tryd.ntmps3
  go_wp2_with fail
  ((with_reducible refine (KN.out _ HB.out).mono ?_); rintro e w2 ⟨rfl, hb2⟩)
  have HB2 := Lib.hid (Below.next HB.out hb2 (by simp))
  have HX2 := Lib.hid (HX.out.own hb2)
  clear hb2
  go_wp2_with fail
  ((with_reducible refine (ropers_calls _).mono ?_); rintro e w3 ⟨v, rfl, hs3, hb3⟩)
  have HB3 := Lib.hid (Below.next HB2.out hb3 (Nat.le_refl _))
  have HX3 := Lib.hid (HX2.out.own hb3)
  have HS3 := Lib.hid hs3
  obtain ⟨g, off, cap, rfl, hg, hcl⟩ := opers_at hs3
  have hcx := hcl _ HJ.out
  have htsz := HTS.out
  obtain ⟨o, ho⟩ : ∃ o, txt (k % 24).toNat = o := ⟨_, rfl⟩
  rw [ho] at hcx htsz
  clear hb3 hs3 hcl ho
  go_upto_region 6 with fail
  obtain ⟨W4, hW4⟩ : ∃ W4, w3.alloc (.cells #[.int .i64 (k % 15), .string o] 23) = W4 := ⟨_, rfl⟩
  have hb4 : Below w3.heap.size w3 W4 := by rw [← hW4]; exact (Below.refl _ w3).alloc (Nat.le_refl _) _
  have hy4 : Blk W4 w3.heap.size 23 #[.int .i64 (k % 15), .string o] := by rw [← hW4]; exact Blk.new w3 _ _
  have hx4 := HX3.out.own hb4
  have hB4 := Below.next HB3.out hb4 (Nat.le_refl _)
  have b0 : W4.cell? ⟨w.heap.size, 0, none⟩ = some (.int .i64 kd) := hx4.cell 0
  have b1 : W4.cell? ⟨w.heap.size, 1, none⟩ = some (.string tx) := hx4.cell 1
  have b2 : W4.cell? ⟨w3.heap.size, 0, none⟩ = some (.int .i64 (k % 15)) := hy4.cell 0
  have b3 : W4.cell? ⟨w3.heap.size, 1, none⟩ = some (.string o) := hy4.cell 1
  have hs4 := HS3.out.below hb4 (Nat.le_refl _)
  have hL4 := HL.out.own hB4
  rw [hW4]
  obtain ⟨bx, hbx⟩ : ∃ b, w.heap.size = b := ⟨_, rfl⟩
  obtain ⟨by', hby⟩ : ∃ b, w3.heap.size = b := ⟨_, rfl⟩
  rw [hbx] at b0 b1
  rw [hby] at b2 b3
  rw [hbx, hby]
  have hln := HLN.out
  have T0 := fun u (h : S2 W4 bx by' kd (k % 15) tx o u) => asks_calls s (by unfold maxLen; omega) u (hL4.own h.2)
  have T1 := fun u (h : S2 W4 bx by' kd (k % 15) tx o u) => asks_calls o (by unfold maxLen; omega) u (hL4.own h.2)
  have T2 := fun u (h : S2 W4 bx by' kd (k % 15) tx o u) => asks_calls (s ++ o) (by rw [ByteArray.size_append]; unfold maxLen; omega) u (hL4.own h.2)
  have T3 := fun u (h : S2 W4 bx by' kd (k % 15) tx o u) => of_calls kd tx (by omega) u (hL4.own h.2)
  have T4 := fun u (h : S2 W4 bx by' kd (k % 15) tx o u) => rof_calls kd tx u
  have T5 := fun u (h : S2 W4 bx by' kd (k % 15) tx o u) => of_calls (k % 15) o (by omega) u (hL4.own h.2)
  have T6 := fun u (h : S2 W4 bx by' kd (k % 15) tx o u) => rof_calls (k % 15) o u
  have T7 := fun u (h : S2 W4 bx by' kd (k % 15) tx o u) => opers_calls u (hL4.own h.2)
  have T8 := fun u (h : S2 W4 bx by' kd (k % 15) tx o u) v (hs : StrsAt u.heap.size u v (names opsP)) => same1_calls v _ (names opsP) u _ _ hs (hs4.below h.2 hb4.size)
  obtain ⟨z1, hz1⟩ : ∃ z, textOf kd tx = z := ⟨_, rfl⟩
  obtain ⟨z2, hz2⟩ : ∃ z, textOf (k % 15) o = z := ⟨_, rfl⟩
  simp only [hz1] at T3 T4
  simp only [hz2] at T5 T6
  have n1 : s.size + o.size ≤ 9223372036854775807 := by omega
  have m1 : ¬ 9223372036854775807 < s.size + o.size := by omega
  have e1 : (z1.toList == z1.toList) = true := beq_self_eq_true _
  have e2 : (z2.toList == z2.toList) = true := beq_self_eq_true _
  have HB4 := Lib.hid hB4
  clear hW4 hb4 hy4 hx4 hB4 hs4 hL4 hbx hz1 hz2 hln hg hcx htsz t1 q1 HX HX2 HX3 HB HB2 HB3 HS3 KN HJ HTS HL HLN
  go_region_held3 (fun u => (u.cell? ⟨bx, 0, none⟩ = some (.int .i64 kd) ∧ u.cell? ⟨bx, 1, none⟩ = some (.string tx) ∧ u.cell? ⟨by', 0, none⟩ = some (.int .i64 (k % 15)) ∧ u.cell? ⟨by', 1, none⟩ = some (.string o)) ∧ Below W4.heap.size W4 u)
    (first
      | assumption
      | exact ⟨⟨b0, b1, b2, b3⟩, (Below.refl _ _).drew⟩
      | exact S2.step (by assumption) (by assumption))
    (first
      | (go_at_call 10; with_reducible refine (T0 _ (by assumption)).mono ?_; rintro _ u1 ⟨rfl, hbn⟩)
      | (go_at_call 10; with_reducible refine (T1 _ (by assumption)).mono ?_; rintro _ u1 ⟨rfl, hbn⟩)
      | (go_at_call 10; with_reducible refine (T2 _ (by assumption)).mono ?_; rintro _ u1 ⟨rfl, hbn⟩)
      | (go_at_call 11; with_reducible refine (T3 _ (by assumption)).mono ?_; rintro _ u1 ⟨rfl, hbn⟩)
      | (go_at_call 12; with_reducible refine (T4 _ (by assumption)).mono ?_; rintro _ u1 ⟨rfl, hbn⟩)
      | (go_at_call 11; with_reducible refine (T5 _ (by assumption)).mono ?_; rintro _ u1 ⟨rfl, hbn⟩)
      | (go_at_call 12; with_reducible refine (T6 _ (by assumption)).mono ?_; rintro _ u1 ⟨rfl, hbn⟩)
      | (go_at_call 14; with_reducible refine (T7 _ (by assumption)).mono ?_; rintro _ u1 ⟨v7, rfl, hs7, hbn⟩)
      | (go_at_call 13; with_reducible refine (T8 _ (by assumption) _ (by assumption)).mono ?_; rintro _ u1 ⟨rfl, hbn⟩))
  go_wp2_with fail
  rename_i hHeld
  go_ret
  exact ⟨rfl, HB4.out.trans (hHeld.2.mono HB4.out.size)⟩
theorem walk (s : ByteArray) (kd : Int) (tx : ByteArray) (hs : s.size ≤ 140737488351232) (ht : tx.size ≤ 140737488351232) (k : Int) (hk : 0 ≤ k ∧ k ≤ 255) (w : World) (hL : LvAt w) :
    Calls Tryd.prog 3 #[.string s, .agg #[.int .i64 kd, .string tx], .int .u8 k] w fun e W' => e = .returned (.bool true) ∧ Below w.heap.size w W' := by
  rcases Nat.lt_or_ge 200 (s.size + tx.size) with h | h
  · exact walk_long s kd tx hs ht h k w hL
  · exact walk_short s kd tx h k hk w hL

set_option maxRecDepth 100000 in
theorem lifted (os : Os) (started : os.Started) (H : Type) (enc : TypeId × Value → H) :
    ReturnsInHanded {} Tryd.checked os 3 .any (fun w args => (Rows.precAsksSpec.pre enc Tryd.prog Tryd.f3 Rows.precAsksRow.domain false w args ∧ laidMetH Tryd.prog pr.laid w) ∧ sizedMet enc Tryd.prog Tryd.f3 (OpenSpec.ofChange Rows.precAsksSpec) false w args) (Rows.precAsksSpec.post enc Tryd.prog Tryd.f3 false true false false) := by
  refine returnsInHanded_of_change_and (C := Tryd.checked) (X := fun w _ => laidMetH Tryd.prog pr.laid w) (fun _ _ _ hh h => h.of_heap hh) law.own started (by kernel_rfl) Tryd.func3
    (ChangeSpec.witness_shaped (enc := enc) (C := Tryd.checked) (os := os) (X := fun w _ => laidMetH Tryd.prog pr.laid w) false (World.laidAll Tryd.prog os pr.laid) #[.string ⟨#[]⟩, .agg #[.int .i64 0, .string ⟨#[]⟩], .int .u8 0] 8 (World.laidAll_os _ _ _) (World.shaped_of_ZipB (by kernel_rfl) (by kernel_rfl)) (by kernel_rfl) (by kernel_rfl) (by kernel_rfl) (pr.laid_met os _)) ?_
  intro W base args ds gs before hval0 hW _ hsize0 hL _
  have hsize : (DataW.weightsEach Tryd.prog (Tryd.f3.params.toList ++ _) (ds ++ gs)).all (· ≤ reachBytes) = true := hsize0
  have hLv := pr.lv_of_laid hL
  have hval : ∀ (j : Nat) t v, Tryd.f3.params[j]? = some t → args[j]? = some v → Value.okWide Tryd.prog W .any base t v := hval0
  have hW' := hW
  obtain ⟨p, q, hA0, hV, rfl, _, _⟩ := hW
  have hA : DataW.TrodAll enc Tryd.prog W 0 (fun _ => true) true Tryd.f3.params.toList args.toList ds p := hA0
  rw [Tryd.params3] at hA hval
  obtain ⟨v0, vs0, d0, ds0, p0, q0, hargs, rfl, rfl, h0, r0⟩ := trodAll_cons hA
  obtain ⟨v1, vs1, d1, ds1, p1, q1, rfl, rfl, rfl, h1, r1⟩ := trodAll_cons r0
  obtain ⟨v2, vs2, d2, ds2, p2, q2, rfl, rfl, rfl, h2, r2⟩ := trodAll_cons r1
  obtain ⟨rfl, rfl, rfl⟩ := trodAll_nil r2
  obtain rfl : args = #[v0, v1, v2] := by cases args; simp_all
  obtain ⟨rfl, rfl⟩ := trodVars_none hV
  obtain ⟨s, rfl, rfl, rfl, ws⟩ := open_string Tryd.underlying9 (hval 0 9 v0 rfl rfl) h0
  obtain ⟨kd, tx, rfl, rfl⟩ := open_tok (hval 1 23 v1 rfl rfl) h1
  obtain ⟨y, rfl, rfl, rfl, wy⟩ := open_int Tryd.underlying5 (hval 2 5 v2 rfl rfl) h2
  have hss := sized_string hsize (j := 0) (t := 9) rfl rfl
  rw [Array.length_toList] at hss
  have htt := sized_tok hsize (j := 1) (t := 23) rfl rfl rfl
  rw [Array.length_toList] at htt
  clear hL
  refine (walk s kd tx (by have h1 : s.size ≤ reachBytes := hss; have : reachBytes ≤ 140737488351232 := (by decide); omega) (by have h1 : tx.size ≤ reachBytes := htt; have : reachBytes ≤ 140737488351232 := (by decide); omega) y (law.u8_wf wy) W hLv).mono fun e W' ⟨he, hb⟩ => ⟨_, he, ?_⟩
  exact law.law_post rfl hW' rfl (by kernel_rfl) (by kernel_rfl) hb

/-- PrecAsks, for every input. -/
theorem holds : Rows.PrecAsksSaid :=
  OpenClaim.holds_of_wide 3 Tryd.f3 rfl rfl rfl rfl rfl rfl rfl ⟨rfl, rfl, rfl, rfl, rfl⟩ rfl rfl rfl rfl rfl (by kernel_rfl) Tryd.func3 (by kernel_rfl)
    (of_decide_eq_true (by kernel_rfl)) (by unfold Func.isWrapper; first | (rw [if_pos (by decide +kernel)]; kernel_rfl) | (rw [if_neg (by decide +kernel)]; exact ⟨rfl, rfl⟩))
    (fun os started H enc _ => lifted os started H enc)

/-- The tied card of PrecAsks. -/
theorem card : Rows.PrecAsksCardSaid :=
  Claim7.holds_tied_plain_at .later [] [.widerDeep] true Rows.precAsksCard.stood.harness false
    holds (fun _ h => by cases h) (by kernel_rfl) (fun _ h => by cases h) precAsks_row_tie rfl ⟨rfl, rfl⟩ (by kernel_rfl) rfl
    (fun f fn hf hfn => by
      obtain rfl : f = 3 := Option.some.inj ((show Tryd.prog.funcNamed "subeditor/subeditorlaw06.PrecAsks" = some 3 by kernel_rfl).symm.trans hf) |>.symm
      obtain rfl : fn = Tryd.f3 := (Option.some.inj (Tryd.func3.symm.trans hfn)).symm
      exact ⟨by kernel_rfl, fun j t ht => by
        rw [Tryd.params3] at ht
        have hm := List.mem_toArray.1 (Array.mem_of_getElem? ht)
        have hall : (Tryd.f3.params.toList.all fun u => !Tryd.prog.wantsStandIn u) = true := by kernel_rfl
        rw [show Tryd.f3.params.toList = _ from congrArg Array.toList Tryd.params3] at hall
        exact (show Tryd.prog.wantsStandIn t = false by simpa using List.all_eq_true.1 hall t hm)⟩)
    (by kernel_rfl)
end Go.Proofs.YtimhhdikdinhjaaDoor.precAsks
