/-
  node: the document's Show.
-/
import Derived.Test.YtbdkemgfdghbkaaDoorNdShow1
import Derived.Test.YtbdkemgfdghbkaaDoorNdRPaths
import Derived.Test.YtbdkemgfdghbkaaDoorEdIn
import Derived.Deep.RegionHeld3
namespace Go.Proofs.YtbdkemgfdghbkaaDoor.nd
open Go.RowKit Go.Shelf sx ed
set_option linter.unusedVariables false

theorem of_bytes {a : ByteArray} {l : List UInt8} (h : a.data.toList = l) : a = ⟨l.toArray⟩ := by subst h; cases a; simp
theorem size_list (a : ByteArray) : a.size = a.data.toList.length := Array.length_toList.symm
theorem cat_list (a b : ByteArray) : (a ++ b).data.toList = a.data.toList ++ b.data.toList := by simp [ByteArray.data_append]

def RShowOk (T : Lib.PrintTabs) (x : Nd) : Prop := x.weight ≤ 1000000 → x.Kd → ∀ (w : World) (v : Value), Tabs T w → NdAt (Lt w.heap.size) w x v →
  Calls Tryd.prog 29 #[v] w fun e w' => e = .returned (.string ⟨(x.show T).toArray⟩) ∧ Below w.heap.size w w'

theorem Fo.Kd.take : ∀ {f : Fo} (i : Nat), f.Kd → (f.take i).Kd
  | f, 0, _ => by cases f <;> exact trivial
  | .nil, _ + 1, _ => trivial
  | .cons _ _ _ r, i + 1, h => ⟨h.1, h.2.1, Fo.Kd.take (f := r) i h.2.2⟩
theorem ret_str {a b : ByteArray} (h : a = b) : Ending.returned (.string a) = .returned (.string b) := by rw [h]

set_option maxRecDepth 100000 in
set_option maxHeartbeats 8000000 in
theorem rshow_ok (T : Lib.PrintTabs) (x : Nd) : RShowOk T x := by
  refine Nd.induct (p := RShowOk T) (fun x hp hwt hkd w v hT hu => ?_) x
  obtain ⟨s, rfl, hs⟩ := hu
  obtain ⟨ao, cap, rfl, hm⟩ := hs.slice
  obtain ⟨k, t, f⟩ := x
  dsimp only at hs hm hp ⊢
  unfold maxLen at hm
  obtain ⟨W0, hW0⟩ : ∃ W0, w.alloc (.cells #[.int .i64 k, .string t, .slice ao f.len cap] 24) = W0 := ⟨_, rfl⟩
  have hb0 : Below w.heap.size w W0 := by rw [← hW0]; exact (Below.refl _ w).alloc (Nat.le_refl _) _
  have hk1 : Blk W0 w.heap.size 24 #[.int .i64 k, .string t, .slice ao f.len cap] := by rw [← hW0]; exact Blk.new w _ _
  obtain ⟨m, hmm⟩ : ∃ m, f.len = m := ⟨_, rfl⟩
  rw [hmm] at hm hs hW0 hk1 ⊢
  have htw : t.size ≤ 1000000 := by simp only [Nd.weight] at hwt; omega
  have hfw : f.weight + t.size + 1 ≤ 1000000 := by simp only [Nd.weight] at hwt; omega
  have hkk : -9223372036854775808 ≤ k ∧ k ≤ 9223372036854775807 := hkd.1
  have hit := fun W (hW : Tabs T W) => itoa_calls T k hkk W hW
  have hqt := fun W (hW : Tabs T W) => quote_calls T t htw W hW
  have his := itoaB_size k hkk
  have hqs := quoteB_size T t
  obtain ⟨A1, hA1⟩ : ∃ A1, (⟨#[40]⟩ : ByteArray) ++ itoaB k = A1 := ⟨_, rfl⟩
  obtain ⟨A2, hA2⟩ : ∃ A2, A1 ++ (⟨#[32]⟩ : ByteArray) = A2 := ⟨_, rfl⟩
  obtain ⟨A3, hA3⟩ : ∃ A3, A2 ++ quoteB T t = A3 := ⟨_, rfl⟩
  have e1 : A1.size = 1 + (itoaB k).size := by rw [← hA1, ByteArray.size_append]; rfl
  have e2 : A2.size = A1.size + 1 := by rw [← hA2, ByteArray.size_append]; rfl
  have hA : A3.data.toList = headL T k t := by rw [← hA3, ← hA2, ← hA1]; exact headB_list T k t
  obtain ⟨I, hI⟩ : ∃ I, itoaB k = I := ⟨_, rfl⟩
  obtain ⟨Q, hQ⟩ : ∃ Q, quoteB T t = Q := ⟨_, rfl⟩
  rw [hI] at hA1 hit his e1
  rw [hQ] at hA3 hqt hqs
  have g1 : ¬ (9223372036854775807 < (⟨#[40]⟩ : ByteArray).size + I.size) := by show ¬ (_ < 1 + _); omega
  have g1' : ¬ (9223372036854775807 < 1 + I.size) := by omega
  have g2 : ¬ (9223372036854775807 < A1.size + (⟨#[32]⟩ : ByteArray).size) := by show ¬ (_ < _ + 1); omega
  have g2' : ¬ (9223372036854775807 < A1.size + 1) := by omega
  have g3 : ¬ (9223372036854775807 < A2.size + Q.size) := by omega
  have hT0 := hT.below hb0
  have HF := Lib.hid (hs.below hb0 (Nat.le_refl _)); have HL := Lib.hid hmm; have HP := Lib.hid hp; have HB0 := Lib.hid hb0
  have HK1 := Lib.hid hk1; have HW0 := Lib.hid hW0; have HFW := Lib.hid hfw; have HKD := Lib.hid hkd; have HT0 := Lib.hid hT0; have HIT := Lib.hid hit; have HQT := Lib.hid hqt; have HA := Lib.hid hA
  clear hs hmm hp hb0 hk1 hW0 hwt hkd hT0 hT hit hqt hA his hqs hkk htw hI hQ e1 e2
  go_enter Tryd.func29, Tryd.ntmps29
  go_upto_region 1 with fail
  rw [HW0.out]
  have i0 := fun y : In W0 => In.cell (HK1.out.cell 0) y
  have i1 := fun y : In W0 => In.cell (HK1.out.cell 1) y
  refine ed.wp_region_in (by kernel_rfl) (by kernel_rfl) ?_
  repeat (go_big_quiet_step (first
    | (go_at_call 42; with_reducible refine ed.Calls.in_of (HIT.out _ (HT0.out.below (In.h _))))
    | (go_at_call 43; with_reducible refine ed.Calls.in_of (HQT.out _ (HT0.out.below (In.h _))))))
  with_reducible refine wpQuiet_nil ?_
  rintro _ ⟨yy, rfl⟩
  have hbu := yy.h
  obtain ⟨u, hu⟩ : ∃ u, yy.u = u := ⟨_, rfl⟩
  rw [hu] at hbu ⊢
  have HBU := Lib.hid hbu
  clear i0 i1 g1 g1' g2 g2' g3 hbu hu
  go_wp2_with fail
  go_loopw [3, 4] (fun sv i wr => ∃ (j : Nat) (sb : ByteArray), j ≤ m ∧ i = .int .i64 (j : Int) ∧ sv = .string sb ∧ sb.data.toList = headL T k t ++ (f.take j).show T ∧ Below W0.heap.size W0 wr) (fun _ i _ => m - (intOf i).toNat)
  case atStart =>
    refine ⟨0, A3, Nat.zero_le _, rfl, rfl, ?_, HBU.out⟩
    have : f.take 0 = .nil := by cases f <;> rfl
    rw [HA.out, this]
    simp [Fo.show]
  case round =>
    obtain ⟨j, sb, hj, rfl, rfl, hsb, hbw⟩ := hrel
    have a2 := (HK1.out.own hbw).cell 2
    have hhl := headL_len T k t HKD.out.1
    have htl := Fo.show_len T (f.take j) (Fo.Kd.take j HKD.out.2)
    have hsz : sb.size ≤ 60000000 := by
      have h1 := Fo.take_weight f j
      have h2 := HFW.out
      rw [size_list, hsb, List.length_append]
      omega
    by_cases hlt : j < m
    · obtain ⟨x, hx⟩ := Fo.get_of_lt (f := f) (i := j) (by rw [HL.out]; exact hlt)
      have hFw := HF.out.toLt.below hbw (Nat.le_refl _)
      obtain ⟨g1, o1, ao1, cap1, rfl, _, hg1, d0, d1, d2, d3⟩ := hFw.get hx
      have hlt1 : (j : Int) < (m : Int) := by omega
      have hwx : x.weight ≤ 1000000 := by have := Fo.weight_get hx; have := HFW.out; omega
      have hkx : x.Kd := HKD.out.2.get hx
      have hcall := HP.out.get hx hwx hkx wr _ (HT0.out.below hbw) (NdAt.mk d3.toLt)
      have hxl := Nd.show_len T x hkx
      obtain ⟨sx, hsx⟩ : ∃ sx, (⟨(x.show T).toArray⟩ : ByteArray) = sx := ⟨_, rfl⟩
      have hsl : sx.data.toList = x.show T := by rw [← hsx]
      have hsz2 : sx.size ≤ 30000000 := by rw [size_list, hsl]; omega
      rw [hsx] at hcall
      obtain ⟨s2, hs2⟩ : ∃ s2, sb ++ sx = s2 := ⟨_, rfl⟩
      have hs2l : s2.data.toList = headL T k t ++ (f.take (j + 1)).show T := by rw [← hs2, cat_list, hsb, hsl, Fo.show_snoc T hx, List.append_assoc]
      have hne : ¬ (9223372036854775807 < sb.size + sx.size) := by omega
      have hmb : m ≤ 1000000 := by have h1 := Fo.len_le f; have h2 := Fo.count_le f; have := HL.out; have := HFW.out; omega
      have HC := Lib.hid hcall; have HW := Lib.hid hbw; have HS2 := Lib.hid hs2l; have HHL := Lib.hid hhl; have HTL := Lib.hid htl
      clear hcall hx d3 hbw hFw hsb hsx hsl hs2l hhl htl hwx hkx hxl
      go_wp2_with fail
      ((with_reducible refine HC.out.mono ?_); rintro e w1 ⟨rfl, hb1⟩)
      have hb2 := HW.out.trans (hb1.mono HW.out.size)
      have HB2 := Lib.hid hb2
      clear hb1 hb2
      go_wp2_with fail
      exact ⟨⟨j + 1, s2, by omega, by go_num, rfl, HS2.out, HB2.out⟩, by simp [intOf]; omega⟩
    · obtain rfl : j = m := by omega
      have hge : decide ((j : Int) < (j : Int)) = false := by simp
      rw [Fo.take_all (by rw [HL.out]; exact Nat.le_refl _)] at hsb
      have hne : ¬ (9223372036854775807 < sb.size + 1) := by omega
      have hne' : ¬ (9223372036854775807 < sb.size + (⟨#[41]⟩ : ByteArray).size) := by show ¬ (_ < _ + 1); omega
      have hbf := HB0.out.trans (hbw.mono HB0.out.size)
      have HSB := Lib.hid hsb; have HBF := Lib.hid hbf
      clear hsb hhl htl hbw hbf
      go_wp2_with fail
      go_ret
      refine ⟨ret_str (of_bytes ?_), HBF.out⟩
      rw [cat_list, HSB.out]
      simp [Nd.show]
end Go.Proofs.YtbdkemgfdghbkaaDoor.nd
