/-
  node: the law's known.
-/
import Derived.Test.YtbdkemgfdghbkaaDoorNdShow1
import Derived.Test.YtbdkemgfdghbkaaDoorNdTree
import Derived.Test.YtbdkemgfdghbkaaDoorNdDeep
import Derived.Lib.ItoaMem
namespace Go.Proofs.YtbdkemgfdghbkaaDoor.nd
open Go.RowKit sx ed law
set_option linter.unusedVariables false

theorem show_leaf (T : Lib.PrintTabs) : (⟨1, ⟨#[]⟩, .nil⟩ : Nd).show T = [40, 49, 32, 34, 34, 41] := by
  have h1 : Lib.itoa 1 = [49] := by rw [show (1 : Int) = ((1 : Nat) : Int) from rfl, Lib.itoa_nonneg, Lib.decDigits_one (by omega)]; rfl
  have h2 : (quoteB T ⟨#[]⟩).data.toList = [34, 34] := rfl
  simp only [Nd.show, headL, Fo.show, h1, h2]
  rfl
theorem leaf_at (S : Nat → Prop) (W : World) (k : Int) (t : ByteArray) : NdAt S W ⟨k, t, .nil⟩ (.agg #[.int .i64 k, .string t, .slice none 0 0]) := NdAt.mk (kids_nil _ _ _ _)
abbrev nd9 : Nd := ⟨9, ⟨#[]⟩, .cons 1 ⟨#[]⟩ .nil .nil⟩
theorem ints_one {w : World} {z : Int} : IntsAt (Lt (w.alloc (.cells #[.int .i64 z] 3)).heap.size) (w.alloc (.cells #[.int .i64 z] 3)) (.slice (some ⟨w.heap.size, 0, none⟩) 1 1) [z] := by
  refine ⟨_, 1, rfl, by unfold maxLen; simp, by simp, fun _ => ⟨w.heap.size, 0, rfl, by simp, fun j y hj => ?_⟩⟩
  match j, hj with
  | 0, hj => cases hj; exact (Blk.new w 3 #[.int .i64 z]).cell 0
  | j + 1, hj => simp at hj

set_option maxRecDepth 100000 in
set_option maxHeartbeats 8000000 in
theorem known_calls (T : Lib.PrintTabs) (w : World) (hT : Tabs T w) :
    Calls Tryd.prog 10 #[] w fun e w' => e = .returned (.bool true) ∧ Below w.heap.size w w' := by
  obtain ⟨W0, hW0⟩ : ∃ W0, (w.alloc (.cells #[.int .i64 1, .string ⟨#[]⟩, .slice none 0 0] 24)).alloc (.cells #[.int .i64 9, .string ⟨#[]⟩, .slice (some ⟨w.heap.size, 0, none⟩) 1 1] 24) = W0 := ⟨_, rfl⟩
  have hb0 : Below w.heap.size w W0 := by rw [← hW0]; exact ((Below.refl _ w).alloc (Nat.le_refl _) _).alloc (by simp) _
  have hs0 : W0.heap.size = w.heap.size + 2 := by rw [← hW0]; simp
  have hk0 : Blk W0 (w.heap.size + 1) 24 #[.int .i64 9, .string ⟨#[]⟩, .slice (some ⟨w.heap.size, 0, none⟩) 1 1] := by
    rw [← hW0]
    simpa using Blk.new (w.alloc (.cells #[.int .i64 1, .string ⟨#[]⟩, .slice none 0 0] 24)) 24 #[.int .i64 9, .string ⟨#[]⟩, .slice (some ⟨w.heap.size, 0, none⟩) 1 1]
  have hn0 : NdAt (Lt W0.heap.size) W0 nd9 (.agg #[.int .i64 9, .string ⟨#[]⟩, .slice (some ⟨w.heap.size, 0, none⟩) 1 1]) := by
    have hb := (Blk.new w 24 #[.int .i64 1, .string ⟨#[]⟩, .slice none 0 0]).alloc (.cells #[.int .i64 9, .string ⟨#[]⟩, .slice (some ⟨w.heap.size, 0, none⟩) 1 1] 24)
    rw [hW0] at hb
    exact NdAt.mk ⟨_, 1, rfl, by unfold maxLen; decide, fun _ => ⟨w.heap.size, 0, rfl, by show _ < _; omega, hb.cell 0, hb.cell 1, ⟨none, 0, hb.cell 2, by unfold maxLen; decide, fun h => absurd rfl h⟩, trivial⟩⟩
  have hT0 := hT.below hb0
  obtain ⟨v9, hv9⟩ : ∃ v9, (Value.slice (some ⟨w.heap.size, 0, none⟩) 1 1) = v9 := ⟨_, rfl⟩
  have hall : ∀ W, Below W0.heap.size W0 W → (W.cell? ⟨w.heap.size + 1, 0, none⟩ = some (.int .i64 9) ∧ W.cell? ⟨w.heap.size + 1, 1, none⟩ = some (.string ⟨#[]⟩) ∧ W.cell? ⟨w.heap.size + 1, 2, none⟩ = some (.slice (some ⟨w.heap.size, 0, none⟩) 1 1)) ∧ NdAt (Lt W.heap.size) W nd9 (.agg #[.int .i64 9, .string ⟨#[]⟩, .slice (some ⟨w.heap.size, 0, none⟩) 1 1]) ∧ Tabs T W := fun W hb => by
    have hk := hk0.own hb
    exact ⟨⟨hk.cell 0, hk.cell 1, hk.cell 2⟩, (hn0.below hb (Nat.le_refl _)).mono hb.size, hT0.below hb⟩
  have HALL := Lib.hid hall; have HW0 := Lib.hid hW0; have HB0 := Lib.hid hb0; have HS0 := Lib.hid hs0
  clear hs0 hall hb0 hk0 hn0 hT0 hv9 hT
  go_enter Tryd.func10, Tryd.ntmps10
  go_upto_region 2 with fail
  try rw [HW0.out]
  obtain ⟨⟨c0, c1, c2⟩, _⟩ := HALL.out W0 (Below.refl _ _)
  go_wp2_with fail
  have hb1 : Below W0.heap.size W0 (W0.alloc (.cells #[.int .i64 0] 3)) := (Below.refl _ _).alloc (Nat.le_refl _) _
  have hwt9 : nd9.weight ≤ 1000000 := by simp [Nd.weight, Fo.weight, ByteArray.size]
  have ha1 := at_calls nd9 hwt9 [0] _ _ _ (HALL.out _ hb1).2.1 ints_one
  refine ha1.mono ?_
  rintro e w1 h1
  obtain ⟨u, rfl, s, rfl, hs, hbe⟩ : AtRes _ (some ⟨1, ⟨#[]⟩, .nil⟩) e w1 := h1
  obtain ⟨ao, cap, rfl⟩ := hs.slice
  have hb2 := hb1.trans (hbe.mono hb1.size)
  clear hs hbe c0 c1 c2
  have HB2 := Lib.hid hb2
  clear hb1 hb2
  go_upto_region 3 with fail
  obtain ⟨W2, hW2⟩ : ∃ W2, w1.alloc (.cells #[.int .i64 1, .string ⟨#[]⟩, .slice ao Fo.nil.len cap] 24) = W2 := ⟨_, rfl⟩
  rw [hW2]
  have hb3 : Below W0.heap.size W0 W2 := by rw [← hW2]; exact HB2.out.alloc HB2.out.size _
  have hx2 : Blk W2 w1.heap.size 24 #[.int .i64 1, .string ⟨#[]⟩, .slice ao Fo.nil.len cap] := by rw [← hW2]; exact Blk.new w1 _ _
  clear hW2
  have HB3 := Lib.hid hb3; have HX2 := Lib.hid hx2
  obtain ⟨⟨c0, c1, c2⟩, _⟩ := HALL.out W2 hb3
  clear hb3 hx2
  go_wp2_with fail
  have hb4 : Below W0.heap.size W0 (W2.alloc (.cells #[.int .i64 1] 3)) := HB3.out.alloc HB3.out.size _
  have ha2 := at_calls nd9 hwt9 [1] _ _ _ (HALL.out _ hb4).2.1 ints_one
  refine ha2.mono ?_
  rintro e w3 h3
  obtain ⟨rfl, hbf⟩ : AtRes _ none e w3 := h3
  have hb5 := hb4.trans (hbf.mono hb4.size)
  have hx3 := (HX2.out.alloc (.cells #[.int .i64 1] 3)).own hbf
  clear hb4 ha2 hbf c0 c1 c2
  have HB5 := Lib.hid hb5; have HX3 := Lib.hid hx3
  clear hb5 hx3
  go_upto_region 4 with fail
  obtain ⟨W4, hW4⟩ : ∃ W4, w3.alloc (.cells #[.int .i64 0, .string ⟨#[]⟩, .slice none 0 0] 24) = W4 := ⟨_, rfl⟩
  rw [hW4]
  have hb6 : Below W0.heap.size W0 W4 := by rw [← hW4]; exact HB5.out.alloc HB5.out.size _
  have hx4 : Blk W4 w1.heap.size 24 #[.int .i64 1, .string ⟨#[]⟩, .slice ao Fo.nil.len cap] := by rw [← hW4]; exact HX3.out.alloc _
  clear hW4
  have HB6 := Lib.hid hb6; have HX4 := Lib.hid hx4
  clear hb6 hx4
  go_wp2_with fail
  refine (show_calls T ⟨1, ⟨#[]⟩, .nil⟩ (by simp [Nd.weight, Fo.weight, ByteArray.size]) ⟨by simp, trivial⟩ W4 (HALL.out _ HB6.out).2.2 _ (leaf_at _ _ _ _)).mono ?_
  rintro e w5 ⟨rfl, hbg⟩
  rw [show_leaf]
  have hb7 := HB6.out.trans (hbg.mono HB6.out.size)
  have hx5 := HX4.out.own hbg
  have x0 := hx5.cell 0
  obtain ⟨⟨c0, c1, c2⟩, hn5, _⟩ := HALL.out w5 hb7
  have hd5 := deep_calls nd9 (by simp [Nd.count, Fo.count]) w5 _ hn5
  have HB7 := Lib.hid hb7; have HD5 := Lib.hid hd5
  clear hbg hb7 hx5 hn5 hd5
  go_wp2_with fail
  refine HD5.out.mono ?_
  rintro e w6 ⟨rfl, hbh⟩
  have hb8 := HB7.out.trans (hbh.mono HB7.out.size)
  clear c0 c1 c2
  obtain ⟨⟨c0, c1, c2⟩, hn6, _⟩ := HALL.out w6 hb8
  have hd6 := count_calls nd9 (by simp [Nd.count, Fo.count]) w6 _ hn6
  have HB8 := Lib.hid hb8; have HD6 := Lib.hid hd6
  clear hbh hb8 hn6 hd6
  go_wp2_with fail
  refine HD6.out.mono ?_
  rintro e w7 ⟨rfl, hbi⟩
  have hb9 := HB8.out.trans (hbi.mono HB8.out.size)
  clear c0 c1 c2
  obtain ⟨⟨c0, c1, c2⟩, hn7, _⟩ := HALL.out w7 hb9
  have hd7 := paths_calls nd9 (by simp [Nd.count, Fo.count]) w7 _ hn7
  have HB9 := Lib.hid hb9; have HD7 := Lib.hid hd7
  clear hbi hb9 hn7 hd7
  go_wp2_with fail
  refine HD7.out.mono ?_
  rintro e w8 ⟨v8, L8, rfl, hown, _, hbj⟩
  obtain ⟨a8, c8, rfl, _⟩ := own_len' hown
  have hb10 := HB9.out.trans (hbj.mono HB9.out.size)
  have HBA := Lib.hid (HB0.out.trans (hb10.mono HB0.out.size))
  clear hown hbj hb10
  go_wp2_with fail
  go_ret
  exact ⟨rfl, HBA.out⟩
end Go.Proofs.YtbdkemgfdghbkaaDoor.nd
