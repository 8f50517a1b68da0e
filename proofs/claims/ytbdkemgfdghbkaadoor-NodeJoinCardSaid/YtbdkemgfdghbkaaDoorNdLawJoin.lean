/-
  subeditorlaw07.NodeJoin: for every input it returns true, and the arguments read as they did. No condition.
-/
import Derived.Test.YtbdkemgfdghbkaaDoorNdLaw
import Derived.Test.YtbdkemgfdghbkaaDoorNdRef1
import Derived.Deep.RegionHeld3
import Derived.Test.YtbdkemgfdghbkaaDoorTie
import Derived.Test.YtbdkemgfdghbkaaDoorCards
namespace Go.Proofs.YtbdkemgfdghbkaaDoor.nodeJoin
open Go.RowKit Go.ChangeShapes Go.WideShapes Go.ChangeAt Go.Shelf Go.Lib sx ed law nd
set_option linter.unusedVariables false

def showB (T : PrintTabs) (x : Nd) : ByteArray := ⟨(x.show T).toArray⟩
theorem showB_size (T : PrintTabs) (x : Nd) (hk : x.Kd) : (showB T x).size ≤ 30 * x.weight := Nd.show_len T x hk
abbrev joinN (k : Int) (fa fb : Fo) : Nd := ⟨k, ⟨#[116]⟩, .cons 10 ⟨#[]⟩ fa (.cons 10 ⟨#[]⟩ fb .nil)⟩
theorem join_show (T : PrintTabs) (k : Int) (fa fb : Fo) : showB T (joinN k fa fb) = (showB T ⟨k, ⟨#[116]⟩, .nil⟩).extract 0 ((showB T ⟨k, ⟨#[116]⟩, .nil⟩).size - 1) ++ showB T ⟨10, ⟨#[]⟩, fa⟩ ++ showB T ⟨10, ⟨#[]⟩, fb⟩ ++ ⟨#[41]⟩ := by
  apply ByteArray.ext
  apply Array.ext'
  have hs : (showB T ⟨k, ⟨#[116]⟩, .nil⟩).size = (headL T k ⟨#[116]⟩).length + 1 := by
    show ((⟨k, ⟨#[116]⟩, .nil⟩ : Nd).show T).length = _
    simp [Nd.show, Fo.show]
  rw [hs]
  simp [showB, Nd.show, Fo.show, ByteArray.data_append, ByteArray.data_extract]

abbrev CS (W6 : World) (ba bb bn gn m n cap cb : Nat) (ao ab : Option Addr) (k : Int) (u : World) : Prop :=
  (u.cell? ⟨ba, 0, none⟩ = some (.int .i64 10) ∧ u.cell? ⟨ba, 1, none⟩ = some (.string ⟨#[]⟩) ∧ u.cell? ⟨ba, 2, none⟩ = some (.slice ao m cap) ∧ u.cell? ⟨bb, 0, none⟩ = some (.int .i64 10) ∧ u.cell? ⟨bb, 1, none⟩ = some (.string ⟨#[]⟩) ∧ u.cell? ⟨bb, 2, none⟩ = some (.slice ab n cb) ∧ u.cell? ⟨bn, 0, none⟩ = some (.int .i64 k) ∧ u.cell? ⟨bn, 1, none⟩ = some (.string ⟨#[116]⟩) ∧ u.cell? ⟨bn, 2, none⟩ = some (.slice (some ⟨gn, 0, none⟩) 2 2)) ∧ Below W6.heap.size W6 u
theorem CS.more {W6 : World} {ba bb bn gn m n cap cb : Nat} {ao ab : Option Addr} {k : Int} {u v : World} (h : CS W6 ba bb bn gn m n cap cb ao ab k u) (hb : Below u.heap.size u v) : CS W6 ba bb bn gn m n cap cb ao ab k v := by
  obtain ⟨⟨h1, h2, h3, h4, h5, h6, h7, h8, h9⟩, h0⟩ := h
  have q : ∀ {p : Addr} {x : Value}, u.cell? p = some x → v.cell? p = some x := fun hp => (hb.cell (World.block_lt_of_cell? u _ hp)).trans hp
  exact ⟨⟨q h1, q h2, q h3, q h4, q h5, q h6, q h7, q h8, q h9⟩, h0.trans (hb.mono h0.size)⟩
theorem strs {T : PrintTabs} {k : Int} {fa fb : Fo} {SA SB S0 SN : ByteArray} (hA : showB T ⟨10, ⟨#[]⟩, fa⟩ = SA) (hB : showB T ⟨10, ⟨#[]⟩, fb⟩ = SB) (h0 : showB T ⟨k, ⟨#[116]⟩, .nil⟩ = S0) (hN : showB T (joinN k fa fb) = SN) : SN = S0.extract 0 (S0.size - 1) ++ SA ++ SB ++ ⟨#[41]⟩ := by
  rw [← hA, ← hB, ← h0, ← hN]; exact join_show T k fa fb

set_option maxRecDepth 100000 in
set_option maxHeartbeats 8000000 in
theorem walk (bs cs : List Int) (k : Int) (hk0 : 0 ≤ k ∧ k ≤ 255) (w : World) (u v : Value) (hu : BytesAt w u bs) (hv : BytesAt w v cs) (T : PrintTabs) (hT : Tabs T w) :
    Calls Tryd.prog 8 #[u, v, .int .u8 k] w fun e w' => e = .returned (.bool true) ∧ Below w.heap.size w w' := by
  have hna := treeN_nice bs
  have hnb := treeN_nice cs
  obtain ⟨fa, hfa⟩ : ∃ fa, (treeN bs).kids = fa := ⟨_, rfl⟩
  obtain ⟨fb, hfb⟩ : ∃ fb, (treeN cs).kids = fb := ⟨_, rfl⟩
  rw [show treeN bs = ⟨10, ⟨#[]⟩, fa⟩ by rw [← hfa]; rfl] at hna
  rw [show treeN cs = ⟨10, ⟨#[]⟩, fb⟩ by rw [← hfb]; rfl] at hnb
  have hta := tree_calls bs w u hu
  rw [hfa] at hta
  have HT := Lib.hid hT; have HU := Lib.hid hu; have HV := Lib.hid hv; have HTA := Lib.hid hta; have HFB := Lib.hid hfb
  clear hT hu hv hta hfa hfb
  go_enter Tryd.func8, Tryd.ntmps8
  go_wp2_with fail
  refine HTA.out.mono ?_
  rintro e w1 ⟨s, rfl, hbd, hb1⟩
  obtain ⟨ao, cap, rfl⟩ := hbd.slice
  obtain ⟨m, hm⟩ : ∃ m, fa.len = m := ⟨_, rfl⟩
  rw [hm]
  have hka := hbd.kids.toLt
  rw [hm] at hka
  have HKA := Lib.hid hka; have HB1 := Lib.hid hb1
  clear hka hbd hb1
  go_upto_region 2 with fail
  obtain ⟨W2, hW2⟩ : ∃ W2, w1.alloc (.cells #[.int .i64 10, .string ⟨#[]⟩, .slice ao m cap] 24) = W2 := ⟨_, rfl⟩
  rw [hW2]
  have hb2 : Below w1.heap.size w1 W2 := by rw [← hW2]; exact (Below.refl _ w1).alloc (Nat.le_refl _) _
  have hn2 : Blk W2 w1.heap.size 24 #[.int .i64 10, .string ⟨#[]⟩, .slice ao m cap] := by rw [← hW2]; exact Blk.new w1 _ _
  have hbw2 := HB1.out.trans (hb2.mono HB1.out.size)
  have htb := tree_calls cs W2 v (HV.out.below hbw2)
  rw [HFB.out] at htb
  have HB2 := Lib.hid hb2; have HN2 := Lib.hid hn2; have HBW2 := Lib.hid hbw2; have HTB := Lib.hid htb
  clear hW2 hb2 hn2 hbw2 htb
  go_wp2_with fail
  refine HTB.out.mono ?_
  rintro e w3 ⟨s, rfl, hbd, hb3⟩
  obtain ⟨ab, cb, rfl⟩ := hbd.slice
  obtain ⟨n, hn⟩ : ∃ n, fb.len = n := ⟨_, rfl⟩
  rw [hn]
  have hkb := hbd.kids.toLt
  rw [hn] at hkb
  have HKB := Lib.hid hkb; have HB3 := Lib.hid hb3
  clear hkb hbd hb3
  go_upto_region 3 with fail
  obtain ⟨W4, hW4⟩ : ∃ W4, w3.alloc (.cells #[.int .i64 10, .string ⟨#[]⟩, .slice ab n cb] 24) = W4 := ⟨_, rfl⟩
  rw [hW4]
  have hb4 : Below w3.heap.size w3 W4 := by rw [← hW4]; exact (Below.refl _ w3).alloc (Nat.le_refl _) _
  have hn4 : Blk W4 w3.heap.size 24 #[.int .i64 10, .string ⟨#[]⟩, .slice ab n cb] := by rw [← hW4]; exact Blk.new w3 _ _
  have hb24 : Below W2.heap.size W2 W4 := HB3.out.trans (hb4.mono HB3.out.size)
  have hn24 := HN2.out.own hb24
  have a0 := hn24.cell 0; have a1 := hn24.cell 1; have a2 := hn24.cell 2
  have b0 := hn4.cell 0; have b1 := hn4.cell 1; have b2 := hn4.cell 2
  have HB4 := Lib.hid hb4; have HN4 := Lib.hid hn4; have HB24 := Lib.hid hb24; have HN24 := Lib.hid hn24
  clear hW4 hb4 hn4 hb24 hn24
  go_upto_region 4 with fail
  obtain ⟨W6, hW6⟩ : ∃ W6, (W4.alloc (.cells #[.int .i64 10, .string ⟨#[]⟩, .slice ao m cap, .int .i64 10, .string ⟨#[]⟩, .slice ab n cb] 24)).alloc (.cells #[.int .i64 k, .string ⟨#[116]⟩, .slice (some ⟨W4.heap.size, 0, none⟩) 2 2] 24) = W6 := ⟨_, rfl⟩
  rw [hW6]
  have hb6 : Below W4.heap.size W4 W6 := by rw [← hW6]; exact ((Below.refl _ W4).alloc (Nat.le_refl _) _).alloc (by simp) _
  have hs6 : W6.heap.size = W4.heap.size + 2 := by rw [← hW6]; simp
  have hr6 : Blk W6 W4.heap.size 24 #[.int .i64 10, .string ⟨#[]⟩, .slice ao m cap, .int .i64 10, .string ⟨#[]⟩, .slice ab n cb] := by rw [← hW6]; exact (Blk.new W4 _ _).alloc _
  have hn6 : Blk W6 (W4.heap.size + 1) 24 #[.int .i64 k, .string ⟨#[116]⟩, .slice (some ⟨W4.heap.size, 0, none⟩) 2 2] := by
    rw [← hW6]
    simpa using Blk.new (W4.alloc (.cells #[.int .i64 10, .string ⟨#[]⟩, .slice ao m cap, .int .i64 10, .string ⟨#[]⟩, .slice ab n cb] 24)) 24 #[.int .i64 k, .string ⟨#[116]⟩, .slice (some ⟨W4.heap.size, 0, none⟩) 2 2]
  have hb16 : Below w1.heap.size w1 W6 := HB2.out.trans ((HB24.out.trans (hb6.mono HB24.out.size)).mono HB2.out.size)
  have hb36 : Below w3.heap.size w3 W6 := HB4.out.trans (hb6.mono HB4.out.size)
  have hbw6 : Below w.heap.size w W6 := HB1.out.trans (hb16.mono HB1.out.size)
  have hka6 : KidsAt (Lt W6.heap.size) W6 fa (.slice ao m cap) := (HKA.out.below hb16 (Nat.le_refl _)).mono hb16.size
  have hkb6 : KidsAt (Lt W6.heap.size) W6 fb (.slice ab n cb) := (HKB.out.below hb36 (Nat.le_refl _)).mono hb36.size
  have hkn6 : NdAt (Lt W6.heap.size) W6 (joinN k fa fb) (.agg #[.int .i64 k, .string ⟨#[116]⟩, .slice (some ⟨W4.heap.size, 0, none⟩) 2 2]) := by
    obtain ⟨aoo, capp, ea, hma, hra⟩ := hka6
    obtain ⟨abb, cbb, eb, hmb, hrb⟩ := hkb6
    rw [hm] at ea hma; rw [hn] at eb hmb
    cases ea; cases eb
    exact NdAt.mk ⟨_, 2, rfl, by unfold maxLen; simp [Fo.len], fun _ => ⟨W4.heap.size, 0, rfl, by show _ < _; omega, hr6.cell 0, hr6.cell 1, ⟨ao, cap, by rw [hm]; exact hr6.cell 2, by rw [hm]; exact hma, hra⟩, hr6.cell 3, hr6.cell 4, ⟨ab, cb, by rw [hn]; exact hr6.cell 5, by rw [hn]; exact hmb, hrb⟩, trivial⟩⟩
  have hS6 : CS W6 w1.heap.size w3.heap.size (W4.heap.size + 1) W4.heap.size m n cap cb ao ab k W6 := by
    have ha := HN24.out.own hb6
    have hb := HN4.out.own hb6
    exact ⟨⟨ha.cell 0, ha.cell 1, ha.cell 2, hb.cell 0, hb.cell 1, hb.cell 2, hn6.cell 0, hn6.cell 1, hn6.cell 2⟩, Below.refl _ _⟩
  have hT6 := HT.out.below hbw6
  have hall : ∀ W, Below W6.heap.size W6 W → NdAt (Lt W.heap.size) W ⟨10, ⟨#[]⟩, fa⟩ (.agg #[.int .i64 10, .string ⟨#[]⟩, .slice ao m cap]) ∧ NdAt (Lt W.heap.size) W ⟨10, ⟨#[]⟩, fb⟩ (.agg #[.int .i64 10, .string ⟨#[]⟩, .slice ab n cb]) ∧ NdAt (Lt W.heap.size) W (joinN k fa fb) (.agg #[.int .i64 k, .string ⟨#[116]⟩, .slice (some ⟨W4.heap.size, 0, none⟩) 2 2]) ∧ Tabs T W ∧ Below w.heap.size w W := fun W hb =>
    ⟨(NdAt.mk (hka6.below hb (Nat.le_refl _))).mono hb.size, (NdAt.mk (hkb6.below hb (Nat.le_refl _))).mono hb.size, (hkn6.below hb (Nat.le_refl _)).mono hb.size, hT6.below hb, hbw6.trans (hb.mono hbw6.size)⟩
  have hwj : (joinN k fa fb).weight ≤ 500 := by
    have h1 := hna.2; have h2 := hnb.2
    simp only [Nd.weight, Fo.weight] at h1 h2 ⊢
    have e1 : (⟨#[116]⟩ : ByteArray).size = 1 := rfl
    have e2 : (⟨#[]⟩ : ByteArray).size = 0 := rfl
    omega
  have hkj : (joinN k fa fb).Kd := ⟨⟨by show _ ≤ k; omega, by show k ≤ _; omega⟩, ⟨by omega, by omega⟩, hna.1.kd.2, ⟨by omega, by omega⟩, hnb.1.kd.2, trivial⟩
  have hk0d : (⟨k, ⟨#[116]⟩, .nil⟩ : Nd).Kd := ⟨⟨by show _ ≤ k; omega, by show k ≤ _; omega⟩, trivial⟩
  obtain ⟨SA, hSA⟩ : ∃ SA, showB T ⟨10, ⟨#[]⟩, fa⟩ = SA := ⟨_, rfl⟩
  obtain ⟨SB, hSB⟩ : ∃ SB, showB T ⟨10, ⟨#[]⟩, fb⟩ = SB := ⟨_, rfl⟩
  obtain ⟨S0, hS0⟩ : ∃ S0, showB T ⟨k, ⟨#[116]⟩, .nil⟩ = S0 := ⟨_, rfl⟩
  obtain ⟨SN, hSN⟩ : ∃ SN, showB T (joinN k fa fb) = SN := ⟨_, rfl⟩
  have hzA : SA.size ≤ 10000 := by rw [← hSA]; exact Nat.le_trans (showB_size T _ hna.1.kd) (by have := hna.2; omega)
  have hzB : SB.size ≤ 10000 := by rw [← hSB]; exact Nat.le_trans (showB_size T _ hnb.1.kd) (by have := hnb.2; omega)
  have hz0 : S0.size ≤ 10000 := by rw [← hS0]; exact Nat.le_trans (showB_size T _ hk0d) (by simp [Nd.weight, Fo.weight, ByteArray.size])
  have hz1 : 1 ≤ S0.size := by rw [← hS0]; show 1 ≤ ((⟨k, ⟨#[116]⟩, .nil⟩ : Nd).show T).length; simp [Nd.show]; omega
  have hstr := strs hSA hSB hS0 hSN
  have hcn : (joinN k fa fb).count = (⟨10, ⟨#[]⟩, fa⟩ : Nd).count + (⟨10, ⟨#[]⟩, fb⟩ : Nd).count + 1 := by simp only [Nd.count, Fo.count]; omega
  have hdn : (joinN k fa fb).deep = max (⟨10, ⟨#[]⟩, fa⟩ : Nd).deep (⟨10, ⟨#[]⟩, fb⟩ : Nd).deep + 1 := by simp only [Nd.deep, Fo.deep]; omega
  have hca := Nat.le_trans (Nd.count_le ⟨10, ⟨#[]⟩, fa⟩) hna.2
  have hcb := Nat.le_trans (Nd.count_le ⟨10, ⟨#[]⟩, fb⟩) hnb.2
  have hcj := Nat.le_trans (Nd.count_le (joinN k fa fb)) hwj
  have hda := Nat.le_trans (Nd.deep_le ⟨10, ⟨#[]⟩, fa⟩) hca
  have hdb := Nat.le_trans (Nd.deep_le ⟨10, ⟨#[]⟩, fb⟩) hcb
  have hsA : ∀ (W : World), Below W6.heap.size W6 W → Calls Tryd.prog 22 #[.agg #[.int .i64 10, .string ⟨#[]⟩, .slice ao m cap]] W fun e w' => e = .returned (.string SA) ∧ Below W.heap.size W w' := fun W h => by rw [← hSA]; exact show_calls T _ (by have := hna.2; omega) hna.1.kd W (hall W h).2.2.2.1 _ (hall W h).1
  have hsB : ∀ (W : World), Below W6.heap.size W6 W → Calls Tryd.prog 22 #[.agg #[.int .i64 10, .string ⟨#[]⟩, .slice ab n cb]] W fun e w' => e = .returned (.string SB) ∧ Below W.heap.size W w' := fun W h => by rw [← hSB]; exact show_calls T _ (by have := hnb.2; omega) hnb.1.kd W (hall W h).2.2.2.1 _ (hall W h).2.1
  have hsN : ∀ (W : World), Below W6.heap.size W6 W → Calls Tryd.prog 22 #[.agg #[.int .i64 k, .string ⟨#[116]⟩, .slice (some ⟨W4.heap.size, 0, none⟩) 2 2]] W fun e w' => e = .returned (.string SN) ∧ Below W.heap.size W w' := fun W h => by rw [← hSN]; exact show_calls T _ (by omega) hkj W (hall W h).2.2.2.1 _ (hall W h).2.2.1
  have hs0 : Calls Tryd.prog 22 #[.agg #[.int .i64 k, .string ⟨#[116]⟩, .slice none 0 0]] W6 fun e w' => e = .returned (.string S0) ∧ Below W6.heap.size W6 w' := by
    rw [← hS0]; exact show_calls T ⟨k, ⟨#[116]⟩, .nil⟩ (by simp [Nd.weight, Fo.weight, ByteArray.size]) hk0d W6 hT6 _ (leaf_at _ _ _ _)
  clear a0 a1 a2 b0 b1 b2 hSA hSB hS0 hSN hb6 hs6 hr6 hn6 hb16 hb36 hbw6 hka6 hkb6 hkn6 hT6 hW6
  have HALL := Lib.hid hall; have HS6 := Lib.hid hS6; have HWJ := Lib.hid hwj; have HKJ := Lib.hid hkj; have HSA := Lib.hid hsA; have HSB := Lib.hid hsB; have HSN := Lib.hid hsN; have HS0 := Lib.hid hs0; have HSTR := Lib.hid hstr; have HCN := Lib.hid hcn; have HDN := Lib.hid hdn; have HNA := Lib.hid hna; have HNB := Lib.hid hnb
  clear hall hS6 hwj hkj hsA hsB hsN hs0 hstr hcn hdn hna hnb
  go_wp2_with fail
  refine HS0.out.mono ?_
  rintro e w7 ⟨rfl, hb7⟩
  have hS7 := HS6.out.more hb7
  have HS7 := Lib.hid hS7
  clear hb7 hS7
  have hne : decide ((S0.size : Int) = 0) = false := decide_eq_false (by omega)
  go_upto_region 7 with fail
  have kn : ∀ {u : World}, CS W6 w1.heap.size w3.heap.size (W4.heap.size + 1) W4.heap.size m n cap cb ao ab k u → Calls Tryd.prog 10 #[] u fun e w' => e = .returned (.bool true) ∧ Below u.heap.size u w' := fun h => known_calls T _ (HALL.out _ h.2).2.2.2.1
  have s1 : ∀ {u : World}, CS W6 w1.heap.size w3.heap.size (W4.heap.size + 1) W4.heap.size m n cap cb ao ab k u → Calls Tryd.prog 22 #[.agg #[.int .i64 10, .string ⟨#[]⟩, .slice ao m cap]] u fun e w' => e = .returned (.string SA) ∧ Below u.heap.size u w' := fun h => HSA.out _ h.2
  have s2 : ∀ {u : World}, CS W6 w1.heap.size w3.heap.size (W4.heap.size + 1) W4.heap.size m n cap cb ao ab k u → Calls Tryd.prog 22 #[.agg #[.int .i64 10, .string ⟨#[]⟩, .slice ab n cb]] u fun e w' => e = .returned (.string SB) ∧ Below u.heap.size u w' := fun h => HSB.out _ h.2
  have s3 : ∀ {u : World}, CS W6 w1.heap.size w3.heap.size (W4.heap.size + 1) W4.heap.size m n cap cb ao ab k u → Calls Tryd.prog 22 #[.agg #[.int .i64 k, .string ⟨#[116]⟩, .slice (some ⟨W4.heap.size, 0, none⟩) 2 2]] u fun e w' => e = .returned (.string SN) ∧ Below u.heap.size u w' := fun h => HSN.out _ h.2
  obtain ⟨ca, hca'⟩ : ∃ ca, (⟨10, ⟨#[]⟩, fa⟩ : Nd).count = ca := ⟨_, rfl⟩
  obtain ⟨cc, hcb'⟩ : ∃ cc, (⟨10, ⟨#[]⟩, fb⟩ : Nd).count = cc := ⟨_, rfl⟩
  obtain ⟨da, hda'⟩ : ∃ da, (⟨10, ⟨#[]⟩, fa⟩ : Nd).deep = da := ⟨_, rfl⟩
  obtain ⟨db, hdb'⟩ : ∃ db, (⟨10, ⟨#[]⟩, fb⟩ : Nd).deep = db := ⟨_, rfl⟩
  have c1 : ∀ {u : World}, CS W6 w1.heap.size w3.heap.size (W4.heap.size + 1) W4.heap.size m n cap cb ao ab k u → Calls Tryd.prog 20 #[.agg #[.int .i64 10, .string ⟨#[]⟩, .slice ao m cap]] u fun e w' => e = .returned (.int .i64 (ca : Int)) ∧ Below u.heap.size u w' := fun h => by rw [← hca']; exact count_calls _ (by have := Nat.le_trans (Nd.count_le _) HNA.out.2; omega) _ _ (HALL.out _ h.2).1
  have c2 : ∀ {u : World}, CS W6 w1.heap.size w3.heap.size (W4.heap.size + 1) W4.heap.size m n cap cb ao ab k u → Calls Tryd.prog 20 #[.agg #[.int .i64 10, .string ⟨#[]⟩, .slice ab n cb]] u fun e w' => e = .returned (.int .i64 (cc : Int)) ∧ Below u.heap.size u w' := fun h => by rw [← hcb']; exact count_calls _ (by have := Nat.le_trans (Nd.count_le _) HNB.out.2; omega) _ _ (HALL.out _ h.2).2.1
  have c3 : ∀ {u : World}, CS W6 w1.heap.size w3.heap.size (W4.heap.size + 1) W4.heap.size m n cap cb ao ab k u → Calls Tryd.prog 20 #[.agg #[.int .i64 k, .string ⟨#[116]⟩, .slice (some ⟨W4.heap.size, 0, none⟩) 2 2]] u fun e w' => e = .returned (.int .i64 ((ca : Int) + (cc : Int) + 1)) ∧ Below u.heap.size u w' := fun h => by
    have := count_calls _ (Nat.le_trans (Nat.le_trans (Nd.count_le _) HWJ.out) (by omega)) _ _ (HALL.out _ h.2).2.2.1
    rw [HCN.out, hca', hcb'] at this
    rw [show ((ca : Int) + (cc : Int) + 1) = ((ca + cc + 1 : Nat) : Int) by omega]
    exact this
  have d1 : ∀ {u : World}, CS W6 w1.heap.size w3.heap.size (W4.heap.size + 1) W4.heap.size m n cap cb ao ab k u → Calls Tryd.prog 23 #[.agg #[.int .i64 10, .string ⟨#[]⟩, .slice ao m cap]] u fun e w' => e = .returned (.int .i64 (da : Int)) ∧ Below u.heap.size u w' := fun h => by rw [← hda']; exact deep_calls _ (by have := Nat.le_trans (Nd.count_le _) HNA.out.2; omega) _ _ (HALL.out _ h.2).1
  have d2 : ∀ {u : World}, CS W6 w1.heap.size w3.heap.size (W4.heap.size + 1) W4.heap.size m n cap cb ao ab k u → Calls Tryd.prog 23 #[.agg #[.int .i64 10, .string ⟨#[]⟩, .slice ab n cb]] u fun e w' => e = .returned (.int .i64 (db : Int)) ∧ Below u.heap.size u w' := fun h => by rw [← hdb']; exact deep_calls _ (by have := Nat.le_trans (Nd.count_le _) HNB.out.2; omega) _ _ (HALL.out _ h.2).2.1
  have d3 : ∀ {u : World}, CS W6 w1.heap.size w3.heap.size (W4.heap.size + 1) W4.heap.size m n cap cb ao ab k u → Calls Tryd.prog 23 #[.agg #[.int .i64 k, .string ⟨#[116]⟩, .slice (some ⟨W4.heap.size, 0, none⟩) 2 2]] u fun e w' => e = .returned (.int .i64 (max (da : Int) (db : Int) + 1)) ∧ Below u.heap.size u w' := fun h => by
    have := deep_calls _ (Nat.le_trans (Nat.le_trans (Nd.count_le _) HWJ.out) (by omega)) _ _ (HALL.out _ h.2).2.2.1
    rw [HDN.out, hda', hdb'] at this
    rw [show (max (da : Int) (db : Int) + 1) = ((max da db + 1 : Nat) : Int) by omega]
    exact this
  have cp : ∀ {u : World}, CS W6 w1.heap.size w3.heap.size (W4.heap.size + 1) W4.heap.size m n cap cb ao ab k u → Calls Tryd.prog 21 #[.agg #[.int .i64 k, .string ⟨#[116]⟩, .slice (some ⟨W4.heap.size, 0, none⟩) 2 2]] u fun e w' => ∃ v, e = .returned v ∧ NdAt (Lt w'.heap.size) w' (joinN k fa fb) v ∧ Below u.heap.size u w' := fun {u} h => by
    refine (copy_calls _ (by have := HWJ.out; omega) u _ (HALL.out _ h.2).2.2.1).mono ?_
    rintro e w' ⟨v, rfl, hc⟩
    obtain ⟨s, rfl, hbd, hb⟩ := hc
    exact ⟨_, rfl, NdAt.mk hbd.kids.toLt, hb⟩
  have sm : ∀ {u : World} {v : Value}, CS W6 w1.heap.size w3.heap.size (W4.heap.size + 1) W4.heap.size m n cap cb ao ab k u → NdAt (Lt u.heap.size) u (joinN k fa fb) v → Calls Tryd.prog 25 #[v, .agg #[.int .i64 k, .string ⟨#[116]⟩, .slice (some ⟨W4.heap.size, 0, none⟩) 2 2]] u fun e w' => e = .returned (.bool true) ∧ Below u.heap.size u w' := fun {u v} h hv => by
    have := rsame_ok (joinN k fa fb) (joinN k fa fb) u v _ hv (HALL.out _ h.2).2.2.1
    rw [Nd.same_self] at this
    exact this
  have q1 : (ca : Int) ≤ 200 := by have := Nat.le_trans (Nd.count_le _) HNA.out.2; omega
  have q2 : (cc : Int) ≤ 200 := by have := Nat.le_trans (Nd.count_le _) HNB.out.2; omega
  have q3 : (da : Int) ≤ 200 := by have := Nat.le_trans (Nd.deep_le _) (Nat.le_trans (Nd.count_le _) HNA.out.2); omega
  have q4 : (db : Int) ≤ 200 := by have := Nat.le_trans (Nd.deep_le _) (Nat.le_trans (Nd.count_le _) HNB.out.2); omega
  have q5 : (0 : Int) ≤ ca := by omega
  have q6 : (0 : Int) ≤ cc := by omega
  have q7 : (0 : Int) ≤ max (da : Int) (db : Int) := by omega
  have q8 : max (da : Int) (db : Int) ≤ 200 := by omega
  have i64w : ∀ x : Int, -9223372036854775808 ≤ x → x ≤ 9223372036854775807 → IntKind.i64.wrap x = x := fun x h1 h2 => by
    simp [IntKind.wrap, IntKind.bits, IntKind.signed]; omega
  have r1 : IntKind.i64.wrap ((ca : Int) + (cc : Int)) = (ca : Int) + (cc : Int) := i64w _ (by omega) (by omega)
  have r2 : IntKind.i64.wrap ((ca : Int) + (cc : Int) + 1) = (ca : Int) + (cc : Int) + 1 := i64w _ (by omega) (by omega)
  have r3 : IntKind.i64.wrap (max (da : Int) (db : Int) + 1) = max (da : Int) (db : Int) + 1 := i64w _ (by omega) (by omega)
  obtain ⟨z, hz⟩ : ∃ z, S0.size - 1 = z := ⟨_, rfl⟩
  have r4 : (S0.size : Int) - 1 = (z : Int) := by omega
  have r5 : IntKind.i64.wrap (z : Int) = (z : Int) := i64w _ (by omega) (by omega)
  have r6 : (z : Int) ≤ (S0.size : Int) := by omega
  have r7 : (0 : Int) ≤ (z : Int) := by omega
  have r8 : z ≤ S0.size := by omega
  have hstr := HSTR.out
  rw [hz] at hstr
  obtain ⟨X1, hX1⟩ : ∃ X1, S0.extract 0 z = X1 := ⟨_, rfl⟩
  have hz1 : X1.size = z := by rw [← hX1, ByteArray.size_extract]; omega
  obtain ⟨X2, hX2⟩ : ∃ X2, X1 ++ SA = X2 := ⟨_, rfl⟩
  have hz2 : X2.size = z + SA.size := by rw [← hX2, ByteArray.size_append, hz1]
  obtain ⟨X3, hX3⟩ : ∃ X3, X2 ++ SB = X3 := ⟨_, rfl⟩
  have hz3 : X3.size = z + SA.size + SB.size := by rw [← hX3, ByteArray.size_append, hz2]
  obtain ⟨X4, hX4⟩ : ∃ X4, X3 ++ ⟨#[41]⟩ = X4 := ⟨_, rfl⟩
  rw [hX1, hX2, hX3, hX4] at hstr
  subst hstr
  have g1 : ¬ (9223372036854775807 < X1.size + SA.size) := by omega
  have g2 : ¬ (9223372036854775807 < X2.size + SB.size) := by omega
  have g3 : ¬ (9223372036854775807 < X3.size + 1) := by omega
  have g4 : ¬ (9223372036854775807 < X3.size + (⟨#[41]⟩ : ByteArray).size) := by show ¬ (_ < _ + 1); omega
  clear hz1 hz2 hz3
  obtain ⟨⟨x0, x1, x2, y0, y1, y2, z0, z1, z2⟩, _⟩ := id HS7.out
  have hS7 := HS7.out
  go_region_held3 (fun u => (u.cell? ⟨w1.heap.size, 0, none⟩ = some (.int .i64 10) ∧ u.cell? ⟨w1.heap.size, 1, none⟩ = some (.string ⟨#[]⟩) ∧ u.cell? ⟨w1.heap.size, 2, none⟩ = some (.slice ao m cap) ∧ u.cell? ⟨w3.heap.size, 0, none⟩ = some (.int .i64 10) ∧ u.cell? ⟨w3.heap.size, 1, none⟩ = some (.string ⟨#[]⟩) ∧ u.cell? ⟨w3.heap.size, 2, none⟩ = some (.slice ab n cb) ∧ u.cell? ⟨W4.heap.size + 1, 0, none⟩ = some (.int .i64 k) ∧ u.cell? ⟨W4.heap.size + 1, 1, none⟩ = some (.string ⟨#[116]⟩) ∧ u.cell? ⟨W4.heap.size + 1, 2, none⟩ = some (.slice (some ⟨W4.heap.size, 0, none⟩) 2 2)) ∧ Below W6.heap.size W6 u)
    (first
      | assumption
      | exact CS.more hS7 ((Below.refl _ _).drew)
      | exact CS.more (by assumption) (by assumption))
    (first
      | (go_at_call 10; with_reducible refine (kn (by assumption)).mono ?_; rintro _ u1 ⟨rfl, hbn⟩; have hcs := CS.more (by assumption) hbn)
      | (go_at_call 20; with_reducible refine (c3 (by assumption)).mono ?_; rintro _ u1 ⟨rfl, hbn⟩; have hcs := CS.more (by assumption) hbn)
      | (go_at_call 20; with_reducible refine (c1 (by assumption)).mono ?_; rintro _ u1 ⟨rfl, hbn⟩; have hcs := CS.more (by assumption) hbn)
      | (go_at_call 20; with_reducible refine (c2 (by assumption)).mono ?_; rintro _ u1 ⟨rfl, hbn⟩; have hcs := CS.more (by assumption) hbn)
      | (go_at_call 23; with_reducible refine (d3 (by assumption)).mono ?_; rintro _ u1 ⟨rfl, hbn⟩; have hcs := CS.more (by assumption) hbn)
      | (go_at_call 23; with_reducible refine (d1 (by assumption)).mono ?_; rintro _ u1 ⟨rfl, hbn⟩; have hcs := CS.more (by assumption) hbn)
      | (go_at_call 23; with_reducible refine (d2 (by assumption)).mono ?_; rintro _ u1 ⟨rfl, hbn⟩; have hcs := CS.more (by assumption) hbn)
      | (go_at_call 22; with_reducible refine (s3 (by assumption)).mono ?_; rintro _ u1 ⟨rfl, hbn⟩; have hcs := CS.more (by assumption) hbn)
      | (go_at_call 22; with_reducible refine (s1 (by assumption)).mono ?_; rintro _ u1 ⟨rfl, hbn⟩; have hcs := CS.more (by assumption) hbn)
      | (go_at_call 22; with_reducible refine (s2 (by assumption)).mono ?_; rintro _ u1 ⟨rfl, hbn⟩; have hcs := CS.more (by assumption) hbn)
      | (go_at_call 21; with_reducible refine (cp (by assumption)).mono ?_; rintro _ u2 ⟨v2, rfl, hnd2, hbn2⟩; have hcs := CS.more (by assumption) hbn2)
      | (go_at_call 25; with_reducible refine (sm (by assumption) (by assumption)).mono ?_; rintro _ u3 ⟨rfl, hbn3⟩; have hcs := CS.more (by assumption) hbn3))
  rename_i hHeld
  have hfin := (HALL.out _ hHeld.2).2.2.2.2
  go_wp2_with fail
  go_ret
  exact ⟨rfl, hfin⟩

set_option maxRecDepth 100000 in
theorem lifted (os : Os) (started : os.Started) (H : Type) (enc : TypeId × Value → H) :
    ReturnsInHanded {} Tryd.checked os 8 .any (fun w args => (Rows.nodeJoinSpec.pre enc Tryd.prog Tryd.f8 Rows.nodeJoinRow.domain false w args ∧ laidMetH Tryd.prog nd.laid w) ∧ sizedMet enc Tryd.prog Tryd.f8 (OpenSpec.ofChange Rows.nodeJoinSpec) false w args) (Rows.nodeJoinSpec.post enc Tryd.prog Tryd.f8 false true false false) := by
  refine returnsInHanded_of_change_and (C := Tryd.checked) (X := fun w _ => laidMetH Tryd.prog nd.laid w) (fun _ _ _ hh h => h.of_heap hh) law.own started (by kernel_rfl) Tryd.func8
    (ChangeSpec.witness_shaped (enc := enc) (C := Tryd.checked) (os := os) (X := fun w _ => laidMetH Tryd.prog nd.laid w) false (World.laidAll Tryd.prog os nd.laid) #[.slice none 0 0, .slice none 0 0, .int .u8 0] 8 (World.laidAll_os _ _ _) (World.shaped_of_ZipB (by kernel_rfl) (by kernel_rfl)) (by kernel_rfl) (by kernel_rfl) (by kernel_rfl) (nd.laid_met os _)) ?_
  intro W base args ds gs before hval0 hW _ hsize0 hL _
  have hTb := nd.tabs_of_laid hL
  have hval : ∀ (j : Nat) t v, Tryd.f8.params[j]? = some t → args[j]? = some v → Value.okWide Tryd.prog W .any base t v := hval0
  have hW' := hW
  obtain ⟨p, q, hA0, hV, rfl, _, _⟩ := hW
  have hA : DataW.TrodAll enc Tryd.prog W 0 (fun _ => true) true Tryd.f8.params.toList args.toList ds p := hA0
  rw [Tryd.params8] at hA hval
  obtain ⟨v0, v1, v2, d0, d1, d2, p0, p1, p2, rfl, rfl, rfl, h0, h1, h2⟩ := trodAll_three hA
  obtain ⟨rfl, rfl⟩ := trodVars_none hV
  obtain ⟨bs0, hbs0⟩ := law.open_bytes (hval 0 26 v0 rfl rfl) h0
  obtain ⟨bs1, hbs1⟩ := law.open_bytes (hval 1 26 v1 rfl rfl) h1
  obtain ⟨k2, rfl, rfl, rfl, wk2⟩ := open_int Tryd.underlying5 (hval 2 5 v2 rfl rfl) h2
  clear hL
  refine (walk bs0 bs1 k2 (law.u8_wf wk2) W v0 v1 hbs0 hbs1 _ hTb).mono fun e W' ⟨he, hb⟩ => ⟨_, he, ?_⟩
  exact law.law_post rfl hW' rfl (by kernel_rfl) (by kernel_rfl) hb

/-- NodeJoin, for every input. -/
theorem holds : Rows.NodeJoinSaid :=
  OpenClaim.holds_of_wide 8 Tryd.f8 rfl rfl rfl rfl rfl rfl rfl ⟨rfl, rfl, rfl, rfl, rfl⟩ rfl rfl rfl rfl rfl (by kernel_rfl) Tryd.func8 (by kernel_rfl)
    (of_decide_eq_true (by kernel_rfl)) (by unfold Func.isWrapper; first | (rw [if_pos (by decide +kernel)]; kernel_rfl) | (rw [if_neg (by decide +kernel)]; exact ⟨rfl, rfl⟩))
    (fun os started H enc _ => lifted os started H enc)

/-- The tied card of NodeJoin. -/
theorem card : Rows.NodeJoinCardSaid :=
  Claim7.holds_tied_plain_at .later [] [.data, .data, .data, .data, .pinned, .pinned, .pinned, .pinned, .pinned, .pinned] true Rows.nodeJoinCard.stood.harness false
    holds (fun _ h => by cases h) (by kernel_rfl) (fun _ h => by cases h) nodeJoin_row_tie rfl ⟨rfl, rfl⟩ (by kernel_rfl) rfl
    (fun f fn hf hfn => by
      obtain rfl : f = 8 := Option.some.inj ((show Tryd.prog.funcNamed "subeditor/subeditorlaw07.NodeJoin" = some 8 by kernel_rfl).symm.trans hf) |>.symm
      obtain rfl : fn = Tryd.f8 := (Option.some.inj (Tryd.func8.symm.trans hfn)).symm
      exact ⟨by kernel_rfl, fun j t ht => by
        rw [Tryd.params8] at ht
        have hm := List.mem_toArray.1 (Array.mem_of_getElem? ht)
        have hall : (Tryd.f8.params.toList.all fun u => !Tryd.prog.wantsStandIn u) = true := by kernel_rfl
        rw [show Tryd.f8.params.toList = _ from congrArg Array.toList Tryd.params8] at hall
        exact (show Tryd.prog.wantsStandIn t = false by simpa using List.all_eq_true.1 hall t hm)⟩)
    (by kernel_rfl)
end Go.Proofs.YtbdkemgfdghbkaaDoor.nodeJoin
