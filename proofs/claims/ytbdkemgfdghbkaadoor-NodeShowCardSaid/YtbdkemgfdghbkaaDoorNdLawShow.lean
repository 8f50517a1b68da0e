/-
  subeditorlaw07.NodeShow: for every input it returns true, and the arguments read as they did. No condition.
-/
import Derived.Test.YtbdkemgfdghbkaaDoorNdLaw
import Derived.Test.YtbdkemgfdghbkaaDoorNdInj
import Derived.Deep.RegionHeld3
import Derived.Test.YtbdkemgfdghbkaaDoorTie
import Derived.Test.YtbdkemgfdghbkaaDoorCards
namespace Go.Proofs.YtbdkemgfdghbkaaDoor.nodeShow
open Go.RowKit Go.ChangeShapes Go.WideShapes Go.ChangeAt Go.Shelf Go.Lib sx ed law nd
set_option linter.unusedVariables false

def showB (T : PrintTabs) (x : Nd) : ByteArray := ⟨(x.show T).toArray⟩
theorem showB_list (T : PrintTabs) (x : Nd) : (showB T x).toList = x.show T := by
  rw [ByteArray.toList_eq]
  rfl
theorem show_same {T : PrintTabs} {x y : Nd} (hx : x.Nice) (hy : y.Nice) : ((showB T x).toList == (showB T y).toList) = x.same y := by
  rw [showB_list, showB_list]
  cases h : x.same y with
  | true => rw [Nd.same_iff.1 h]; simp
  | false =>
    simp only [beq_eq_false_iff_ne, ne_eq]
    intro e
    have := Nd.show_inj hx hy e
    rw [this, Nd.same_self] at h
    cases h
def lg (x : Nd) (k : Nat) : Nat := (x.paths.take k).foldl (fun m p => max m p.length) 0
theorem lg_next {x : Nd} {k : Nat} {p : List Nat} (h : x.paths[k]? = some p) : lg x (k + 1) = max (lg x k) p.length := by
  have hk := (List.getElem?_eq_some_iff.1 h).1
  unfold lg
  rw [List.take_succ_eq_append_getElem hk, List.foldl_append]
  simp [(List.getElem?_eq_some_iff.1 h).2]
theorem lg_all (x : Nd) : lg x x.count + 1 = x.deep := by
  unfold lg
  rw [List.take_of_length_le (by rw [Nd.paths_len]; exact Nat.le_refl _)]
  exact Nd.paths_long x
abbrev CS (W6 : World) (ba bb m n cap cb : Nat) (ao ab : Option Addr) (u : World) : Prop :=
  (u.cell? ⟨ba, 0, none⟩ = some (.int .i64 10) ∧ u.cell? ⟨ba, 1, none⟩ = some (.string ⟨#[]⟩) ∧ u.cell? ⟨ba, 2, none⟩ = some (.slice ao m cap) ∧ u.cell? ⟨bb, 0, none⟩ = some (.int .i64 10) ∧ u.cell? ⟨bb, 1, none⟩ = some (.string ⟨#[]⟩) ∧ u.cell? ⟨bb, 2, none⟩ = some (.slice ab n cb)) ∧ Below W6.heap.size W6 u
theorem CS.more {W6 : World} {ba bb m n cap cb : Nat} {ao ab : Option Addr} {u v : World} (h : CS W6 ba bb m n cap cb ao ab u) (hb : Below u.heap.size u v) : CS W6 ba bb m n cap cb ao ab v := by
  obtain ⟨⟨h1, h2, h3, h4, h5, h6⟩, h0⟩ := h
  have q : ∀ {p : Addr} {x : Value}, u.cell? p = some x → v.cell? p = some x := fun hp => (hb.cell (World.block_lt_of_cell? u _ hp)).trans hp
  exact ⟨⟨q h1, q h2, q h3, q h4, q h5, q h6⟩, h0.trans (hb.mono h0.size)⟩

set_option maxRecDepth 100000 in
set_option maxHeartbeats 8000000 in
theorem walk (bs cs : List Int) (w : World) (u v : Value) (hu : BytesAt w u bs) (hv : BytesAt w v cs) (T : PrintTabs) (hT : Tabs T w) :
    Calls Tryd.prog 6 #[u, v] w fun e w' => e = .returned (.bool true) ∧ Below w.heap.size w w' := by
  have hna := treeN_nice bs
  have hnb := treeN_nice cs
  obtain ⟨fa, hfa⟩ : ∃ fa, (treeN bs).kids = fa := ⟨_, rfl⟩
  obtain ⟨fb, hfb⟩ : ∃ fb, (treeN cs).kids = fb := ⟨_, rfl⟩
  rw [show treeN bs = ⟨10, ⟨#[]⟩, fa⟩ by rw [← hfa]; rfl] at hna
  rw [show treeN cs = ⟨10, ⟨#[]⟩, fb⟩ by rw [← hfb]; rfl] at hnb
  have hta := tree_calls bs w u hu
  rw [hfa] at hta
  have HT := Lib.hid hT; have HU := Lib.hid hu; have HV := Lib.hid hv; have HTA := Lib.hid hta; have HFB := Lib.hid hfb
  clear hT hu hv hta hfa hfb
  go_enter Tryd.func6, Tryd.ntmps6
  go_wp2_with fail
  refine HTA.out.mono ?_
  rintro e w1 ⟨s, rfl, hbd, hb1⟩
  obtain ⟨ao, cap, rfl⟩ := hbd.slice
  obtain ⟨m, hm⟩ : ∃ m, fa.len = m := ⟨_, rfl⟩
  rw [hm]
  have hka := hbd.kids.toLt
  rw [hm] at hka
  have HKA := Lib.hid hka; have HB1 := Lib.hid hb1
  clear hka hbd hb1
  go_upto_region 2 with fail
  obtain ⟨W2, hW2⟩ : ∃ W2, w1.alloc (.cells #[.int .i64 10, .string ⟨#[]⟩, .slice ao m cap] 24) = W2 := ⟨_, rfl⟩
  rw [hW2]
  have hb2 : Below w1.heap.size w1 W2 := by rw [← hW2]; exact (Below.refl _ w1).alloc (Nat.le_refl _) _
  have hn2 : Blk W2 w1.heap.size 24 #[.int .i64 10, .string ⟨#[]⟩, .slice ao m cap] := by rw [← hW2]; exact Blk.new w1 _ _
  have hbw2 := HB1.out.trans (hb2.mono HB1.out.size)
  have htb := tree_calls cs W2 v (HV.out.below hbw2)
  rw [HFB.out] at htb
  have HB2 := Lib.hid hb2; have HN2 := Lib.hid hn2; have HBW2 := Lib.hid hbw2; have HTB := Lib.hid htb
  clear hW2 hb2 hn2 hbw2 htb
  go_wp2_with fail
  refine HTB.out.mono ?_
  rintro e w3 ⟨s, rfl, hbd, hb3⟩
  obtain ⟨ab, cb, rfl⟩ := hbd.slice
  obtain ⟨n, hn⟩ : ∃ n, fb.len = n := ⟨_, rfl⟩
  rw [hn]
  have hkb := hbd.kids.toLt
  rw [hn] at hkb
  have HKB := Lib.hid hkb; have HB3 := Lib.hid hb3
  clear hkb hbd hb3
  go_upto_region 3 with fail
  obtain ⟨W6, hW4⟩ : ∃ W4, w3.alloc (.cells #[.int .i64 10, .string ⟨#[]⟩, .slice ab n cb] 24) = W4 := ⟨_, rfl⟩
  rw [hW4]
  have hb36 : Below w3.heap.size w3 W6 := by rw [← hW4]; exact (Below.refl _ w3).alloc (Nat.le_refl _) _
  have hn4 : Blk W6 w3.heap.size 24 #[.int .i64 10, .string ⟨#[]⟩, .slice ab n cb] := by rw [← hW4]; exact Blk.new w3 _ _
  have hb24 : Below W2.heap.size W2 W6 := HB3.out.trans (hb36.mono HB3.out.size)
  have hn24 := HN2.out.own hb24
  have hb16 : Below w1.heap.size w1 W6 := HB2.out.trans (hb24.mono HB2.out.size)
  have hbw6 : Below w.heap.size w W6 := HB1.out.trans (hb16.mono HB1.out.size)
  have hka6 : KidsAt (Lt W6.heap.size) W6 fa (.slice ao m cap) := (HKA.out.below hb16 (Nat.le_refl _)).mono hb16.size
  have hkb6 : KidsAt (Lt W6.heap.size) W6 fb (.slice ab n cb) := (HKB.out.below hb36 (Nat.le_refl _)).mono hb36.size
  have hS6 : CS W6 w1.heap.size w3.heap.size m n cap cb ao ab W6 := ⟨⟨hn24.cell 0, hn24.cell 1, hn24.cell 2, hn4.cell 0, hn4.cell 1, hn4.cell 2⟩, Below.refl _ _⟩
  have hT6 := HT.out.below hbw6
  have hall : ∀ W, Below W6.heap.size W6 W → NdAt (Lt W.heap.size) W ⟨10, ⟨#[]⟩, fa⟩ (.agg #[.int .i64 10, .string ⟨#[]⟩, .slice ao m cap]) ∧ NdAt (Lt W.heap.size) W ⟨10, ⟨#[]⟩, fb⟩ (.agg #[.int .i64 10, .string ⟨#[]⟩, .slice ab n cb]) ∧ Tabs T W ∧ Below w.heap.size w W := fun W hb =>
    ⟨(NdAt.mk (hka6.below hb (Nat.le_refl _))).mono hb.size, (NdAt.mk (hkb6.below hb (Nat.le_refl _))).mono hb.size, hT6.below hb, hbw6.trans (hb.mono hbw6.size)⟩
  obtain ⟨x, hx⟩ : ∃ x, (⟨10, ⟨#[]⟩, fa⟩ : Nd) = x := ⟨_, rfl⟩
  obtain ⟨y, hy⟩ : ∃ y, (⟨10, ⟨#[]⟩, fb⟩ : Nd) = y := ⟨_, rfl⟩
  rw [hx] at hna
  rw [hy] at hnb
  simp only [hx, hy] at hall
  obtain ⟨SA, hSA⟩ : ∃ SA, showB T x = SA := ⟨_, rfl⟩
  obtain ⟨SB, hSB⟩ : ∃ SB, showB T y = SB := ⟨_, rfl⟩
  obtain ⟨bb, hbb⟩ : ∃ bb, x.same y = bb := ⟨_, rfl⟩
  have hq : (SA.toList == SB.toList) = bb := by rw [← hSA, ← hSB, ← hbb]; exact show_same hna.1 hnb.1
  obtain ⟨c, hc⟩ : ∃ c, x.count = c := ⟨_, rfl⟩
  have hc2 : c ≤ 200 := by rw [← hc]; exact Nat.le_trans (Nd.count_le x) hna.2
  have hc1 : 1 ≤ c := by rw [← hc]; simp [Nd.count]
  have hd2 : x.deep ≤ 200 := by have := Nd.deep_le x; omega
  have hsA : ∀ (W : World), Below W6.heap.size W6 W → Calls Tryd.prog 22 #[.agg #[.int .i64 10, .string ⟨#[]⟩, .slice ao m cap]] W fun e w' => e = .returned (.string SA) ∧ Below W.heap.size W w' := fun W h => by rw [← hSA]; exact show_calls T x (by have := hna.2; omega) hna.1.kd W (hall W h).2.2.1 _ (hall W h).1
  have hsB : ∀ (W : World), Below W6.heap.size W6 W → Calls Tryd.prog 22 #[.agg #[.int .i64 10, .string ⟨#[]⟩, .slice ab n cb]] W fun e w' => e = .returned (.string SB) ∧ Below W.heap.size W w' := fun W h => by rw [← hSB]; exact show_calls T y (by have := hnb.2; omega) hnb.1.kd W (hall W h).2.2.1 _ (hall W h).2.1
  have hpa := paths_calls x (by omega) W6 _ (hall W6 (Below.refl _ _)).1
  rw [hc] at hpa
  obtain ⟨⟨x0, x1, x2, y0, y1, y2⟩, _⟩ := id hS6
  have HALL := Lib.hid hall; have HS6 := Lib.hid hS6; have HSA := Lib.hid hsA; have HSB := Lib.hid hsB; have HNA := Lib.hid hna; have HNB := Lib.hid hnb; have HPA := Lib.hid hpa; have HQ := Lib.hid hq; have HC := Lib.hid hc; have HD2 := Lib.hid hd2; have HBB := Lib.hid hbb
  clear hall hS6 hsA hsB hna hnb hpa hq hc hd2 hbb hSA hSB hx hy hb36 hn4 hb24 hn24 hb16 hbw6 hka6 hkb6 hT6 hW4
  go_wp2_with fail
  refine HPA.out.mono ?_
  rintro e w7 ⟨v7, L, rfl, hown, hls, hb7⟩
  have hrow : ∃ gl cl, v7 = .slice (some ⟨gl, 0, none⟩) c cl ∧ c ≤ cl := by
    rcases hown.2 with ⟨_, h0⟩ | ⟨g, cp, cur, e, _, _, h4, _⟩
    · omega
    · exact ⟨g, cp, e, h4⟩
  obtain ⟨gl, cl, rfl, hcl⟩ := hrow
  have hS7 := HS6.out.more hb7
  have HOWN := Lib.hid hown; have HLS := Lib.hid hls; have HS7 := Lib.hid hS7
  clear hown hls hb7 hS7 x0 x1 x2 y0 y1 y2
  go_wp2_with fail
  go_loopw [8, 9] (fun g i wr => ∃ k : Nat, k ≤ c ∧ i = .int .i64 (k : Int) ∧ g = .int .i64 (lg x k : Int) ∧ wr = w7) (fun _ i _ => c - (RowKit.intOf i).toNat)
  case atStart => exact ⟨0, Nat.zero_le _, rfl, by simp [lg], rfl⟩
  case round =>
    obtain ⟨k, hk, rfl, rfl, rfl⟩ := hrel
    by_cases hlt : k < c
    · have hlt1 : (k : Int) < (c : Int) := by omega
      obtain ⟨p, hp⟩ : ∃ p, x.paths[k]? = some p := ⟨_, List.getElem?_eq_getElem (by rw [Nd.paths_len, HC.out]; exact hlt)⟩
      obtain ⟨cv, hcv, hci⟩ := HLS.out.2 k (ints p) (by rw [List.getElem?_map, hp]; rfl)
      obtain ⟨pa, pc, rfl, _⟩ := hci
      have hcell := HOWN.out.cells (g := gl) rfl k _ hcv
      rw [nd.addr_add, Nat.zero_add] at hcell
      rw [show (ints p).length = p.length by simp [ints]] at hcell
      have hnx := lg_next hp
      obtain ⟨a, ha⟩ : ∃ a, lg x k = a := ⟨_, rfl⟩
      obtain ⟨b, hb⟩ : ∃ b, p.length = b := ⟨_, rfl⟩
      rw [ha, hb] at hnx
      rw [hb] at hcell
      rw [ha]
      have HNX := Lib.hid hnx
      clear hp hcv hnx ha hb
      go_wp2_with fail
      exact ⟨⟨k + 1, hlt, by go_num, by rw [HNX.out]; congr 1; omega, trivial⟩, by simp [RowKit.intOf]; omega⟩
    · obtain rfl : k = c := by omega
      have hge : decide ((k : Int) < (k : Int)) = false := by simp
      have hlast := lg_all x
      rw [HC.out] at hlast
      obtain ⟨D, hD⟩ : ∃ D, lg x k = D := ⟨_, rfl⟩
      rw [hD] at hlast ⊢
      have hD2 : (D : Int) ≤ 200 := by have := HD2.out; omega
      have r1 : IntKind.i64.wrap ((D : Int) + 1) = (D : Int) + 1 := by simp [IntKind.wrap, IntKind.bits, IntKind.signed]; omega
      have HLAST := Lib.hid hlast
      clear hlt hk hD hlast
      go_upto_region 9 with fail
      have kn : ∀ {u : World}, CS W6 w1.heap.size w3.heap.size m n cap cb ao ab u → Calls Tryd.prog 10 #[] u fun e w' => e = .returned (.bool true) ∧ Below u.heap.size u w' := fun h => known_calls T _ (HALL.out _ h.2).2.2.1
      have s1 : ∀ {u : World}, CS W6 w1.heap.size w3.heap.size m n cap cb ao ab u → Calls Tryd.prog 22 #[.agg #[.int .i64 10, .string ⟨#[]⟩, .slice ao m cap]] u fun e w' => e = .returned (.string SA) ∧ Below u.heap.size u w' := fun h => HSA.out _ h.2
      have s2 : ∀ {u : World}, CS W6 w1.heap.size w3.heap.size m n cap cb ao ab u → Calls Tryd.prog 22 #[.agg #[.int .i64 10, .string ⟨#[]⟩, .slice ab n cb]] u fun e w' => e = .returned (.string SB) ∧ Below u.heap.size u w' := fun h => HSB.out _ h.2
      have c1 : ∀ {u : World}, CS W6 w1.heap.size w3.heap.size m n cap cb ao ab u → Calls Tryd.prog 20 #[.agg #[.int .i64 10, .string ⟨#[]⟩, .slice ao m cap]] u fun e w' => e = .returned (.int .i64 (k : Int)) ∧ Below u.heap.size u w' := fun h => by rw [← HC.out]; exact count_calls x (by rw [HC.out]; omega) _ _ (HALL.out _ h.2).1
      have d1 : ∀ {u : World}, CS W6 w1.heap.size w3.heap.size m n cap cb ao ab u → Calls Tryd.prog 23 #[.agg #[.int .i64 10, .string ⟨#[]⟩, .slice ao m cap]] u fun e w' => e = .returned (.int .i64 ((D : Int) + 1)) ∧ Below u.heap.size u w' := fun h => by
        have := deep_calls x (by rw [HC.out]; omega) _ _ (HALL.out _ h.2).1
        rw [← HLAST.out] at this
        rw [show ((D : Int) + 1) = ((D + 1 : Nat) : Int) by omega]
        exact this
      have sm : ∀ {u : World}, CS W6 w1.heap.size w3.heap.size m n cap cb ao ab u → Calls Tryd.prog 19 #[.agg #[.int .i64 10, .string ⟨#[]⟩, .slice ao m cap], .agg #[.int .i64 10, .string ⟨#[]⟩, .slice ab n cb]] u fun e w' => e = .returned (.bool bb) ∧ Below u.heap.size u w' := fun {u} h => by
        have := same_ok x y u _ _ (HALL.out _ h.2).1 (HALL.out _ h.2).2.1
        rw [HBB.out] at this
        exact this
      have hq := HQ.out
      obtain ⟨⟨x0, x1, x2, y0, y1, y2⟩, _⟩ := id HS7.out
      have hS7 := HS7.out
      go_region_held3 (fun u => (u.cell? ⟨w1.heap.size, 0, none⟩ = some (.int .i64 10) ∧ u.cell? ⟨w1.heap.size, 1, none⟩ = some (.string ⟨#[]⟩) ∧ u.cell? ⟨w1.heap.size, 2, none⟩ = some (.slice ao m cap) ∧ u.cell? ⟨w3.heap.size, 0, none⟩ = some (.int .i64 10) ∧ u.cell? ⟨w3.heap.size, 1, none⟩ = some (.string ⟨#[]⟩) ∧ u.cell? ⟨w3.heap.size, 2, none⟩ = some (.slice ab n cb)) ∧ Below W6.heap.size W6 u)
        (first
          | assumption
          | exact CS.more hS7 ((Below.refl _ _).drew)
          | exact CS.more (by assumption) (by assumption))
        (first
          | (go_at_call 10; with_reducible refine (kn (by assumption)).mono ?_; rintro _ u1 ⟨rfl, hbn⟩; have hcs := CS.more (by assumption) hbn)
          | (go_at_call 20; with_reducible refine (c1 (by assumption)).mono ?_; rintro _ u1 ⟨rfl, hbn⟩; have hcs := CS.more (by assumption) hbn)
          | (go_at_call 23; with_reducible refine (d1 (by assumption)).mono ?_; rintro _ u1 ⟨rfl, hbn⟩; have hcs := CS.more (by assumption) hbn)
          | (go_at_call 22; with_reducible refine (s1 (by assumption)).mono ?_; rintro _ u1 ⟨rfl, hbn⟩; have hcs := CS.more (by assumption) hbn)
          | (go_at_call 22; with_reducible refine (s2 (by assumption)).mono ?_; rintro _ u1 ⟨rfl, hbn⟩; have hcs := CS.more (by assumption) hbn)
          | (go_at_call 19; with_reducible refine (sm (by assumption)).mono ?_; rintro _ u3 ⟨rfl, hbn3⟩; have hcs := CS.more (by assumption) hbn3))
      rename_i hHeld
      have hfin := (HALL.out _ hHeld.2).2.2.2
      go_wp2_with fail
      go_ret
      exact ⟨rfl, hfin⟩

set_option maxRecDepth 100000 in
theorem lifted (os : Os) (started : os.Started) (H : Type) (enc : TypeId × Value → H) :
    ReturnsInHanded {} Tryd.checked os 6 .any (fun w args => (Rows.nodeShowSpec.pre enc Tryd.prog Tryd.f6 Rows.nodeShowRow.domain false w args ∧ laidMetH Tryd.prog nd.laid w) ∧ sizedMet enc Tryd.prog Tryd.f6 (OpenSpec.ofChange Rows.nodeShowSpec) false w args) (Rows.nodeShowSpec.post enc Tryd.prog Tryd.f6 false true false false) := by
  refine returnsInHanded_of_change_and (C := Tryd.checked) (X := fun w _ => laidMetH Tryd.prog nd.laid w) (fun _ _ _ hh h => h.of_heap hh) law.own started (by kernel_rfl) Tryd.func6
    (ChangeSpec.witness_shaped (enc := enc) (C := Tryd.checked) (os := os) (X := fun w _ => laidMetH Tryd.prog nd.laid w) false (World.laidAll Tryd.prog os nd.laid) #[.slice none 0 0, .slice none 0 0] 8 (World.laidAll_os _ _ _) (World.shaped_of_ZipB (by kernel_rfl) (by kernel_rfl)) (by kernel_rfl) (by kernel_rfl) (by kernel_rfl) (nd.laid_met os _)) ?_
  intro W base args ds gs before hval0 hW _ hsize0 hL _
  have hTb := nd.tabs_of_laid hL
  have hval : ∀ (j : Nat) t v, Tryd.f6.params[j]? = some t → args[j]? = some v → Value.okWide Tryd.prog W .any base t v := hval0
  have hW' := hW
  obtain ⟨p, q, hA0, hV, rfl, _, _⟩ := hW
  have hA : DataW.TrodAll enc Tryd.prog W 0 (fun _ => true) true Tryd.f6.params.toList args.toList ds p := hA0
  rw [Tryd.params6] at hA hval
  obtain ⟨v0, v1, d0, d1, p0, p1, rfl, rfl, rfl, h0, h1⟩ := trodAll_two hA
  obtain ⟨rfl, rfl⟩ := trodVars_none hV
  obtain ⟨bs0, hbs0⟩ := law.open_bytes (hval 0 26 v0 rfl rfl) h0
  obtain ⟨bs1, hbs1⟩ := law.open_bytes (hval 1 26 v1 rfl rfl) h1
  clear hL
  refine (walk bs0 bs1 W v0 v1 hbs0 hbs1 _ hTb).mono fun e W' ⟨he, hb⟩ => ⟨_, he, ?_⟩
  exact law.law_post rfl hW' rfl (by kernel_rfl) (by kernel_rfl) hb

/-- NodeShow, for every input. -/
theorem holds : Rows.NodeShowSaid :=
  OpenClaim.holds_of_wide 6 Tryd.f6 rfl rfl rfl rfl rfl rfl rfl ⟨rfl, rfl, rfl, rfl, rfl⟩ rfl rfl rfl rfl rfl (by kernel_rfl) Tryd.func6 (by kernel_rfl)
    (of_decide_eq_true (by kernel_rfl)) (by unfold Func.isWrapper; first | (rw [if_pos (by decide +kernel)]; kernel_rfl) | (rw [if_neg (by decide +kernel)]; exact ⟨rfl, rfl⟩))
    (fun os started H enc _ => lifted os started H enc)

/-- The tied card of NodeShow. -/
theorem card : Rows.NodeShowCardSaid :=
  Claim7.holds_tied_plain_at .later [] [.data, .data, .data, .data, .pinned, .pinned, .pinned, .pinned, .pinned, .pinned] true Rows.nodeShowCard.stood.harness false
    holds (fun _ h => by cases h) (by kernel_rfl) (fun _ h => by cases h) nodeShow_row_tie rfl ⟨rfl, rfl⟩ (by kernel_rfl) rfl
    (fun f fn hf hfn => by
      obtain rfl : f = 6 := Option.some.inj ((show Tryd.prog.funcNamed "subeditor/subeditorlaw07.NodeShow" = some 6 by kernel_rfl).symm.trans hf) |>.symm
      obtain rfl : fn = Tryd.f6 := (Option.some.inj (Tryd.func6.symm.trans hfn)).symm
      exact ⟨by kernel_rfl, fun j t ht => by
        rw [Tryd.params6] at ht
        have hm := List.mem_toArray.1 (Array.mem_of_getElem? ht)
        have hall : (Tryd.f6.params.toList.all fun u => !Tryd.prog.wantsStandIn u) = true := by kernel_rfl
        rw [show Tryd.f6.params.toList = _ from congrArg Array.toList Tryd.params6] at hall
        exact (show Tryd.prog.wantsStandIn t = false by simpa using List.all_eq_true.1 hall t hm)⟩)
    (by kernel_rfl)
end Go.Proofs.YtbdkemgfdghbkaaDoor.nodeShow
