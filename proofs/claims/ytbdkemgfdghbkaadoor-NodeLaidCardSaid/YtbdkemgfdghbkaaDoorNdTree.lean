/-
  node: the law's Tree.
-/
import Derived.Test.YtbdkemgfdghbkaaDoorNdTreeM
import Derived.Test.YtbdkemgfdghbkaaDoorLaw
import Derived.Deep.RegionHeld3
import Derived.StillTailTactics
namespace Go.Proofs.YtbdkemgfdghbkaaDoor.nd
open Go.RowKit sx ed law
set_option linter.unusedVariables false

abbrev txtCells : Array Value := #[.string ⟨#[]⟩, .string ⟨#[97]⟩, .string ⟨#[124]⟩, .string ⟨#[36, 120]⟩, .string ⟨#[46]⟩, .string ⟨#[101, 108, 115, 101]⟩, .string ⟨#[98, 48]⟩, .string ⟨#[10]⟩]
structure TI (w : World) (l : Fo) (v : Value) (wr : World) : Prop where
  row : Building (w.heap.size + 1) wr l v
  res : Blk wr w.heap.size 24 #[.int .i64 0, .string ⟨#[]⟩, .slice none 0 0]
  txt : Blk wr (w.heap.size + 1 + 1) 9 txtCells
  below : Below w.heap.size w wr

theorem own_one' (w : World) (e : TypeId) (a b c : Value) : (w.alloc (.cells #[a, b, c] e)).ownsRow w.heap.size e 3 (.slice (some ⟨w.heap.size, 0, none⟩) 1 1) 1 [a, b, c] :=
  ⟨rfl, .inr ⟨w.heap.size, 1, #[a, b, c], rfl, Nat.le_refl _, heap_alloc_new w _, Nat.le_refl _, by unfold maxLen; omega, rfl, rfl⟩⟩

set_option maxRecDepth 100000 in
set_option maxHeartbeats 8000000 in
theorem tree_calls (bs : List Int) (w : World) (u : Value) (hu : BytesAt w u bs) :
    Calls Tryd.prog 11 #[u] w fun e w' => ∃ s, e = .returned (.agg #[.int .i64 10, .string ⟨#[]⟩, s]) ∧ Building w.heap.size w' (treeN bs).kids s ∧ Below w.heap.size w w' := by
  obtain ⟨uo, uc, rfl⟩ : ∃ uo uc, u = .slice uo bs.length uc := by
    rcases hu with ⟨rfl, rfl⟩ | ⟨a, cap, rfl, rfl⟩ | ⟨b, off, cap, rfl, _⟩ <;> exact ⟨_, _, rfl⟩
  have HU := Lib.hid hu
  clear hu
  go_enter Tryd.func11, Tryd.ntmps11
  go_wp2_with fail
  go_loopw [3, 5] (fun v i wr => ∃ j : Nat, j ≤ rounds bs.length ∧ i = .int .i64 ((2 * j : Nat) : Int) ∧ TI w (stF bs j) v wr) (fun _ i _ => 60 - (intOf i).toNat)
  case atStart =>
    refine ⟨0, Nat.zero_le _, rfl, ?_, ?_, ?_, ?_⟩
    · refine ⟨[.int .i64 1, .string ⟨#[]⟩, .slice none 0 0], ?_, _, _, rfl, kids_nil _ _ _ _, rfl⟩
      have h := own_one' (w.alloc (.cells #[.int .i64 0, .string ⟨#[]⟩, .slice none 0 0] 24)) 24 (.int .i64 1) (.string ⟨#[]⟩) (.slice none 0 0)
      rw [World.size_alloc] at h
      exact own_step h ((Below.refl _ _).alloc (Nat.le_refl _) _)
    · have := ((Blk.new w 24 #[.int .i64 0, .string ⟨#[]⟩, .slice none 0 0]).alloc (.cells #[.int .i64 1, .string ⟨#[]⟩, .slice none 0 0] 24)).alloc (.cells txtCells 9)
      exact this
    · have := Blk.new ((w.alloc (.cells #[.int .i64 0, .string ⟨#[]⟩, .slice none 0 0] 24)).alloc (.cells #[.int .i64 1, .string ⟨#[]⟩, .slice none 0 0] 24)) 9 txtCells
      simpa using this
    · exact (((Below.refl _ w).alloc (Nat.le_refl _) _).alloc (by simp) _).alloc (by simp; omega) _
  case round =>
    obtain ⟨j, hj, rfl, h⟩ := hrel
    obtain ⟨ao, cap, hv⟩ := h.row.slice
    subst hv
    obtain ⟨p, hp⟩ : ∃ p, 2 * j = p := ⟨_, rfl⟩
    rw [hp]
    obtain ⟨m, hm⟩ : ∃ m, (stF bs j).len = m := ⟨_, rfl⟩
    rw [hm]
    by_cases hlt : p + 1 < bs.length ∧ p < 60
    · have h1 : (p : Int) + 1 < (bs.length : Int) := by omega
      have h2 : (p : Int) < 60 := by omega
      obtain ⟨b, off, A, B, hb, hA, hB, rfl, hA255, hB255, ca, cb⟩ : ∃ (b off A B : Nat), b < w.heap.size ∧ (bs.getD p 0).toNat = A ∧ (bs.getD (p + 1) 0).toNat = B ∧ uo = some ⟨b, off, none⟩ ∧ A ≤ 255 ∧ B ≤ 255 ∧ w.cell? ⟨b, off + p, none⟩ = some (.int .u8 (A : Int)) ∧ w.cell? ⟨b, off + (p + 1), none⟩ = some (.int .u8 (B : Int)) := by
        rcases HU.out with ⟨_, e⟩ | ⟨_, _, _, e⟩ | ⟨b, off, cap, e, hml, hc⟩
        · rw [e] at hlt; simp at hlt
        · rw [e] at hlt; simp at hlt
        · cases e
          obtain ⟨c1, c2, c3⟩ := hc p (by omega)
          obtain ⟨d1, d2, d3⟩ := hc (p + 1) (by omega)
          refine ⟨b, off, _, _, World.block_lt_of_cell? w _ c1, rfl, rfl, rfl, by omega, by omega, ?_, ?_⟩
          · rw [c1, Int.toNat_of_nonneg c2]
          · rw [d1, Int.toNat_of_nonneg d2]
      have ca' := (h.below.cell (p := ⟨b, _, none⟩) hb).trans ca
      have cb' := (h.below.cell (p := ⟨b, _, none⟩) hb).trans cb
      have ct : wr.cell? ⟨w.heap.size + 1 + 1, B % 8, none⟩ = some (.string (txtB (B % 8))) := by
        have h8 : B % 8 < 8 := Nat.mod_lt _ (by omega)
        rw [h.txt.cell]
        match B % 8, h8 with
        | 0, _ => rfl
        | 1, _ => rfl
        | 2, _ => rfl
        | 3, _ => rfl
        | 4, _ => rfl
        | 5, _ => rfl
        | 6, _ => rfl
        | 7, _ => rfl
        | n + 8, h => exact absurd h (by omega)
      have hal : Below wr.heap.size wr (wr.alloc (.cells #[.int .i64 0, .string ⟨#[]⟩, .slice none 0 0] 24)) := (Below.refl _ wr).alloc (Nat.le_refl _) _
      have ca2 := (hal.cell (World.block_lt_of_cell? wr _ ca')).trans ca'
      have cb2 := (hal.cell (World.block_lt_of_cell? wr _ cb')).trans cb'
      have ct2 := (hal.cell (World.block_lt_of_cell? wr _ ct)).trans ct
      have m8 : ((B : Int).tmod 8) = ((B % 8 : Nat) : Int) := by rw [Int.tmod_eq_emod_of_nonneg (by omega)]; omega
      have m40 : ((A : Int).tmod 40) = ((A % 40 : Nat) : Int) := by rw [Int.tmod_eq_emod_of_nonneg (by omega)]; omega
      have H := Lib.hid h
      clear h ca cb hal
      go_wp2_with fail
      go_region
      obtain ⟨K, hK⟩ : ∃ K : Int, (A : Int) % 40 = K := ⟨_, rfl⟩
      rw [hK]
      obtain ⟨W1, hW1⟩ : ∃ W1, (wr.alloc (.cells #[.int .i64 K, .string (txtB (B % 8)), .slice none 0 0] 24)).drew = W1 := ⟨_, rfl⟩
      rw [hW1]
      have hb1 : Below wr.heap.size wr W1 := by rw [← hW1]; exact ((Below.refl _ wr).alloc (Nat.le_refl _) _).drew
      have hs1 : W1.heap.size = wr.heap.size + 1 := by rw [← hW1]; simp
      have hk1 : Blk W1 wr.heap.size 24 #[.int .i64 K, .string (txtB (B % 8)), .slice none 0 0] := by rw [← hW1]; exact Blk.new wr _ _
      have cb3 := (hb1.cell (World.block_lt_of_cell? wr _ cb')).trans cb'
      have HB1 := Lib.hid hb1; have HS1 := Lib.hid hs1; have HK1 := Lib.hid hk1
      obtain ⟨k, hkk⟩ : ∃ k, kidsN B m = k := ⟨_, rfl⟩
      have hkm : k ≤ m := by rw [← hkk]; exact kidsN_le _ _
      have hmin : min ((B : Int) / 8 % 4) (m : Int) = (k : Int) := by rw [← hkk]; unfold kidsN; omega
      obtain ⟨q, hq⟩ : ∃ q, m - k = q := ⟨_, rfl⟩
      have hsub : (m : Int) - (k : Int) = (q : Int) := by omega
      have hqm : q ≤ m := by omega
      have hmm := stF_len bs j
      rw [hm] at hmm
      obtain ⟨g, hg, hmcap⟩ : ∃ g, ao = some ⟨g, 0, none⟩ ∧ m ≤ cap := by
        obtain ⟨L, hown, _⟩ := H.out.row
        rw [hm] at hown
        rcases hown.2 with ⟨e, h0⟩ | ⟨g, cap', cur, e, h2, h3, h4, _⟩
        · omega
        · cases e; exact ⟨g, rfl, h4⟩
      subst hg
      have hk0 := hk1.cell 2
      have hf0 := hk1.frozen 2
      clear ca' cb' ct ca2 cb2 ct2 hW1 hb1 hs1 hk1
      go_wp2_with fail
      have hwq : IntKind.i64.wrap (q : Int) = (q : Int) := by
        have : (q : Int) ≤ 100 := by have := hj; unfold rounds at this; omega
        simp [IntKind.wrap, IntKind.bits, IntKind.signed]; omega
      have hq2 : (q : Int) ≤ (m : Int) := by omega
      obtain ⟨oq, hif, hoq⟩ : ∃ oq, (if cap = q then some (⟨g, 0, none⟩ : Addr) else some ⟨g, q * 3, none⟩) = some ⟨g, oq, none⟩ ∧ (q < m → oq = q * 3) := by
        by_cases h : cap = q
        · exact ⟨0, by rw [if_pos h], fun _ => by omega⟩
        · exact ⟨q * 3, by rw [if_neg h], fun _ => rfl⟩
      have hmq : m - q = k := by omega
      refine wp_region_still_tail 8 (by kernel_rfl) (by kernel_rfl) ?_
      simp only [List.take_succ_cons, List.take_zero, List.drop_succ_cons, List.drop_zero]
      still_step
      still_step
      still_step
      still_step
      still_step
      still_step
      still_step
      still_step
      refine wpStill_nil ?_
      change wpList _ _ _ _ _ W1.drew
      have hb2 : Below wr.heap.size wr W1.drew := HB1.out.drew
      have hs2 : W1.drew.heap.size = wr.heap.size + 1 := HS1.out
      have hk2 : Blk W1.drew wr.heap.size 24 #[.int .i64 K, .string (txtB (B % 8)), .slice none 0 0] := HK1.out
      obtain ⟨W2, hW2⟩ : ∃ W2, W1.drew = W2 := ⟨_, rfl⟩
      rw [hW2] at hb2 hs2 hk2 ⊢
      obtain ⟨L, hown, hL⟩ := id H.out.row
      rw [hm] at hown
      have hLl := hown.1
      have hgl := (hown.lt g rfl).2
      have hnews : ∀ i u, (L.drop (q * 3))[i]? = some u → W2.cell? ((⟨g, oq, none⟩ : Addr).add i) = some u := fun i u hi => by
        have hqlt : q < m := by
          rcases Nat.lt_or_ge q m with h | h
          · exact h
          · rw [List.drop_eq_nil_of_le (by omega)] at hi; simp at hi
        rw [addr_add, hoq hqlt]
        rw [List.getElem?_drop] at hi
        have := hown.cells (g := g) rfl _ u hi
        rw [addr_add, Nat.zero_add] at this
        exact (hb2.cell (p := ⟨g, _, none⟩) hgl).trans this
      have hone : ∀ u ∈ L.drop (q * 3), u.oneCell' = true := fun u hu => hL.one u (List.mem_of_mem_drop hu)
      have hN : w.heap.size + 1 ≤ wr.heap.size := by have := H.out.res.lt; omega
      have hm31 : m ≤ 40 := by have := hj; unfold rounds at this; omega
      obtain ⟨i0, hi, hz0, hz1, hz2⟩ := info_parts infoN
      have HOWN := Lib.hid hown; have HL := Lib.hid hL; have HNEWS := Lib.hid hnews
      clear hown hL hnews hW2 hk0 hf0
      refine wpList_append_own_at _ rfl _ _ 22 rfl W2.heap.size 24 i0 _ 3 48 Tryd.underlying22 hi hz0 hz1 hz2 rfl (by decide) _ _ _ rfl (World.ownsRow_nil _ _ _ _) ⟨g, oq, none⟩ k (cap - q) (L.drop (q * 3)) rfl (by rw [List.length_drop, hLl]; omega) HNEWS.out hone (by unfold maxLen; omega) (by omega) (Nat.le_refl _) ?_
      intro v' Wa hown' hgrow _ hat
      rw [List.nil_append, Nat.zero_add] at hown'
      have hba : Below W2.heap.size W2 Wa := (Below.refl _ W2).grown hgrow (Nat.le_refl _) (fun j e => by cases e)
      obtain ⟨a7, c7, rfl, hc7⟩ := own_len' hown'
      obtain ⟨hm1, hm2, hm3, hm4⟩ := tree_mid HOWN.out HL.out hm hqm (by omega) hN hb2 hs2 hown' hba
      have hka : Blk Wa wr.heap.size 24 #[.int .i64 K, .string (txtB (B % 8)), .slice none 0 0] := (hba.block _ (by omega)).trans hk2
      have ha2 := hka.cell 2
      have hf2 := hka.frozen 2
      have hk3 := hka.set (o := 2) (.slice a7 k c7)
      have HM1 := Lib.hid hm1; have HM2 := Lib.hid hm2; have HM3 := Lib.hid hm3; have HM4 := Lib.hid hm4; have HK3 := Lib.hid hk3
      have e0 := hk3.cell 0; have e1 := hk3.cell 1; have e2 := hk3.cell 2
      obtain ⟨W3, hW3⟩ : ∃ W3, Wa.setCell ⟨wr.heap.size, 2, none⟩ (.slice a7 k c7) = W3 := ⟨_, rfl⟩
      rw [hW3] at HM1 HM2 HM3 HM4 HK3 e0 e1 e2
      have hs3 := HM4.out.size
      clear hown' hgrow hat hba hm1 hm2 hm3 hm4 hk3 hka
      go_upto_region 9 with fail
      clear hW3 ha2 hf2
      go_wp2_with (at_builtin; refine wpList_append_own_at _ rfl _ _ 22 rfl (w.heap.size + 1) 24 i0 _ 3 48 Tryd.underlying22 hi hz0 hz1 hz2 rfl (by decide) _ _ _ rfl (HM1.out.alloc _) ⟨W3.heap.size, 0, none⟩ 1 1 [.int .i64 K, .string (txtB (B % 8)), .slice a7 k c7] rfl rfl (World.news_of_block (cs := #[.int .i64 K, .string (txtB (B % 8)), .slice a7 k c7]) (t := 24) (fr := (0, 0)) (heap_alloc_new W3 _)) (by intro u hu; simp at hu; rcases hu with rfl | rfl | rfl <;> rfl) (by unfold maxLen; omega) (by omega) (by simp; omega) ?_; intro v5 W5 hown5 hgrow5 _ hat5; obtain ⟨a8, c8, rfl, hc8⟩ := own_len' hown5)
      have hql : ((stF bs j).take q).len = q := Fo.take_len (by omega)
      have hbd := building_push (x := ⟨K, txtB (B % 8), (stF bs j).drop q⟩) HM2.out HM3.out (by rw [hql]; exact hown5) hgrow5 hat5
      have hlt5 := HM1.out.lt
      have hb5 : Below w.heap.size w W5 := ((H.out.below.trans (HM4.out.mono H.out.below.size)).alloc (by have := H.out.below.size; omega) _).grown hgrow5 (by have := H.out.below.size; simp; omega) (fun i e => by have := (hlt5 i e).1; omega)
      have hres : Blk W5 w.heap.size 24 #[.int .i64 0, .string ⟨#[]⟩, .slice none 0 0] :=
        (hgrow5.block _ (by have := H.out.res.lt; simp; omega) (fun e => by have := (hlt5 _ e.symm).1; omega)).trans ((Below.heap_alloc _ _ _ (by have := H.out.res.lt; omega)).trans ((HM4.out.block _ H.out.res.lt).trans H.out.res))
      have htxt : Blk W5 (w.heap.size + 1 + 1) 9 txtCells := by
        have hno := own_no HOWN.out H.out.txt (by decide)
        exact (hgrow5.block _ (by have := H.out.txt.lt; simp; omega) (fun e => hno e.symm)).trans ((Below.heap_alloc _ _ _ (by have := H.out.txt.lt; omega)).trans ((HM4.out.block _ H.out.txt.lt).trans H.out.txt))
      have hstep : ((stF bs j).take q).app (.cons K (txtB (B % 8)) ((stF bs j).drop q) .nil) = stF bs (j + 1) := by
        simp only [stF, stepF]
        rw [hp, hA, hB, hm, hkk, hq, ← hK]
        congr 2
      rw [hstep] at hbd
      have hpj : (p : Int) + 2 = ((2 * (j + 1) : Nat) : Int) := by omega
      refine ⟨⟨j + 1, by unfold rounds; omega, by rw [← hpj], ⟨hbd, hres, htxt, hb5⟩⟩, ?_⟩
      simp [intOf]
      omega
    · have hjr : j = rounds bs.length := by unfold rounds at hj ⊢; omega
      have hw3 : ∀ (x y z : Value), Blk (((wr.setCell ⟨w.heap.size, 0, none⟩ x).setCell ⟨w.heap.size, 1, none⟩ y).setCell ⟨w.heap.size, 2, none⟩ z) w.heap.size 24 #[x, y, z] := fun x y z => set3_blk h.res x y z
      have f0 := h.res.frozen 0; have f1 := h.res.frozen 1; have f2 := h.res.frozen 2
      have e0 := h.res.cell 0; have e1 := h.res.cell 1; have e2 := h.res.cell 2
      have hcell := hw3 (.int .i64 10) (.string ⟨#[]⟩) (.slice ao m cap)
      have g0 := hcell.cell 0; have g1 := hcell.cell 1; have g2 := hcell.cell 2
      have hfin : Building w.heap.size (((wr.setCell ⟨w.heap.size, 0, none⟩ (.int .i64 10)).setCell ⟨w.heap.size, 1, none⟩ (.string ⟨#[]⟩)).setCell ⟨w.heap.size, 2, none⟩ (.slice ao m cap)) (treeN bs).kids (.slice ao m cap) := by
        have hb := h.row
        rw [hm] at hb
        have e : (treeN bs).kids = stF bs j := by rw [hjr]; rfl
        rw [e]
        exact (hb.set3 (Nat.lt_succ_self _) _ _ _).less (Nat.le_succ _)
      have H := Lib.hid h; have HF := Lib.hid hfin
      clear h hcell hw3 hfin
      by_cases hA : p + 1 < bs.length
      · have h1 : (p : Int) + 1 < (bs.length : Int) := by omega
        have h2 : decide ((p : Int) < 60) = false := by simp; omega
        go_wp2_with fail
        all_goals exact bodyPost_ret (v := .agg #[.int .i64 10, .string ⟨#[]⟩, .slice ao m cap]) (by simp [results, Tryd.results11, go_sem, g0, g1, g2]) rfl ⟨_, rfl, HF.out, H.out.below.trans (set3_below _ _ _ (Nat.le_refl _))⟩
      · have h1 : decide ((p : Int) + 1 < (bs.length : Int)) = false := by simp; omega
        have hp60 : (p : Int) ≤ 60 := by unfold rounds at hj; omega
        have hw : wrap64 ((p : Int) + 1) = (p : Int) + 1 := by unfold wrap64; omega
        go_wp2_with fail
        all_goals exact bodyPost_ret (v := .agg #[.int .i64 10, .string ⟨#[]⟩, .slice ao m cap]) (by simp [results, Tryd.results11, go_sem, g0, g1, g2]) rfl ⟨_, rfl, HF.out, H.out.below.trans (set3_below _ _ _ (Nat.le_refl _))⟩
end Go.Proofs.YtbdkemgfdghbkaaDoor.nd
