/-
  node: the closure of Copy; fold at nodes; Copy.
-/
import Derived.Test.YtbdkemgfdghbkaaDoorNdRows
import Derived.Test.YtbdkemgfdghbkaaDoorEdIn
import Derived.Deep.RegionHeld3
import Derived.Deep.AppendLies
namespace Go.Proofs.YtbdkemgfdghbkaaDoor.nd
open Go.RowKit sx ed
set_option linter.unusedVariables false

/-- What holds in the closure's one statement. -/
abbrev CS (w : World) (k : Int) (t : ByteArray) (u : World) : Prop := (u.cell? ⟨w.heap.size, 0, none⟩ = some (.int .i64 k) ∧ u.cell? ⟨w.heap.size, 1, none⟩ = some (.string t)) ∧ (∃ a b c, Blk u (w.heap.size + 1) 24 #[a, b, c]) ∧ Below w.heap.size w u
theorem CS.more {w u v : World} {k : Int} {t : ByteArray} (h : CS w k t u) (hb : Below u.heap.size u v) : CS w k t v := by
  obtain ⟨⟨h1, h2⟩, ⟨a, b, c, h3⟩, h4⟩ := h
  have hl := h3.lt
  exact ⟨⟨(hb.cell (p := ⟨w.heap.size, 0, none⟩) (by simp; omega)).trans h1, (hb.cell (p := ⟨w.heap.size, 1, none⟩) (by simp; omega)).trans h2⟩, ⟨a, b, c, h3.own hb⟩, h4.trans (hb.mono h4.size)⟩

theorem CS.stored {w u : World} {k : Int} {t : ByteArray} (h : CS w k t u) (a b c : Value) : CS w k t (((u.setCell ⟨w.heap.size + 1, 0, none⟩ a).setCell ⟨w.heap.size + 1, 1, none⟩ b).setCell ⟨w.heap.size + 1, 2, none⟩ c) := by
  obtain ⟨⟨h1, h2⟩, ⟨x, y, z, h3⟩, h4⟩ := h
  have hb : Below (w.heap.size + 1) u (((u.setCell ⟨w.heap.size + 1, 0, none⟩ a).setCell ⟨w.heap.size + 1, 1, none⟩ b).setCell ⟨w.heap.size + 1, 2, none⟩ c) :=
    (((Below.refl _ u).setCell (p := ⟨w.heap.size + 1, 0, none⟩) (Nat.le_refl _) a).setCell (p := ⟨w.heap.size + 1, 1, none⟩) (Nat.le_refl _) b).setCell (p := ⟨w.heap.size + 1, 2, none⟩) (Nat.le_refl _) c
  exact ⟨⟨(hb.cell (p := ⟨w.heap.size, 0, none⟩) (by simp)).trans h1, (hb.cell (p := ⟨w.heap.size, 1, none⟩) (by simp)).trans h2⟩,
    ⟨a, b, c, ((h3.set (o := 0) a).set (o := 1) b).set (o := 2) c⟩, h4.trans (hb.mono (Nat.le_succ _))⟩

set_option maxRecDepth 100000 in
set_option maxHeartbeats 4000000 in
theorem tell_calls (k : Int) (t : ByteArray) (ao a2 : Option Addr) (l cap l2 c2 : Nat) (w : World) (hcl : ∀ W, Calls Tryd.prog 39 #[.string t] W fun e w' => e = .returned (.string t) ∧ Below W.heap.size W w') :
    Calls Tryd.prog 38 #[.agg #[.int .i64 k, .string t, .slice ao l cap], .slice a2 l2 c2] w fun e w' => e = .returned (.agg #[.int .i64 k, .string t, .slice a2 l2 c2]) ∧ Below w.heap.size w w' := by
  obtain ⟨W1, hW1⟩ : ∃ W1, ((w.alloc (.cells #[.int .i64 k, .string t, .slice ao l cap] 24)).alloc (.cells #[.int .i64 0, .string ⟨#[]⟩, .slice none 0 0] 24)) = W1 := ⟨_, rfl⟩
  have hS : CS w k t W1 := by
    rw [← hW1]
    have h1 := (Blk.new w 24 #[.int .i64 k, .string t, .slice ao l cap]).alloc (.cells #[.int .i64 0, .string ⟨#[]⟩, .slice none 0 0] 24)
    have h2 := Blk.new (w.alloc (.cells #[.int .i64 k, .string t, .slice ao l cap] 24)) 24 #[.int .i64 0, .string ⟨#[]⟩, .slice none 0 0]
    exact ⟨⟨h1.cell 0, h1.cell 1⟩, ⟨_, _, _, by simpa using h2⟩, ((Below.refl _ w).alloc (Nat.le_refl _) _).alloc (by simp) _⟩
  have HW1 := Lib.hid hW1
  clear hW1
  go_enter Tryd.func38, Tryd.ntmps38
  go_wp2_with fail
  rw [HW1.out]
  have b0 := hS.1.1
  have b1 := hS.1.2
  go_region_held3 (fun u => (u.cell? ⟨w.heap.size, 0, none⟩ = some (.int .i64 k) ∧ u.cell? ⟨w.heap.size, 1, none⟩ = some (.string t)) ∧ (∃ a b c, Blk u (w.heap.size + 1) 24 #[a, b, c]) ∧ Below w.heap.size w u)
    (first
      | assumption
      | exact CS.more hS ((Below.refl _ _).drew)
      | exact CS.stored (by assumption) _ _ _
      | exact CS.more (by assumption) (by assumption))
    (first
      | (go_at_call 39; with_reducible refine (hcl _).mono ?_; rintro _ u1 ⟨rfl, hbn⟩; have hcs := CS.more (by assumption) hbn; have hE := hcs.2.1; obtain ⟨x0, x1, x2, hk⟩ := hE; have f0 := hk.frozen 0; have f1 := hk.frozen 1; have f2 := hk.frozen 2; have e0 := hk.cell 0; have e1 := hk.cell 1; have e2 := hk.cell 2))
  rename_i hHeld
  have hcell := (((hk.set (o := 0) (.int .i64 k)).set (o := 1) (.string t)).set (o := 2) (.slice a2 l2 c2))
  have g0 := hcell.cell 0; have g1 := hcell.cell 1; have g2 := hcell.cell 2
  go_wp2_with fail
  exact bodyPost_ret (v := .agg #[.int .i64 k, .string t, .slice a2 l2 c2]) (by simp [results, Tryd.results38, go_sem, g0, g1, g2]) rfl ⟨rfl, hHeld.2.2⟩

/-! ### A list of nodes in the making -/

/-- Blocks beyond N, that are there, and not the list's own. -/
def Priv (N : Nat) (W : World) (v : Value) (k : Nat) : Prop := N ≤ k ∧ k < W.heap.size ∧ v.ownBlock ≠ some k
def Building (N : Nat) (W : World) (f : Fo) (v : Value) : Prop := ∃ L, W.ownsRow N 24 3 v f.len L ∧ CellsOf (Priv N W v) W f L
theorem own_step {W w1 : World} {base : Nat} {e : TypeId} {size n : Nat} {v : Value} {xs : List Value} (h : W.ownsRow base e size v n xs) (hb : Below W.heap.size W w1) : w1.ownsRow base e size v n xs :=
  h.kept (row := none) ⟨hb.os, hb.tape, hb.output, hb.size, fun k hk _ => hb.block k hk⟩ (by cases v.ownBlock <;> simp)
theorem own_less {W : World} {base base' size n : Nat} {e : TypeId} {v : Value} {xs : List Value} (h : W.ownsRow base e size v n xs) (hb : base' ≤ base) : W.ownsRow base' e size v n xs := by
  refine ⟨h.1, ?_⟩
  rcases h.2 with hn | ⟨g, cap, cur, h1, h2, h3⟩
  · exact .inl hn
  · exact .inr ⟨g, cap, cur, h1, Nat.le_trans hb h2, h3⟩
theorem Building.step {N : Nat} {W w1 : World} {f : Fo} {v : Value} (h : Building N W f v) (hb : Below W.heap.size W w1) : Building N w1 f v := by
  obtain ⟨L, h1, h2⟩ := h
  exact ⟨L, own_step h1 hb, h2.keep (fun k hk => ⟨hk.1, Nat.lt_of_lt_of_le hk.2.1 hb.size, hk.2.2⟩) (fun k hk => hb.block k hk.2.1)⟩
theorem Building.less {N N' : Nat} {W : World} {f : Fo} {v : Value} (h : Building N W f v) (hN : N' ≤ N) : Building N' W f v := by
  obtain ⟨L, h1, h2⟩ := h
  exact ⟨L, own_less h1 hN, h2.keep (fun k hk => ⟨Nat.le_trans hN hk.1, hk.2.1, hk.2.2⟩) (fun _ _ => rfl)⟩
theorem Building.far {N : Nat} {W : World} {f : Fo} {v : Value} (h : Building N W f v) {B o : Nat} (hB : B < N) (u : Value) : Building N (W.setCell ⟨B, o, none⟩ u) f v := by
  obtain ⟨L, h1, h2⟩ := h
  refine ⟨L, ⟨h1.1, ?_⟩, h2.keep (fun k hk => ⟨hk.1, by simpa using hk.2.1, hk.2.2⟩) (fun k hk => Below.heap_setCell _ _ _ k (fun e => by have := hk.1; simp at e; omega))⟩
  rcases h1.2 with hn | ⟨g, cap, cur, e1, e2, e3, e4⟩
  · exact .inl hn
  · exact .inr ⟨g, cap, cur, e1, e2, (Below.heap_setCell _ _ _ g (fun e => by simp at e; omega)).trans e3, e4⟩
theorem Building.slice {N : Nat} {W : World} {f : Fo} {v : Value} (h : Building N W f v) : ∃ ao cap, v = .slice ao f.len cap := by
  obtain ⟨L, h1, _⟩ := h
  obtain ⟨ao, cap, e, _⟩ := own_len' h1
  exact ⟨ao, cap, e⟩
theorem Building.kids {N : Nat} {W : World} {f : Fo} {v : Value} (h : Building N W f v) : KidsAt (fun k => N ≤ k ∧ k < W.heap.size) W f v := by
  obtain ⟨L, h1, h2⟩ := h
  exact own_kids h1 h2 (fun k hk => ⟨hk.1, hk.2.1⟩) (fun k hk => h1.lt k hk)
theorem building_nil {N : Nat} {W : World} {v : Value} (h : W.ownsRow N 24 3 v 0 []) : Building N W .nil v := ⟨[], h, rfl⟩
theorem building_push {N : Nat} {w1 w' : World} {f : Fo} {v v' s : Value} {x : Nd} {L : List Value} {o : Obj} (h : CellsOf (Priv N w1 v) w1 f L) (hx : KidsAt (Priv N w1 v) w1 x.kids s)
    (hown : w'.ownsRow N 24 3 v' (f.len + 1) (L ++ [.int .i64 x.k, .string x.t, s])) (hg : (w1.alloc o).grownBy w' v.ownBlock) (hat : v'.ownBlock = v.ownBlock ∨ v'.ownBlock = some (w1.alloc o).heap.size) :
    Building N w' (f.app (.cons x.k x.t x.kids .nil)) v' := by
  have hsz := hg.size
  rw [World.size_alloc] at hsz hat
  have hp : ∀ k, Priv N w1 v k → Priv N w' v' k := fun k hk => ⟨hk.1, by have := hk.2.1; omega, fun e => by
    rcases hat with h1 | h1
    · exact hk.2.2 (h1.symm.trans e)
    · rw [h1] at e
      have := hk.2.1
      injection e with e
      omega⟩
  have hk : ∀ k, Priv N w1 v k → w'.heap[k]? = w1.heap[k]? := fun k hk =>
    (hg.block k (by rw [World.size_alloc]; have := hk.2.1; omega) (fun e => hk.2.2 e.symm)).trans (Below.heap_alloc _ _ _ hk.2.1)
  exact ⟨_, by rw [Fo.app_len]; exact hown, (h.keep hp hk).snoc (hx.keep hp hk)⟩

/-- What fold, at nodes, makes of one. -/
def CopyOf (w : World) (x : Nd) (u : Value) (w' : World) : Prop := ∃ s, u = .agg #[.int .i64 x.k, .string x.t, s] ∧ Building w.heap.size w' x.kids s ∧ Below w.heap.size w w'
theorem CopyOf.at {w w' : World} {x : Nd} {u : Value} (h : CopyOf w x u w') : NdAt (fun k => w.heap.size ≤ k ∧ k < w'.heap.size) w' x u := by
  obtain ⟨s, rfl, hb, _⟩ := h
  exact ⟨s, rfl, hb.kids⟩

def FoldOk (x : Nd) : Prop := x.weight ≤ 1000000 → ∀ (w : World) (v : Value), NdAt (Lt w.heap.size) w x v →
  Calls Tryd.prog 37 #[v, .func (.func 38) #[] #[]] w fun e w' => ∃ u, e = .returned u ∧ CopyOf w x u w'

set_option maxRecDepth 100000 in
set_option maxHeartbeats 8000000 in
theorem fold_ok (hcl : ∀ (t : ByteArray), t.size ≤ 140737488351232 → ∀ W, Calls Tryd.prog 39 #[.string t] W fun e w' => e = .returned (.string t) ∧ Below W.heap.size W w') (x : Nd) : FoldOk x := by
  refine Nd.induct (p := FoldOk) (fun x hp hwt w v hu => ?_) x
  obtain ⟨s, rfl, hs⟩ := hu
  obtain ⟨ao, cap, rfl, hm⟩ := hs.slice
  obtain ⟨k, t, f⟩ := x
  dsimp only at hs hm hp ⊢
  unfold maxLen at hm
  have hwt' := hwt
  simp only [Nd.weight] at hwt'
  have hfl : f.len ≤ 1000000 := by have := Fo.len_le f; have := Fo.count_le f; omega
  obtain ⟨i0, hi, hz0, hz1, hz2⟩ := info_parts infoN
  obtain ⟨W0, hW0⟩ : ∃ W0, ((w.alloc (.cells #[.int .i64 k, .string t, .slice ao f.len cap] 24)).alloc (.cells #[.int .i64 0, .string ⟨#[]⟩, .slice none 0 0] 24)) = W0 := ⟨_, rfl⟩
  have hb0 : Below w.heap.size w W0 := by rw [← hW0]; exact ((Below.refl _ w).alloc (Nat.le_refl _) _).alloc (by simp) _
  have hk1 : Blk W0 w.heap.size 24 #[.int .i64 k, .string t, .slice ao f.len cap] := by rw [← hW0]; exact (Blk.new w _ _).alloc _
  have hk2 : Blk W0 (w.heap.size + 1) 24 #[.int .i64 0, .string ⟨#[]⟩, .slice none 0 0] := by
    rw [← hW0]
    simpa using Blk.new (w.alloc (.cells #[.int .i64 k, .string t, .slice ao f.len cap] 24)) 24 #[.int .i64 0, .string ⟨#[]⟩, .slice none 0 0]
  have hsz : W0.heap.size = w.heap.size + 2 := by rw [← hW0]; simp
  obtain ⟨m, hmm⟩ : ∃ m, f.len = m := ⟨_, rfl⟩
  rw [hmm] at hm hs hW0 hk1 hfl ⊢
  have HF := Lib.hid (hs.below hb0 (Nat.le_refl _)); have HL := Lib.hid hmm; have HP := Lib.hid hp; have HB0 := Lib.hid hb0
  have HK1 := Lib.hid hk1; have HK2 := Lib.hid hk2; have HW0 := Lib.hid hW0; have HWT := Lib.hid hwt'; have HSZ := Lib.hid hsz
  have a2 := hk1.cell 2
  clear hs hmm hp hb0 hk1 hk2 hW0 hwt hwt' hsz
  go_enter Tryd.func37, Tryd.ntmps37
  go_wp2_with fail
  rw [HW0.out]
  go_wp2_with fail
  ((with_reducible refine (growN_calls m (by omega) _).mono ?_); rintro e w1 ⟨v1, rfl, hown, hb1⟩)
  obtain ⟨ao1, cap1, rfl, _⟩ := own_len' hown
  have a2 := (HK1.out.own hb1).cell 2
  have hbld := building_nil hown
  have HBL := Lib.hid hbld; have HB1 := Lib.hid hb1
  clear hown hbld hb1
  go_wp2_with fail
  go_loopw [5, 15] (fun a i wr => ∃ j : Nat, j ≤ m ∧ i = .int .i64 (j : Int) ∧ Building W0.heap.size wr (f.take j) a ∧ Below W0.heap.size W0 wr) (fun _ i _ => m - (intOf i).toNat)
  case atStart => exact ⟨0, Nat.zero_le _, rfl, by have := HBL.out; cases f <;> exact this, HB1.out⟩
  case round =>
    obtain ⟨j, hj, rfl, hbd, hbw⟩ := hrel
    have a2 := (HK1.out.own hbw).cell 2
    by_cases hlt : j < m
    · obtain ⟨x, hx⟩ := Fo.get_of_lt (f := f) (i := j) (by rw [HL.out]; exact hlt)
      have hFw := HF.out.toLt.below hbw (Nat.le_refl _)
      obtain ⟨g1, o1, ao2, cap2, rfl, _, hg1, d0, d1, d2, d3⟩ := hFw.get hx
      have hlt1 : (j : Int) < (m : Int) := by omega
      have hxw : x.weight ≤ 1000000 := by have := Fo.weight_get hx; have := HWT.out; omega
      obtain ⟨wa, hwa⟩ : ∃ wa, wr.alloc (.cells #[.int .i64 x.k, .string x.t, .slice ao2 x.kids.len cap2] 24) = wa := ⟨_, rfl⟩
      have hba : Below wr.heap.size wr wa := by rw [← hwa]; exact (Below.refl _ wr).alloc (Nat.le_refl _) _
      have hka : Blk wa wr.heap.size 24 #[.int .i64 x.k, .string x.t, .slice ao2 x.kids.len cap2] := by rw [← hwa]; exact Blk.new wr _ _
      have hcall := HP.out.get hx hxw wa _ ((NdAt.mk (d3.toLt.below hba (Nat.le_refl _))).mono hba.size)
      have HC := Lib.hid hcall; have HX := Lib.hid hx; have HWA := Lib.hid hwa
      have HW := Lib.hid (hbw.trans (hba.mono hbw.size)); have HBD := Lib.hid (hbd.step hba)
      have e0 := hka.cell 0; have e1 := hka.cell 1; have e2 := hka.cell 2
      have hW0s := HW.out.size
      clear hcall hx d3 hbw hFw hxw hwa hka hba hbd
      obtain ⟨ao5, cap5, rfl⟩ := HBD.out.slice
      rw [Fo.take_len (by rw [HL.out]; exact hj)] at HBD ⊢
      go_wp2_with fail
      rw [HWA.out]
      go_wp2_with fail
      ((with_reducible refine HC.out.mono ?_); rintro e wb ⟨u, rfl, hcp⟩)
      obtain ⟨s, rfl, hbs, hbb⟩ := hcp
      obtain ⟨ao6, cap6, rfl⟩ := hbs.slice
      have hkx : KidsAt (Priv W0.heap.size wb (.slice ao5 j cap5)) wb x.kids (.slice ao6 x.kids.len cap6) := hbs.kids.keep (fun k hk => ⟨Nat.le_trans hW0s hk.1, hk.2, fun e => by
        obtain ⟨L, h1, _⟩ := HBD.out
        have := (h1.lt k e).2
        have := hk.1
        omega⟩) (fun _ _ => rfl)
      obtain ⟨L, hown, hcells⟩ := HBD.out.step hbb
      rw [Fo.take_len (by rw [HL.out]; exact hj)] at hown
      have HCE := Lib.hid hcells; have HKX := Lib.hid hkx
      have hwb := hbb.size
      have HWB := Lib.hid (HW.out.trans (hbb.mono HW.out.size))
      clear hbs hbb hcells hkx
      go_wp2_with (at_builtin; refine wpList_append_own_at _ rfl _ _ 22 rfl W0.heap.size 24 i0 _ 3 48 Tryd.underlying22 hi hz0 hz1 hz2 rfl (by decide) _ _ _ rfl (hown.alloc _) ⟨wb.heap.size, 0, none⟩ 1 1 [.int .i64 x.k, .string x.t, .slice ao6 x.kids.len cap6] rfl rfl (World.news_of_block (cs := #[.int .i64 x.k, .string x.t, .slice ao6 x.kids.len cap6]) (t := 24) (fr := (0, 0)) (heap_alloc_new wb _)) (by intro u hu; simp at hu; rcases hu with rfl | rfl | rfl <;> rfl) (by unfold maxLen; omega) (by omega) (by simp; omega) ?_; intro v' w' hown' hgrow _ hat; obtain ⟨ao7, cap7, rfl, _⟩ := own_len' hown')
      have hbd2 := building_push (x := x) HCE.out HKX.out (by rw [Fo.take_len (by rw [HL.out]; exact hj)]; exact hown') hgrow hat
      rw [← Fo.take_snoc HX.out] at hbd2
      have hbw2 := (HWB.out.alloc HWB.out.size _).grown hgrow (by have := HWB.out.size; simp; omega) (fun k hk => (hown.lt k hk).1)
      have HBD2 := Lib.hid hbd2; have HBW2 := Lib.hid hbw2
      clear hown hown' hgrow hat hbd2 hbw2
      go_wp2_with fail
      exact ⟨⟨j + 1, by omega, by go_num, HBD2.out, HBW2.out⟩, by simp [intOf]; omega⟩
    · obtain rfl : j = m := by omega
      have hge : decide ((j : Int) < (j : Int)) = false := by simp
      rw [Fo.take_all (by rw [HL.out]; exact Nat.le_refl _)] at hbd
      obtain ⟨ao5, cap5, rfl⟩ := hbd.slice
      rw [HL.out] at hbd ⊢
      have a0 := (HK1.out.own hbw).cell 0
      have a1 := (HK1.out.own hbw).cell 1
      have ht : t.size ≤ 140737488351232 := by have := HWT.out; omega
      have hcall := tell_calls k t ao ao5 j cap j cap5 wr (hcl t ht)
      have HC := Lib.hid hcall; have HBD := Lib.hid hbd; have HBW := Lib.hid hbw
      clear hcall hbd hbw
      go_wp2_with fail
      ((with_reducible refine HC.out.mono ?_); rintro e wb ⟨rfl, hb2⟩)
      have hbd2 := HBD.out.step hb2
      have hb3 := HBW.out.trans (hb2.mono HBW.out.size)
      have hk := HK2.out.own hb3
      have f0 := hk.frozen 0; have f1 := hk.frozen 1; have f2 := hk.frozen 2
      have e0 := hk.cell 0; have e1 := hk.cell 1; have e2 := hk.cell 2
      have hcell := (((hk.set (o := 0) (.int .i64 k)).set (o := 1) (.string t)).set (o := 2) (.slice ao5 j cap5))
      have g0 := hcell.cell 0; have g1 := hcell.cell 1; have g2 := hcell.cell 2
      have HB2 := Lib.hid hbd2; have HB3 := Lib.hid hb3
      clear hb2 hbd2 hb3 hk hcell
      go_wp2_with fail
      refine bodyPost_ret (v := .agg #[.int .i64 k, .string t, .slice ao5 j cap5]) (by simp [results, Tryd.results37, go_sem, g0, g1, g2]) rfl ⟨_, rfl, _, rfl, ?_, ?_⟩
      · have hlt : w.heap.size + 1 < W0.heap.size := by have := HSZ.out; omega
        exact (((HB2.out.far hlt _).far hlt _).far hlt _).less HB0.out.size
      · exact (((HB0.out.trans (HB3.out.mono HB0.out.size)).setCell (p := ⟨w.heap.size + 1, 0, none⟩) (Nat.le_succ _) _).setCell (p := ⟨w.heap.size + 1, 1, none⟩) (Nat.le_succ _) _).setCell (p := ⟨w.heap.size + 1, 2, none⟩) (Nat.le_succ _) _

set_option maxRecDepth 100000 in
set_option maxHeartbeats 4000000 in
theorem copy_of (hcl : ∀ (t : ByteArray), t.size ≤ 140737488351232 → ∀ W, Calls Tryd.prog 39 #[.string t] W fun e w' => e = .returned (.string t) ∧ Below W.heap.size W w') (x : Nd) (hwt : x.weight ≤ 1000000) (w : World) (v : Value) (hu : NdAt (Lt w.heap.size) w x v) :
    Calls Tryd.prog 21 #[v] w fun e w' => ∃ u, e = .returned u ∧ CopyOf w x u w' := by
  obtain ⟨s, rfl, hs⟩ := hu
  obtain ⟨ao, cap, rfl, hm⟩ := hs.slice
  obtain ⟨W0, hW0⟩ : ∃ W0, ((w.alloc (.cells #[.int .i64 x.k, .string x.t, .slice ao x.kids.len cap] 24)).alloc (.cells #[.int .i64 0, .string ⟨#[]⟩, .slice none 0 0] 24)) = W0 := ⟨_, rfl⟩
  have hb0 : Below w.heap.size w W0 := by rw [← hW0]; exact ((Below.refl _ w).alloc (Nat.le_refl _) _).alloc (by simp) _
  have hk2 : Blk W0 (w.heap.size + 1) 24 #[.int .i64 0, .string ⟨#[]⟩, .slice none 0 0] := by
    rw [← hW0]
    simpa using Blk.new (w.alloc (.cells #[.int .i64 x.k, .string x.t, .slice ao x.kids.len cap] 24)) 24 #[.int .i64 0, .string ⟨#[]⟩, .slice none 0 0]
  have hsz : W0.heap.size = w.heap.size + 2 := by rw [← hW0]; simp
  have hcall := fold_ok hcl x hwt W0 _ ((NdAt.mk (hs.below hb0 (Nat.le_refl _))).mono hb0.size)
  have HC := Lib.hid hcall; have HB0 := Lib.hid hb0; have HK2 := Lib.hid hk2; have HW0 := Lib.hid hW0; have HSZ := Lib.hid hsz
  clear hcall hb0 hk2 hW0 hs hsz
  go_enter Tryd.func21, Tryd.ntmps21
  go_wp2_with fail
  rw [HW0.out]
  ((with_reducible refine HC.out.mono ?_); rintro e wb ⟨u, rfl, s', rfl, hbd, hb2⟩)
  obtain ⟨ao5, cap5, rfl⟩ := hbd.slice
  have hk := HK2.out.own hb2
  have f0 := hk.frozen 0; have f1 := hk.frozen 1; have f2 := hk.frozen 2
  have e0 := hk.cell 0; have e1 := hk.cell 1; have e2 := hk.cell 2
  have hcell := (((hk.set (o := 0) (.int .i64 x.k)).set (o := 1) (.string x.t)).set (o := 2) (.slice ao5 x.kids.len cap5))
  have g0 := hcell.cell 0; have g1 := hcell.cell 1; have g2 := hcell.cell 2
  have HB2 := Lib.hid hbd; have HB3 := Lib.hid hb2
  clear hb2 hbd hk hcell
  go_wp2_with fail
  refine bodyPost_ret (v := .agg #[.int .i64 x.k, .string x.t, .slice ao5 x.kids.len cap5]) (by simp [results, Tryd.results21, go_sem, g0, g1, g2]) rfl ⟨_, rfl, _, rfl, ?_, ?_⟩
  · have hlt : w.heap.size + 1 < W0.heap.size := by have := HSZ.out; omega
    exact (((HB2.out.far hlt _).far hlt _).far hlt _).less HB0.out.size
  · exact (((HB0.out.trans (HB3.out.mono HB0.out.size)).setCell (p := ⟨w.heap.size + 1, 0, none⟩) (Nat.le_succ _) _).setCell (p := ⟨w.heap.size + 1, 1, none⟩) (Nat.le_succ _) _).setCell (p := ⟨w.heap.size + 1, 2, none⟩) (Nat.le_succ _) _
end Go.Proofs.YtbdkemgfdghbkaaDoor.nd
