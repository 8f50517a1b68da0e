/-
  subeditorlaw07.NodeCopy: for every input it returns true, and the arguments read as they did. No condition.
-/
import Derived.Test.YtbdkemgfdghbkaaDoorNdLaw
import Derived.Test.YtbdkemgfdghbkaaDoorNdRWith
import Derived.Test.YtbdkemgfdghbkaaDoorTie
import Derived.Test.YtbdkemgfdghbkaaDoorCards
namespace Go.Proofs.YtbdkemgfdghbkaaDoor.nodeCopy
open Go.RowKit Go.ChangeShapes Go.WideShapes Go.ChangeAt Go.Shelf Go.Lib sx ed law nd
set_option linter.unusedVariables false

/-- A row of nodes of one's own, whatever they are. -/
def Any (N : Nat) (v : Value) (m : Nat) (W : World) : Prop := ∃ L, W.ownsRow N 24 3 v m L
theorem Any.set {W : World} {N g m c i : Nat} (h : Any N (.slice (some ⟨g, 0, none⟩) m c) m W) (hi : i < m * 3) (v : Value) : Any N (.slice (some ⟨g, 0, none⟩) m c) m (W.setCell ⟨g, i, none⟩ v) := by
  obtain ⟨L, hl, hr⟩ := h
  rcases hr with ⟨e, _⟩ | ⟨g', cap, cur, e, h2, h3, h4, h5, h6, h7⟩
  · cases e
  · cases e
    refine ⟨(cur.setIfInBounds i v).toList.take (m * 3), by simp; omega, .inr ⟨g, c, cur.setIfInBounds i v, rfl, h2, ?_, h4, h5, by simpa using h6, rfl⟩⟩
    rw [setCell_eq_setRow W g i cur _ _ v h3]
    exact setRow_heap W g cur _ _ _ h3
theorem Any.cell {W : World} {N g m c i : Nat} (h : Any N (.slice (some ⟨g, 0, none⟩) m c) m W) (hi : i < m * 3) : (∃ u, W.cell? ⟨g, i, none⟩ = some u) ∧ W.frozen? ⟨g, i, none⟩ = false := by
  obtain ⟨L, hl, hr⟩ := h
  rcases hr with ⟨e, _⟩ | ⟨g', cap, cur, e, h2, h3, h4, h5, h6, h7⟩
  · cases e
  · cases e
    exact ⟨⟨cur[i]'(by omega), by simp [World.cell?, h3, show i < cur.size by omega]⟩, frozen_row h3 i⟩
theorem Any.far {W W' : World} {N : Nat} {v : Value} {m : Nat} (h : Any N v m W) (hk : ∀ k, v.ownBlock = some k → W'.heap[k]? = W.heap[k]?) : Any N v m W' := by
  obtain ⟨L, h⟩ := h
  exact ⟨L, own_keep h hk⟩

theorem Any.form {N m : Nat} {v : Value} {W : World} (h : Any N v m W) (hm : 1 ≤ m) : ∃ g c, v = .slice (some ⟨g, 0, none⟩) m c ∧ N ≤ g ∧ g < W.heap.size ∧ m ≤ c := by
  obtain ⟨L, h⟩ := h
  rcases id h.2 with ⟨_, h0⟩ | ⟨g, cap, cur, e, h2, h3, h4, _⟩
  · omega
  · exact ⟨g, cap, e, h2, (h.lt g (by rw [e]; rfl)).2, h4⟩
/-- Between two rounds: the copy in the box b3, its row gm; what At told in the box b5, its row gx. -/
structure LS (W2 : World) (N4 b3 b5 gm gx m cm cx : Nat) (wr : World) : Prop where
  bel : Below W2.heap.size W2 wr
  mc : Blk wr b3 24 #[.int .i64 10, .string ⟨#[]⟩, .slice (some ⟨gm, 0, none⟩) m cm]
  xc : Blk wr b5 24 #[.int .i64 10, .string ⟨#[]⟩, .slice (some ⟨gx, 0, none⟩) m cx]
  ma : Any W2.heap.size (.slice (some ⟨gm, 0, none⟩) m cm) m wr
  xa : Any N4 (.slice (some ⟨gx, 0, none⟩) m cx) m wr
  ne : W2.heap.size ≤ gm ∧ W2.heap.size ≤ gx ∧ b3 ≠ gm ∧ b5 ≠ gm ∧ gx ≠ gm ∧ b3 ≠ gx ∧ b5 ≠ gx
theorem LS.setM {W2 wr : World} {N4 b3 b5 gm gx m cm cx : Nat} (h : LS W2 N4 b3 b5 gm gx m cm cx wr) {i : Nat} (hi : i < m * 3) (v : Value) : LS W2 N4 b3 b5 gm gx m cm cx (wr.setCell ⟨gm, i, none⟩ v) :=
  ⟨h.bel.setCell (p := ⟨gm, i, none⟩) h.ne.1 _, h.mc.other h.ne.2.2.1 _, h.xc.other h.ne.2.2.2.1 _, h.ma.set hi v, h.xa.far (fun k e => Below.heap_setCell _ _ _ k (fun e' => by
    have e1 : gx = k := by simpa [Value.ownBlock] using e
    have e2 : k = gm := e'
    exact h.ne.2.2.2.2.1 (e1.trans e2))), h.ne⟩
theorem LS.setX {W2 wr : World} {N4 b3 b5 gm gx m cm cx : Nat} (h : LS W2 N4 b3 b5 gm gx m cm cx wr) {i : Nat} (hi : i < m * 3) (v : Value) : LS W2 N4 b3 b5 gm gx m cm cx (wr.setCell ⟨gx, i, none⟩ v) :=
  ⟨h.bel.setCell (p := ⟨gx, i, none⟩) h.ne.2.1 _, h.mc.other h.ne.2.2.2.2.2.1 _, h.xc.other h.ne.2.2.2.2.2.2 _, h.ma.far (fun k e => Below.heap_setCell _ _ _ k (fun e' => by
    have e1 : gm = k := by simpa [Value.ownBlock] using e
    have e2 : k = gx := e'
    exact h.ne.2.2.2.2.1 (e1.trans e2).symm)), h.xa.set hi v, h.ne⟩

abbrev CS (W2 : World) (b1 b3 gm m cap cm : Nat) (ao : Option Addr) (u : World) : Prop :=
  (u.cell? ⟨b1, 0, none⟩ = some (.int .i64 10) ∧ u.cell? ⟨b1, 1, none⟩ = some (.string ⟨#[]⟩) ∧ u.cell? ⟨b1, 2, none⟩ = some (.slice ao m cap) ∧ u.cell? ⟨b3, 2, none⟩ = some (.slice (some ⟨gm, 0, none⟩) m cm)) ∧ Below W2.heap.size W2 u
theorem CS.more {W2 : World} {b1 b3 gm m cap cm : Nat} {ao : Option Addr} {u v : World} (h : CS W2 b1 b3 gm m cap cm ao u) (hb : Below u.heap.size u v) : CS W2 b1 b3 gm m cap cm ao v := by
  obtain ⟨⟨h1, h2, h3, h4⟩, h5⟩ := h
  have k : ∀ {p : Addr} {x : Value}, u.cell? p = some x → v.cell? p = some x := fun hp => (hb.cell (World.block_lt_of_cell? u _ hp)).trans hp
  exact ⟨⟨k h1, k h2, k h3, k h4⟩, h5.trans (hb.mono h5.size)⟩

set_option maxRecDepth 100000 in
set_option maxHeartbeats 8000000 in
theorem walk (bs : List Int) (w : World) (u : Value) (hu : BytesAt w u bs) (T : PrintTabs) (hT : Tabs T w) :
    Calls Tryd.prog 5 #[u] w fun e w' => e = .returned (.bool true) ∧ Below w.heap.size w w' := by
  obtain ⟨uo, uc, hue⟩ : ∃ uo uc, u = .slice uo bs.length uc := by
    rcases hu with ⟨rfl, rfl⟩ | ⟨a, cap, rfl, rfl⟩ | ⟨b, off, cap, rfl, _⟩ <;> exact ⟨_, _, rfl⟩
  subst hue
  have hnice := treeN_nice bs
  obtain ⟨x, hx⟩ : ∃ x, treeN bs = x := ⟨_, rfl⟩
  have hxk : x.k = 10 ∧ x.t = ⟨#[]⟩ := by rw [← hx]; exact ⟨rfl, rfl⟩
  have hx1 : 1 ≤ x.kids.len ∧ x.kids.len ≤ 31 := by rw [← hx]; have := stF_len bs (rounds bs.length); have h2 : rounds bs.length ≤ 30 := Nat.min_le_right _ _; exact ⟨this.1, by show (stF bs _).len ≤ 31; omega⟩
  have htr := tree_calls bs w _ hu
  rw [hx] at hnice htr
  have HU := Lib.hid hu; have HT := Lib.hid hT; have HTR := Lib.hid htr; have HX := Lib.hid hx
  clear hu hT htr hx
  go_enter Tryd.func5, Tryd.ntmps5
  go_wp2_with fail
  refine HTR.out.mono ?_
  rintro e w1 ⟨s, rfl, hbd, hb1⟩
  obtain ⟨ao, cap, rfl⟩ := hbd.slice
  obtain ⟨xk, xt, f⟩ := x
  obtain ⟨rfl, rfl⟩ := hxk
  obtain ⟨m, hm⟩ : ∃ m, f.len = m := ⟨_, rfl⟩
  rw [show (⟨10, ⟨#[]⟩, f⟩ : Nd).kids.len = m from hm] at hx1
  rw [show (⟨10, ⟨#[]⟩, f⟩ : Nd).kids.len = m from hm]
  have hkd1 : KidsAt (Lt w1.heap.size) w1 f (.slice ao m cap) := by
    have := hbd.kids.toLt
    rw [show (⟨10, ⟨#[]⟩, f⟩ : Nd).kids.len = m from hm] at this
    exact this
  have HK1 := Lib.hid hkd1; have HB1 := Lib.hid hb1
  clear hkd1 hbd hb1
  go_upto_region 2 with fail
  obtain ⟨W2, hW2⟩ : ∃ W2, w1.alloc (.cells #[.int .i64 10, .string ⟨#[]⟩, .slice ao m cap] 24) = W2 := ⟨_, rfl⟩
  rw [hW2]
  have hb2 : Below w1.heap.size w1 W2 := by rw [← hW2]; exact (Below.refl _ w1).alloc (Nat.le_refl _) _
  have hs2 : W2.heap.size = w1.heap.size + 1 := by rw [← hW2]; simp
  have hn2 : Blk W2 w1.heap.size 24 #[.int .i64 10, .string ⟨#[]⟩, .slice ao m cap] := by rw [← hW2]; exact Blk.new w1 _ _
  clear hW2
  have hall : ∀ W, Below W2.heap.size W2 W → Blk W w1.heap.size 24 #[.int .i64 10, .string ⟨#[]⟩, .slice ao m cap] ∧ NdAt (Lt W.heap.size) W ⟨10, ⟨#[]⟩, f⟩ (.agg #[.int .i64 10, .string ⟨#[]⟩, .slice ao m cap]) ∧ Tabs T W ∧ BytesAt W (.slice uo bs.length uc) bs ∧ Below w.heap.size w W := fun W hb => by
    have hb3 := hb2.trans (hb.mono hb2.size)
    have hb4 := HB1.out.trans (hb3.mono HB1.out.size)
    exact ⟨hn2.own hb, (NdAt.mk (HK1.out.below hb3 (Nat.le_refl _))).mono hb3.size, HT.out.below hb4, HU.out.below hb4, hb4⟩
  have HALL := Lib.hid hall; have HS2 := Lib.hid hs2
  clear hall hb2 hs2 hn2
  obtain ⟨hn, hnd, _⟩ := HALL.out W2 (Below.refl _ _)
  have c0 := hn.cell 0; have c1 := hn.cell 1; have c2 := hn.cell 2
  have hcp := copy_calls ⟨10, ⟨#[]⟩, f⟩ (by have := hnice.2; omega) W2 _ hnd
  have HCP := Lib.hid hcp
  clear hn hnd hcp
  go_wp2_with fail
  refine HCP.out.mono ?_
  rintro e w3 ⟨u3, rfl, s3, rfl, hb3, hbe3⟩
  obtain ⟨am, cm, rfl⟩ := hb3.slice
  rw [show (⟨10, ⟨#[]⟩, f⟩ : Nd).kids.len = m from hm]
  have hany3 : Any W2.heap.size (.slice am m cm) m w3 := by
    obtain ⟨L, h, _⟩ := hb3
    rw [show (⟨10, ⟨#[]⟩, f⟩ : Nd).kids.len = m from hm] at h
    exact ⟨L, h⟩
  have HB3 := Lib.hid hbe3; have HA3 := Lib.hid hany3
  clear hb3 hbe3 hany3 c0 c1 c2
  go_upto_region 3 with fail
  obtain ⟨W4, hW4⟩ : ∃ W4, w3.alloc (.cells #[.int .i64 10, .string ⟨#[]⟩, .slice am m cm] 24) = W4 := ⟨_, rfl⟩
  rw [hW4]
  have hb4 : Below W2.heap.size W2 W4 := by rw [← hW4]; exact HB3.out.alloc HB3.out.size _
  have hm4 : Blk W4 w3.heap.size 24 #[.int .i64 10, .string ⟨#[]⟩, .slice am m cm] := by rw [← hW4]; exact Blk.new w3 _ _
  have hany4 : Any W2.heap.size (.slice am m cm) m W4 := by
    rw [← hW4]
    obtain ⟨L, h⟩ := HA3.out
    exact ⟨L, h.alloc _⟩
  have hs34 : W4.heap.size = w3.heap.size + 1 := by rw [← hW4]; simp
  clear hW4
  obtain ⟨hn, hnd, _⟩ := HALL.out W4 hb4
  have c0 := hn.cell 0; have c1 := hn.cell 1; have c2 := hn.cell 2
  have hat := at_calls ⟨10, ⟨#[]⟩, f⟩ (by have := hnice.2; omega) [] W4 _ (.slice none 0 0) hnd ⟨none, 0, rfl, Nat.zero_le _, Nat.le_refl _, fun h => absurd rfl h⟩
  have HAT := Lib.hid hat; have HB4 := Lib.hid hb4; have HA4 := Lib.hid hany4; have HM4 := Lib.hid hm4; have HS34 := Lib.hid hs34
  clear hn hnd hat hb4 hany4 hm4 hs34
  go_wp2_with fail
  refine HAT.out.mono ?_
  rintro e w5 h5
  obtain ⟨u5, rfl, s5, rfl, hb5, hbe5⟩ : AtRes W4 (some ⟨10, ⟨#[]⟩, f⟩) e w5 := h5
  obtain ⟨ax, cx, rfl⟩ := hb5.slice
  rw [show (⟨10, ⟨#[]⟩, f⟩ : Nd).kids.len = m from hm]
  have hany5 : Any W4.heap.size (.slice ax m cx) m w5 := by
    obtain ⟨L, h, _⟩ := hb5
    rw [show (⟨10, ⟨#[]⟩, f⟩ : Nd).kids.len = m from hm] at h
    exact ⟨L, h⟩
  have HB5 := Lib.hid hbe5; have HA5 := Lib.hid hany5
  clear hb5 hbe5 hany5 c0 c1 c2
  go_upto_region 4 with fail
  obtain ⟨gm, cm, hgm, hgm1, hgm2, hmc⟩ := HA3.out.form hx1.1
  cases hgm
  obtain ⟨gx, cx, hgx, hgx1, hgx2, hxc⟩ := HA5.out.form hx1.1
  cases hgx
  obtain ⟨W6, hW6⟩ : ∃ W6, w5.alloc (.cells #[.int .i64 10, .string ⟨#[]⟩, .slice (some ⟨gx, 0, none⟩) m cx] 24) = W6 := ⟨_, rfl⟩
  rw [hW6]
  have hLS : LS W2 W4.heap.size w3.heap.size w5.heap.size gm gx m cm cx W6 := by
    have h4s := HB4.out.size
    have h5s := HB5.out.size
    have h34 := HS34.out
    rw [← hW6]
    refine ⟨(HB4.out.trans (HB5.out.mono HB4.out.size)).alloc (by omega) _, (HM4.out.own HB5.out).alloc _, Blk.new w5 _ _, ?_, ?_, ?_⟩
    · obtain ⟨L, h⟩ := HA4.out
      exact ⟨L, (own_step h HB5.out).alloc _⟩
    · obtain ⟨L, h⟩ := HA5.out
      exact ⟨L, h.alloc _⟩
    · exact ⟨hgm1, by omega, by omega, by omega, by omega, by omega, by omega⟩
  have HLS := Lib.hid hLS
  clear hW6 hLS
  go_wp2_with fail
  go_loopw [7] (fun i wr => ∃ k : Nat, k ≤ m ∧ i = .int .i64 (k : Int) ∧ LS W2 W4.heap.size w3.heap.size w5.heap.size gm gx m cm cx wr) (fun i _ => m - (RowKit.intOf i).toNat)
  case atStart => exact ⟨0, Nat.zero_le _, rfl, HLS.out⟩
  case round =>
    obtain ⟨k, hk, rfl, h⟩ := hrel
    have d2 := h.mc.cell 2
    by_cases hlt : k < m
    · have hlt1 : (k : Int) < (m : Int) := by omega
      obtain ⟨⟨y1, e1⟩, f1⟩ := h.ma.cell (i := k * 3 + 1) (by omega)
      have h2 := h.setM (i := k * 3 + 1) (by omega) (.string ⟨#[63]⟩)
      obtain ⟨⟨y0, e0⟩, f0⟩ := h2.ma.cell (i := k * 3) (by omega)
      have g2 := h2.mc.cell 2
      have h3 := h2.setM (i := k * 3) (by omega) (.int .i64 99)
      have H3 := Lib.hid h3
      clear h h2 h3
      go_wp2_with fail
      exact ⟨⟨k + 1, hlt, by go_num, H3.out⟩, by simp [RowKit.intOf]; omega⟩
    · obtain rfl : k = m := by omega
      have hge : decide ((k : Int) < (k : Int)) = false := by simp
      have H := Lib.hid h
      clear h hlt hk
      go_wp2_with fail
      go_loopw [8] (fun i wr => ∃ j : Nat, j ≤ k ∧ i = .int .i64 (j : Int) ∧ LS W2 W4.heap.size w3.heap.size w5.heap.size gm gx k cm cx wr) (fun i _ => k - (RowKit.intOf i).toNat)
      case atStart => exact ⟨0, Nat.zero_le _, rfl, H.out⟩
      case round =>
        obtain ⟨j, hj, rfl, h⟩ := hrel
        have d2 := h.xc.cell 2
        by_cases hlt : j < k
        · have hlt1 : (j : Int) < (k : Int) := by omega
          obtain ⟨⟨y0, e0⟩, f0⟩ := h.xa.cell (i := j * 3) (by omega)
          have h3 := h.setX (i := j * 3) (by omega) (.int .i64 98)
          have H3 := Lib.hid h3
          clear h h3
          go_wp2_with fail
          exact ⟨⟨j + 1, hlt, by go_num, H3.out⟩, by simp [RowKit.intOf]; omega⟩
        · obtain rfl : j = k := by omega
          have hge : decide ((j : Int) < (j : Int)) = false := by simp
          have H := Lib.hid h
          clear h hlt hj
          go_upto_region 13 with fail
          have hS : CS W2 w1.heap.size w3.heap.size gm j cap cm ao wr := ⟨⟨(HALL.out _ H.out.bel).1.cell 0, (HALL.out _ H.out.bel).1.cell 1, (HALL.out _ H.out.bel).1.cell 2, H.out.mc.cell 2⟩, H.out.bel⟩
          have kn : ∀ {u : World}, CS W2 w1.heap.size w3.heap.size gm j cap cm ao u → Calls Tryd.prog 10 #[] u fun e w' => e = .returned (.bool true) ∧ Below u.heap.size u w' := fun h => known_calls T _ (HALL.out _ h.2).2.2.1
          have tr : ∀ {u : World}, CS W2 w1.heap.size w3.heap.size gm j cap cm ao u → Calls Tryd.prog 11 #[.slice uo bs.length uc] u fun e w' => ∃ v, e = .returned v ∧ NdAt (Lt w'.heap.size) w' ⟨10, ⟨#[]⟩, f⟩ v ∧ Below u.heap.size u w' := fun {u} h => by
            refine (tree_calls bs u _ (HALL.out _ h.2).2.2.2.1).mono ?_
            rintro e w' ⟨s, rfl, hbd, hb⟩
            rw [HX.out] at hbd
            exact ⟨_, rfl, NdAt.mk hbd.kids.toLt, hb⟩
          have sm : ∀ {u : World} {v : Value}, CS W2 w1.heap.size w3.heap.size gm j cap cm ao u → NdAt (Lt u.heap.size) u ⟨10, ⟨#[]⟩, f⟩ v → Calls Tryd.prog 19 #[.agg #[.int .i64 10, .string ⟨#[]⟩, .slice ao j cap], v] u fun e w' => e = .returned (.bool true) ∧ Below u.heap.size u w' := fun {u v} h hv => by
            have := same_ok ⟨10, ⟨#[]⟩, f⟩ ⟨10, ⟨#[]⟩, f⟩ u _ v (HALL.out _ h.2).2.1 hv
            rw [Nd.same_self] at this
            exact this
          obtain ⟨⟨b0, b1, b2, b3⟩, _⟩ := id hS
          go_region_held3 (fun u => (u.cell? ⟨w1.heap.size, 0, none⟩ = some (.int .i64 10) ∧ u.cell? ⟨w1.heap.size, 1, none⟩ = some (.string ⟨#[]⟩) ∧ u.cell? ⟨w1.heap.size, 2, none⟩ = some (.slice ao j cap) ∧ u.cell? ⟨w3.heap.size, 2, none⟩ = some (.slice (some ⟨gm, 0, none⟩) j cm)) ∧ Below W2.heap.size W2 u)
            (first
              | assumption
              | exact CS.more hS ((Below.refl _ _).drew)
              | exact CS.more (by assumption) (by assumption))
            (first
              | (go_at_call 10; with_reducible refine (kn (by assumption)).mono ?_; rintro _ u1 ⟨rfl, hbn⟩; have hcs := CS.more (by assumption) hbn)
              | (go_at_call 11; with_reducible refine (tr (by assumption)).mono ?_; rintro _ u2 ⟨v2, rfl, hnd2, hbn2⟩; have hcs := CS.more (by assumption) hbn2)
              | (go_at_call 19; with_reducible refine (sm (by assumption) (by assumption)).mono ?_; rintro _ u3 ⟨rfl, hbn3⟩; have hcs := CS.more (by assumption) hbn3))
          rename_i hHeld
          have hfin := (HALL.out u3 hHeld.2).2.2.2.2
          go_wp2_with fail
          go_ret
          exact ⟨rfl, hfin⟩

set_option maxRecDepth 100000 in
theorem lifted (os : Os) (started : os.Started) (H : Type) (enc : TypeId × Value → H) :
    ReturnsInHanded {} Tryd.checked os 5 .any (fun w args => (Rows.nodeCopySpec.pre enc Tryd.prog Tryd.f5 Rows.nodeCopyRow.domain false w args ∧ laidMetH Tryd.prog nd.laid w) ∧ sizedMet enc Tryd.prog Tryd.f5 (OpenSpec.ofChange Rows.nodeCopySpec) false w args) (Rows.nodeCopySpec.post enc Tryd.prog Tryd.f5 false true false false) := by
  refine returnsInHanded_of_change_and (C := Tryd.checked) (X := fun w _ => laidMetH Tryd.prog nd.laid w) (fun _ _ _ hh h => h.of_heap hh) law.own started (by kernel_rfl) Tryd.func5
    (ChangeSpec.witness_shaped (enc := enc) (C := Tryd.checked) (os := os) (X := fun w _ => laidMetH Tryd.prog nd.laid w) false (World.laidAll Tryd.prog os nd.laid) #[.slice none 0 0] 8 (World.laidAll_os _ _ _) (World.shaped_of_ZipB (by kernel_rfl) (by kernel_rfl)) (by kernel_rfl) (by kernel_rfl) (by kernel_rfl) (nd.laid_met os _)) ?_
  intro W base args ds gs before hval0 hW _ hsize0 hL _
  have hTb := nd.tabs_of_laid hL
  have hval : ∀ (j : Nat) t v, Tryd.f5.params[j]? = some t → args[j]? = some v → Value.okWide Tryd.prog W .any base t v := hval0
  have hW' := hW
  obtain ⟨p, q, hA0, hV, rfl, _, _⟩ := hW
  have hA : DataW.TrodAll enc Tryd.prog W 0 (fun _ => true) true Tryd.f5.params.toList args.toList ds p := hA0
  rw [Tryd.params5] at hA hval
  obtain ⟨v0, d0, rfl, rfl, h0⟩ := trodAll_one hA
  obtain ⟨rfl, rfl⟩ := trodVars_none hV
  obtain ⟨bs, hbs⟩ := law.open_bytes (hval 0 26 v0 rfl rfl) h0
  clear hL
  refine (walk bs W v0 hbs _ hTb).mono fun e W' ⟨he, hb⟩ => ⟨_, he, ?_⟩
  exact law.law_post rfl hW' rfl (by kernel_rfl) (by kernel_rfl) hb

/-- NodeCopy, for every input. -/
theorem holds : Rows.NodeCopySaid :=
  OpenClaim.holds_of_wide 5 Tryd.f5 rfl rfl rfl rfl rfl rfl rfl ⟨rfl, rfl, rfl, rfl, rfl⟩ rfl rfl rfl rfl rfl (by kernel_rfl) Tryd.func5 (by kernel_rfl)
    (of_decide_eq_true (by kernel_rfl)) (by unfold Func.isWrapper; first | (rw [if_pos (by decide +kernel)]; kernel_rfl) | (rw [if_neg (by decide +kernel)]; exact ⟨rfl, rfl⟩))
    (fun os started H enc _ => lifted os started H enc)

/-- The tied card of NodeCopy. -/
theorem card : Rows.NodeCopyCardSaid :=
  Claim7.holds_tied_plain_at .later [] [.data, .data, .data, .data, .pinned, .pinned, .pinned, .pinned, .pinned, .pinned] true Rows.nodeCopyCard.stood.harness false
    holds (fun _ h => by cases h) (by kernel_rfl) (fun _ h => by cases h) nodeCopy_row_tie rfl ⟨rfl, rfl⟩ (by kernel_rfl) rfl
    (fun f fn hf hfn => by
      obtain rfl : f = 5 := Option.some.inj ((show Tryd.prog.funcNamed "subeditor/subeditorlaw07.NodeCopy" = some 5 by kernel_rfl).symm.trans hf) |>.symm
      obtain rfl : fn = Tryd.f5 := (Option.some.inj (Tryd.func5.symm.trans hfn)).symm
      exact ⟨by kernel_rfl, fun j t ht => by
        rw [Tryd.params5] at ht
        have hm := List.mem_toArray.1 (Array.mem_of_getElem? ht)
        have hall : (Tryd.f5.params.toList.all fun u => !Tryd.prog.wantsStandIn u) = true := by kernel_rfl
        rw [show Tryd.f5.params.toList = _ from congrArg Array.toList Tryd.params5] at hall
        exact (show Tryd.prog.wantsStandIn t = false by simpa using List.all_eq_true.1 hall t hm)⟩)
    (by kernel_rfl)
end Go.Proofs.YtbdkemgfdghbkaaDoor.nodeCopy
