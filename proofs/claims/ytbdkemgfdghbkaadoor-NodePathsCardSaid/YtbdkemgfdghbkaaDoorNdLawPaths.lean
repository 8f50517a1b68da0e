/-
  subeditorlaw07.NodePaths: for every input it returns true, and the arguments read as they did. No condition.
-/
import Derived.Test.YtbdkemgfdghbkaaDoorNdLaw
import Derived.Test.YtbdkemgfdghbkaaDoorNdPure
import Derived.Test.YtbdkemgfdghbkaaDoorNdEqual
import Derived.Deep.RegionHeld3
import Derived.Test.YtbdkemgfdghbkaaDoorNdAppI
import Derived.Maps.AppendAt
import Derived.Test.YtbdkemgfdghbkaaDoorTie
import Derived.Test.YtbdkemgfdghbkaaDoorCards
namespace Go.Proofs.YtbdkemgfdghbkaaDoor.nodePaths
open Go.RowKit Go.ChangeShapes Go.WideShapes Go.ChangeAt Go.Shelf Go.Lib sx ed law nd
set_option linter.unusedVariables false

/-- What holds in a statement that calls At: the tree's box ba, the list's cell. -/
abbrev PC (w7 : World) (ba gl k m cap pl pc : Nat) (ao pa : Option Addr) (u : World) : Prop :=
  (u.cell? ⟨ba, 0, none⟩ = some (.int .i64 10) ∧ u.cell? ⟨ba, 1, none⟩ = some (.string ⟨#[]⟩) ∧ u.cell? ⟨ba, 2, none⟩ = some (.slice ao m cap) ∧ u.cell? ⟨gl, k, none⟩ = some (.slice pa pl pc)) ∧ Below w7.heap.size w7 u
theorem PC.far {w7 : World} {ba gl k m cap pl pc : Nat} {ao pa : Option Addr} {u v : World} (h : PC w7 ba gl k m cap pl pc ao pa u) (hl : ba < w7.heap.size ∧ gl < w7.heap.size) (hb : Below w7.heap.size u v) : PC w7 ba gl k m cap pl pc ao pa v := by
  obtain ⟨⟨h1, h2, h3, h4⟩, h5⟩ := h
  exact ⟨⟨(hb.cell (p := ⟨ba, 0, none⟩) hl.1).trans h1, (hb.cell (p := ⟨ba, 1, none⟩) hl.1).trans h2, (hb.cell (p := ⟨ba, 2, none⟩) hl.1).trans h3, (hb.cell (p := ⟨gl, k, none⟩) hl.2).trans h4⟩, h5.trans hb⟩
theorem PC.more {w7 : World} {ba gl k m cap pl pc : Nat} {ao pa : Option Addr} {u v : World} (h : PC w7 ba gl k m cap pl pc ao pa u) (hl : ba < w7.heap.size ∧ gl < w7.heap.size) (hb : Below u.heap.size u v) : PC w7 ba gl k m cap pl pc ao pa v := h.far hl (hb.mono h.2.size)

theorem at_weight : ∀ (l : List Int) {x y : Nd}, x.at l = some y → y.weight ≤ x.weight
  | [], x, y, h => by cases h; exact Nat.le_refl _
  | i :: p, x, y, h => by
    obtain ⟨z, _, hz, hy⟩ := at_cons h
    have h1 := at_weight p hy
    have h2 := Fo.weight_get hz
    simp only [Nd.weight] at h1 h2 ⊢
    omega
theorem own_ints' {W : World} {base : Nat} {v : Value} {l : List Int} (h : W.ownsRow base 3 1 v l.length (l.map fun z => .int .i64 z)) (hm : l.length ≤ maxLen) : IntsAt (Lt W.heap.size) W v l := by
  obtain ⟨ao, cap, rfl, hc⟩ := own_len' h
  refine ⟨ao, cap, rfl, hm, hc, fun hn => ?_⟩
  rcases id h.2 with ⟨_, h0⟩ | ⟨g, cp, cur, e, _⟩
  · exact absurd (List.length_eq_zero_iff.1 h0) hn
  · cases e
    refine ⟨g, 0, rfl, (h.lt g rfl).2, fun j z hj => ?_⟩
    have := h.cells (g := g) rfl j (.int .i64 z) (by rw [List.getElem?_map, hj]; rfl)
    rw [nd.addr_add] at this
    exact this
theorem path_len {x : Nd} {p : List Nat} (h : p ∈ x.paths) : p.length ≤ x.count := by
  rw [← Nd.walk_paths] at h
  obtain ⟨y, hy, rfl⟩ := List.mem_map.1 h
  have h1 := Nd.walk_short x hy
  have h2 := Nd.deep_le x
  simp at h1
  omega
abbrev QC (w7 : World) (gl k j pl pc ql qc : Nat) (pa qa : Option Addr) (u : World) : Prop :=
  (u.cell? ⟨gl, k, none⟩ = some (.slice pa pl pc) ∧ u.cell? ⟨gl, j, none⟩ = some (.slice qa ql qc)) ∧ Below w7.heap.size w7 u
theorem QC.more {w7 : World} {gl k j pl pc ql qc : Nat} {pa qa : Option Addr} {u v : World} (h : QC w7 gl k j pl pc ql qc pa qa u) (hb : Below u.heap.size u v) : QC w7 gl k j pl pc ql qc pa qa v := by
  obtain ⟨⟨h1, h2⟩, h3⟩ := h
  have q : ∀ {p : Addr} {x : Value}, u.cell? p = some x → v.cell? p = some x := fun hp => (hb.cell (World.block_lt_of_cell? u _ hp)).trans hp
  exact ⟨⟨q h1, q h2⟩, h3.trans (hb.mono h3.size)⟩

set_option maxRecDepth 100000 in
set_option maxHeartbeats 8000000 in
theorem walk (bs : List Int) (kk : Int) (hkk : 0 ≤ kk ∧ kk ≤ 255) (w : World) (u : Value) (hu : BytesAt w u bs) (T : PrintTabs) (hT : Tabs T w) :
    Calls Tryd.prog 7 #[u, .int .u8 kk] w fun e w' => e = .returned (.bool true) ∧ Below w.heap.size w w' := by
  have hna := treeN_nice bs
  obtain ⟨fa, hfa⟩ : ∃ fa, (treeN bs).kids = fa := ⟨_, rfl⟩
  rw [show treeN bs = ⟨10, ⟨#[]⟩, fa⟩ by rw [← hfa]; rfl] at hna
  have hta := tree_calls bs w u hu
  rw [hfa] at hta
  have HT := Lib.hid hT; have HTA := Lib.hid hta
  clear hT hu hta hfa
  go_enter Tryd.func7, Tryd.ntmps7
  go_wp2_with fail
  refine HTA.out.mono ?_
  rintro e w1 ⟨s, rfl, hbd, hb1⟩
  obtain ⟨ao, cap, rfl⟩ := hbd.slice
  obtain ⟨m, hm⟩ : ∃ m, fa.len = m := ⟨_, rfl⟩
  rw [hm]
  have hka := hbd.kids.toLt
  rw [hm] at hka
  have HKA := Lib.hid hka; have HB1 := Lib.hid hb1
  clear hka hbd hb1
  go_upto_region 2 with fail
  obtain ⟨W2, hW2⟩ : ∃ W2, w1.alloc (.cells #[.int .i64 10, .string ⟨#[]⟩, .slice ao m cap] 24) = W2 := ⟨_, rfl⟩
  rw [hW2]
  have hb2 : Below w1.heap.size w1 W2 := by rw [← hW2]; exact (Below.refl _ w1).alloc (Nat.le_refl _) _
  have hn2 : Blk W2 w1.heap.size 24 #[.int .i64 10, .string ⟨#[]⟩, .slice ao m cap] := by rw [← hW2]; exact Blk.new w1 _ _
  have hbw2 := HB1.out.trans (hb2.mono HB1.out.size)
  have hka2 : KidsAt (Lt W2.heap.size) W2 fa (.slice ao m cap) := (HKA.out.below hb2 (Nat.le_refl _)).mono hb2.size
  obtain ⟨x, hx⟩ : ∃ x, (⟨10, ⟨#[]⟩, fa⟩ : Nd) = x := ⟨_, rfl⟩
  have hnd2 : NdAt (Lt W2.heap.size) W2 x (.agg #[.int .i64 10, .string ⟨#[]⟩, .slice ao m cap]) := by rw [← hx]; exact NdAt.mk hka2
  rw [hx] at hna
  obtain ⟨c, hc⟩ : ∃ c, x.count = c := ⟨_, rfl⟩
  have hc2 : c ≤ 200 := by rw [← hc]; exact Nat.le_trans (Nd.count_le x) hna.2
  have hc1 : 1 ≤ c := by rw [← hc]; simp [Nd.count]
  have hpa := paths_calls x (by omega) W2 _ hnd2
  rw [hc] at hpa
  have x0 := hn2.cell 0; have x1 := hn2.cell 1; have x2 := hn2.cell 2
  have HN2 := Lib.hid hn2; have HND2 := Lib.hid hnd2; have HBW2 := Lib.hid hbw2; have HNA := Lib.hid hna; have HC := Lib.hid hc; have HPA := Lib.hid hpa
  clear hW2 hb2 hn2 hbw2 hka2 hx hnd2 hna hc hpa
  go_wp2_with fail
  refine HPA.out.mono ?_
  rintro e w7 ⟨v7, L, rfl, hown, hls, hb7⟩
  have hrow : ∃ gl cl, v7 = .slice (some ⟨gl, 0, none⟩) c cl ∧ c ≤ cl ∧ gl < w7.heap.size := by
    rcases id hown.2 with ⟨_, h0⟩ | ⟨g, cp, cur, e, _, _, h4, _⟩
    · omega
    · exact ⟨g, cp, e, h4, (hown.lt g (by rw [e]; rfl)).2⟩
  obtain ⟨gl, cl, rfl, hcl, hgl⟩ := hrow
  have hbw7 := HBW2.out.trans (hb7.mono HBW2.out.size)
  have hl : w1.heap.size < w7.heap.size ∧ gl < w7.heap.size := ⟨by have := HN2.out.lt; have := hb7.size; omega, hgl⟩
  have hn7 := HN2.out.own hb7
  have hnd7 := (HND2.out.below hb7 (Nat.le_refl _)).mono hb7.size
  have hT7 := HT.out.below hbw7
  have hall : ∀ W, Below w7.heap.size w7 W → NdAt (Lt W.heap.size) W x (.agg #[.int .i64 10, .string ⟨#[]⟩, .slice ao m cap]) ∧ Tabs T W ∧ Below w.heap.size w W := fun W hb =>
    ⟨(hnd7.below hb (Nat.le_refl _)).mono hb.size, hT7.below hb, hbw7.trans (hb.mono hbw7.size)⟩
  have hpath : ∀ (k : Nat) (p : List Nat), x.paths[k]? = some p → ∃ pa pc, ∀ W, Below w7.heap.size w7 W → PC w7 w1.heap.size gl k m cap p.length pc ao pa W ∧ IntsAt (Lt W.heap.size) W (.slice pa p.length pc) (ints p) := fun k p hp => by
    obtain ⟨cv, hcv, hci⟩ := hls.2 k (ints p) (by rw [List.getElem?_map, hp]; rfl)
    obtain ⟨pa, pc, rfl, _⟩ := id hci
    have hcell := hown.cells (g := gl) rfl k _ hcv
    rw [nd.addr_add, Nat.zero_add] at hcell
    rw [show (ints p).length = p.length by simp [ints]] at hcell hci
    refine ⟨pa, pc, fun W hb => ⟨⟨⟨(hn7.own hb).cell 0, (hn7.own hb).cell 1, (hn7.own hb).cell 2, (hb.cell (p := ⟨gl, k, none⟩) hgl).trans hcell⟩, hb⟩, ?_⟩⟩
    exact hci.keep (fun j hj => Nat.lt_of_lt_of_le hj.2 hb.size) (fun j hj => hb.block j hj.2)
  have HALL := Lib.hid hall; have HPATH := Lib.hid hpath; have HL := Lib.hid hl
  clear hall hpath hl hown hls hb7 hbw7 hn7 hnd7 hT7 x0 x1 x2 hgl
  go_wp2_with fail
  go_loopw [7] (fun i wr => ∃ k : Nat, k ≤ c ∧ i = .int .i64 (k : Int) ∧ Below w7.heap.size w7 wr) (fun i _ => c - (RowKit.intOf i).toNat)
  case atStart => exact ⟨0, Nat.zero_le _, rfl, Below.refl _ _⟩
  case round =>
    obtain ⟨k, hk, rfl, hb⟩ := hrel
    by_cases hlt : k < c
    · have hlt1 : (k : Int) < (c : Int) := by omega
      obtain ⟨p, hp⟩ : ∃ p, x.paths[k]? = some p := ⟨_, List.getElem?_eq_getElem (by rw [Nd.paths_len, HC.out]; exact hlt)⟩
      obtain ⟨pa, pc, hpk⟩ := HPATH.out k p hp
      obtain ⟨y, hy⟩ := Nd.at_paths (List.mem_of_getElem? hp)
      have hPC := (hpk wr hb).1
      have hat : ∀ {u : World}, PC w7 w1.heap.size gl k m cap p.length pc ao pa u → Calls Tryd.prog 18 #[.agg #[.int .i64 10, .string ⟨#[]⟩, .slice ao m cap], .slice pa p.length pc] u fun e w' => ∃ (s : Option Addr) (n cc : Nat), e = .returned (.tuple #[.agg #[.int .i64 y.k, .string y.t, .slice s n cc], .bool true]) ∧ Below u.heap.size u w' := fun {u} h => by
        refine (at_calls x (by have := HNA.out.2; omega) (ints p) u _ _ (HALL.out u h.2).1 (hpk u h.2).2).mono fun e w' hr => ?_
        rw [show x.at (ints p) = some y from hy] at hr
        obtain ⟨v, rfl, s, rfl, hbd, hbe⟩ := hr
        obtain ⟨s', cc, rfl⟩ := hbd.slice
        exact ⟨s', _, cc, rfl, hbe⟩
      have hwl := HL.out
      obtain ⟨⟨x0, x1, x2, x3⟩, _⟩ := id hPC
      have HB := Lib.hid hb; have HP := Lib.hid hp
      clear hb hp hy hpk
      have hwr7 : w7.heap.size ≤ wr.heap.size := HB.out.size
      go_upto_region 6 with fail
      go_region_held3 (fun u => (u.cell? ⟨w1.heap.size, 0, none⟩ = some (.int .i64 10) ∧ u.cell? ⟨w1.heap.size, 1, none⟩ = some (.string ⟨#[]⟩) ∧ u.cell? ⟨w1.heap.size, 2, none⟩ = some (.slice ao m cap) ∧ u.cell? ⟨gl, k, none⟩ = some (.slice pa p.length pc)) ∧ Below w7.heap.size w7 u)
        (first
          | assumption
          | exact PC.far (by assumption) hwl (set3_below _ _ _ hwr7)
          | exact PC.more hPC hwl ((Below.refl _ _).drew)
          | exact PC.more hPC hwl (((Below.refl _ _).drew).alloc (Nat.le_refl _) _)
          | exact PC.more (by assumption) hwl ((Below.refl _ _).alloc (Nat.le_refl _) _)
          | exact PC.more (by assumption) hwl (by assumption))
        (first
          | (go_at_call 18; with_reducible refine (hat (by assumption)).mono ?_; rintro _ u1 ⟨s1, n1, c1, rfl, hbn⟩; have hR1 := PC.more (by assumption) hwl hbn; (first | (have kz : Blk u1 wr.heap.size 24 #[.int .i64 0, .string ⟨#[]⟩, .slice none 0 0] := ((Blk.new wr 24 #[.int .i64 0, .string ⟨#[]⟩, .slice none 0 0]).drew').own hbn; have kf0 := kz.frozen 0; have kf1 := kz.frozen 1; have kf2 := kz.frozen 2; have kc0 := kz.cell 0; have kc1 := kz.cell 1; have kc2 := kz.cell 2) | skip)))
      all_goals
        rename_i hHeld
        have hbq := hHeld.2
        have HBQ := Lib.hid hbq
        clear hHeld hR1 hbn hPC hbq
        first
          | (obtain ⟨wq, hwq⟩ : ∃ wq, (((u1.setCell ⟨wr.heap.size, 0, none⟩ (.int .i64 y.k)).setCell ⟨wr.heap.size, 1, none⟩ (.string y.t)).setCell ⟨wr.heap.size, 2, none⟩ (.slice s1 n1 c1)) = wq := ⟨_, rfl⟩
             rw [hwq] at HBQ ⊢)
          | (obtain ⟨wq, hwq⟩ : ∃ wq, u1.alloc (.cells #[.int .i64 y.k, .string y.t, .slice s1 n1 c1] 24) = wq := ⟨_, rfl⟩
             rw [hwq] at HBQ ⊢)
        clear hwq hat x0 x1 x2 x3
        go_wp2_with fail
        go_loopw [10] (fun i wz => ∃ j : Nat, j ≤ k ∧ i = .int .i64 (j : Int) ∧ Below w7.heap.size w7 wz) (fun i _ => k - (RowKit.intOf i).toNat)
        case atStart => exact ⟨0, Nat.zero_le _, rfl, HBQ.out⟩
        case round =>
          obtain ⟨j, hj, rfl, hb⟩ := hrel
          by_cases hjk : j < k
          · have hjk1 : (j : Int) < (k : Int) := by omega
            obtain ⟨q, hq⟩ : ∃ q, x.paths[j]? = some q := ⟨_, List.getElem?_eq_getElem (by rw [Nd.paths_len, HC.out]; omega)⟩
            obtain ⟨pa', pc', hpk⟩ := HPATH.out k p HP.out
            obtain ⟨qa, qc, hqk⟩ := HPATH.out j q hq
            have hne : p ≠ q := fun e => by
              subst e
              have h1 := (List.getElem?_eq_some_iff.1 HP.out)
              have h2 := (List.getElem?_eq_some_iff.1 hq)
              have := (List.getElem_inj (h₀ := h1.1) (h₁ := h2.1) (Nd.paths_nodup x)).1 (h1.2.trans h2.2.symm)
              omega
            have hne2 : ints p ≠ ints q := fun e => hne (by
              have := congrArg (List.map Int.toNat) e
              simpa [ints, List.map_map, Function.comp_def] using this)
            have k3 := (hpk _ hb).1.1.2.2.2
            have j3 := (hqk _ hb).1.1.2.2.2
            have hplen : p.length ≤ 1000000 := by have := path_len (List.mem_of_getElem? HP.out); have := HC.out; omega
            obtain ⟨lp, hlp⟩ : ∃ lp, p.length = lp := ⟨_, rfl⟩
            obtain ⟨lq, hlq⟩ : ∃ lq, q.length = lq := ⟨_, rfl⟩
            have heq : lp = lq → ∀ {u : World}, Below w7.heap.size w7 u → Calls Tryd.prog 24 #[.slice pa' lp pc', .slice qa lq qc] u fun e w' => e = .returned (.bool false) ∧ Below u.heap.size u w' := fun e {u} h => by
              have h1 := (hpk u h).2
              have h2 := (hqk u h).2
              rw [hlp] at h1; rw [hlq] at h2
              exact equal_calls (ints p) (ints q) lp (by simp [ints, hlp]) (by simp [ints, hlq, e]) (by omega) hne2 u _ _ h1 h2
            rw [hlp] at k3; rw [hlq] at j3
            have hjc : (j : Int) < (c : Int) := by omega
            have hkc : (k : Int) < (c : Int) := by omega
            have HB3 := Lib.hid hb; have HEQ := Lib.hid @heq
            clear hb hq hpk hqk hne hne2 hplen hlp hlq heq
            by_cases hll : lp = lq
            · subst hll
              have heq : ∀ {u : World}, Below w7.heap.size w7 u → Calls Tryd.prog 24 #[.slice pa' lp pc', .slice qa lp qc] u fun e w' => e = .returned (.bool false) ∧ Below u.heap.size u w' := fun {u} h => HEQ.out rfl h
              have hQ := (⟨⟨k3, j3⟩, HB3.out⟩ : QC w7 gl k j lp pc' lp qc pa' qa _)
              have HQ := Lib.hid hQ
              go_upto_region 12 with fail
              go_region_held3 (fun u => (u.cell? ⟨gl, k, none⟩ = some (.slice pa' lp pc') ∧ u.cell? ⟨gl, j, none⟩ = some (.slice qa lp qc)) ∧ Below w7.heap.size w7 u)
                (first
                  | assumption
                  | exact QC.more HQ.out ((Below.refl _ _).drew)
                  | exact QC.more (by assumption) (by assumption))
                (first
                  | (go_at_call 24; with_reducible refine (heq (And.right (by assumption : QC w7 gl k j lp pc' lp qc pa' qa _))).mono ?_; rintro _ u5 ⟨rfl, hbn5⟩; have hcs := QC.more (by assumption) hbn5))
              rename_i hHeld
              have hb5 := hHeld.2
              have HB5 := Lib.hid hb5
              clear hHeld hcs hbn5 hb5 hQ
              go_wp2_with fail
              exact ⟨⟨j + 1, hjk, by go_num, HB5.out⟩, by simp [RowKit.intOf]; omega⟩
            · have hg : ((lp : Int) == (lq : Int)) = false := by simp; omega
              have hg2 : decide ((lp : Int) = (lq : Int)) = false := by simp; omega
              go_upto_region 12 with fail
              go_region
              go_wp2_with fail
              exact ⟨⟨j + 1, hjk, by go_num, HB3.out.drew⟩, by simp [RowKit.intOf]; omega⟩
          · obtain rfl : j = k := by omega
            have hge : decide ((j : Int) < (j : Int)) = false := by simp
            have HB3 := Lib.hid hb
            clear hb
            go_wp2_with fail
            exact ⟨⟨j + 1, hlt, by go_num, HB3.out⟩, by simp [RowKit.intOf]; omega⟩
    · obtain rfl : k = c := by omega
      have hge : decide ((k : Int) < (k : Int)) = false := by simp
      have hk0 : decide ((k : Int) = 0) = false := decide_eq_false (by omega)
      obtain ⟨r, hr, hrk⟩ : ∃ r : Nat, kk % (k : Int) = (r : Int) ∧ r < k := ⟨(kk % (k : Int)).toNat, by have := Int.emod_nonneg kk (show (k : Int) ≠ 0 by omega); omega, by have := Int.emod_lt_of_pos kk (show 0 < (k : Int) by omega); have := Int.emod_nonneg kk (show (k : Int) ≠ 0 by omega); omega⟩
      have hrt : Int.tmod kk (k : Int) = (r : Int) := by rw [Int.tmod_eq_emod_of_nonneg hkk.1]; exact hr
      have hr1 : (r : Int) < (k : Int) := by omega
      obtain ⟨p, hp⟩ : ∃ p, x.paths[r]? = some p := ⟨_, List.getElem?_eq_getElem (by rw [Nd.paths_len, HC.out]; exact hrk)⟩
      obtain ⟨pa, pc, hpk⟩ := HPATH.out r p hp
      obtain ⟨y, hy⟩ := Nd.at_paths (List.mem_of_getElem? hp)
      have hplen : p.length ≤ 200 := by have := path_len (List.mem_of_getElem? hp); have := HC.out; omega
      have hyl : y.kids.len ≤ 200 := by have h1 := at_weight (ints p) hy; have h2 := Fo.len_le y.kids; have h3 := Nd.count_le y; have := HNA.out.2; simp only [Nd.count] at h3; omega
      have hbey := beyond (ints p) x hy
      obtain ⟨⟨x0, x1, x2, x3⟩, _⟩ := (hpk wr hb).1
      have hat := at_calls x (by have := HNA.out.2; omega) (ints p) wr _ _ (HALL.out wr hb).1 (hpk wr hb).2
      rw [show x.at (ints p) = some y from hy] at hat
      have hkne : ¬ ((k : Int) = 0) := by omega
      have HB := Lib.hid hb; have HAT := Lib.hid hat; have HPK := Lib.hid hpk; have HBEY := Lib.hid hbey
      clear hlt hk hb hat hpk hbey hp hy
      go_wp2_with fail
      refine HAT.out.mono ?_
      rintro e w8 h8
      obtain ⟨v8, rfl, s8, rfl, hbd8, hb8⟩ : AtRes wr (some y) e w8 := h8
      obtain ⟨sa, sc, rfl⟩ := hbd8.slice
      have hb98 : Below w7.heap.size w7 w8 := HB.out.trans (hb8.mono HB.out.size)
      have HB8 := Lib.hid hb98
      clear hbd8 hb8 hb98 x0 x1 x2 x3
      go_upto_region 19 with fail
      obtain ⟨n, hn⟩ : ∃ n, y.kids.len = n := ⟨_, rfl⟩
      rw [hn] at hyl ⊢
      have hbey := HBEY.out
      rw [hn] at hbey
      have HBEY2 := Lib.hid hbey
      obtain ⟨W9, hW9⟩ : ∃ W9, w8.alloc (.cells #[.int .i64 y.k, .string y.t, .slice sa n sc] 24) = W9 := ⟨_, rfl⟩
      rw [hW9]
      have hb9 : Below w7.heap.size w7 W9 := by rw [← hW9]; exact HB8.out.alloc HB8.out.size _
      have hx9 : Blk W9 w8.heap.size 24 #[.int .i64 y.k, .string y.t, .slice sa n sc] := by rw [← hW9]; exact Blk.new w8 _ _
      have hpi := (HPK.out W9 hb9).2
      have hil : (ints p).length = p.length := by simp [ints]
      obtain ⟨l, hlp⟩ : ∃ l, ints p = l := ⟨_, rfl⟩
      rw [hlp] at hpi hil
      have HB9 := Lib.hid hb9; have HX9 := Lib.hid hx9; have HPI := Lib.hid hpi; have HLP := Lib.hid hlp; have HIL := Lib.hid hil; have HN := Lib.hid hn
      clear hW9 hb9 hx9 hpi hlp hbey hn
      obtain ⟨i0, hi, hz0, hz1, hz2⟩ := info_parts infoI
      go_upto_region 20 with (at_builtin; refine wpList_append_ints rfl _ _ rfl _ l _ rfl rfl HPI.out (by omega) ?_; intro v10 W10 hown10 hb10; obtain ⟨qa, qc, rfl, hqc⟩ := own_len' hown10; have e2 := (HX9.out.own hb10).cell 2)
      rw [hil] at hown10
      have hB10 := HB9.out.trans (hb10.mono HB9.out.size)
      have h9s := hb10.size
      have HOWN := Lib.hid hown10; have HB10 := Lib.hid hB10
      clear hown10 hb10 hB10
      go_upto_region 21 with (at_builtin; refine wpList_append_own_at _ rfl _ _ 25 rfl W9.heap.size 3 i0 _ 1 8 Tryd.underlying25 hi hz0 hz1 hz2 rfl (by decide) _ _ _ rfl (HOWN.out.alloc _) ⟨W10.heap.size, 0, none⟩ 1 1 [.int .i64 (n : Int)] rfl rfl (cell_one_new _ _ _) (by simp [Value.oneCell']) (by unfold maxLen; omega) (by omega) (by simp; omega) ?_; intro v12 W12 hown12 hgrow12 _ _; obtain ⟨ta, tc, rfl, htc⟩ := own_len' hown12)
      have hB12 : Below w7.heap.size w7 W12 := (HB10.out.alloc HB10.out.size _).grown hgrow12 (by have := HB10.out.size; simp; omega) (fun j e => by have := (HOWN.out.lt j e).1; have := HB9.out.size; omega)
      have hqi : IntsAt (Lt W12.heap.size) W12 (.slice ta (p.length + 1) tc) (l ++ [(n : Int)]) := by
        refine own_ints' (base := W9.heap.size) ?_ (by unfold maxLen; simp [HIL.out]; omega)
        rw [List.length_append, HIL.out, List.map_append]
        exact hown12
      have hat2 := at_calls x (by have := HNA.out.2; omega) (l ++ [(n : Int)]) W12 _ _ (HALL.out W12 hB12).1 hqi
      rw [← HLP.out, HBEY2.out.1] at hat2
      obtain ⟨⟨x0, x1, x2, x3⟩, _⟩ := (HPK.out W12 hB12).1
      have HB12 := Lib.hid hB12; have HQI := Lib.hid hqi; have HAT2 := Lib.hid hat2
      clear hown12 hgrow12 hB12 hqi hat2 e2
      go_wp2_with fail
      refine HAT2.out.mono ?_
      rintro e w13 h13
      obtain ⟨rfl, hb13⟩ : AtRes W12 none e w13 := h13
      have hB13 := HB12.out.trans (hb13.mono HB12.out.size)
      have HB13 := Lib.hid hB13; have HQI13 := Lib.hid ((HQI.out.below hb13 (Nat.le_refl _)).keep (fun _ h => Nat.lt_of_lt_of_le h hb13.size) (fun _ _ => rfl))
      clear hb13 hB13 x0 x1 x2 x3
      go_upto_region 22 with fail
      obtain ⟨W14, hW14⟩ : ∃ W14, w13.alloc (.cells #[.int .i64 0, .string ⟨#[]⟩, .slice none 0 0] 24) = W14 := ⟨_, rfl⟩
      rw [hW14]
      have hal : Below w13.heap.size w13 W14 := by rw [← hW14]; exact (Below.refl _ w13).alloc (Nat.le_refl _) _
      have hB14 := HB13.out.trans (hal.mono HB13.out.size)
      have hqi14 : IntsAt (Lt W14.heap.size) W14 (.slice ta (p.length + 1) tc) (l ++ [(n : Int)]) := (HQI13.out.below hal (Nat.le_refl _)).keep (fun _ h => Nat.lt_of_lt_of_le h hal.size) (fun _ _ => rfl)
      have hwi := with_calls x x (by have := HNA.out.2; omega) (by have := HNA.out.2; omega) (l ++ [(n : Int)]) W14 _ _ _ (HALL.out W14 hB14).1 hqi14 (HALL.out W14 hB14).1
      rw [← HLP.out, HBEY2.out.2] at hwi
      obtain ⟨⟨x0, x1, x2, x3⟩, _⟩ := (HPK.out W14 hB14).1
      have HB14 := Lib.hid hB14; have HWI := Lib.hid hwi
      clear hW14 hal hB14 hqi14 hwi
      go_wp2_with fail
      refine HWI.out.mono ?_
      rintro e w15 h15
      obtain ⟨rfl, hb15⟩ : AtRes W14 none e w15 := h15
      have hB15 := HB14.out.trans (hb15.mono HB14.out.size)
      have HB15 := Lib.hid hB15
      clear hb15 hB15 x0 x1 x2 x3
      go_upto_region 23 with fail
      obtain ⟨W16, hW16⟩ : ∃ W16, w15.alloc (.cells #[.int .i64 0, .string ⟨#[]⟩, .slice none 0 0] 24) = W16 := ⟨_, rfl⟩
      rw [hW16]
      have hB16 : Below w7.heap.size w7 W16 := by rw [← hW16]; exact HB15.out.alloc HB15.out.size _
      have hkn := known_calls T W16 (HALL.out W16 hB16).2.1
      have hBw := (HALL.out W16 hB16).2.2
      have HKN := Lib.hid hkn; have HBW := Lib.hid hBw
      clear hW16 hB16 hkn hBw
      go_wp2_with fail
      refine HKN.out.mono ?_
      rintro e w17 ⟨rfl, hb17⟩
      have HBZ := Lib.hid (HBW.out.trans (hb17.mono HBW.out.size))
      clear hb17
      go_wp2_with fail
      go_ret
      exact ⟨rfl, HBZ.out⟩

set_option maxRecDepth 100000 in
theorem lifted (os : Os) (started : os.Started) (H : Type) (enc : TypeId × Value → H) :
    ReturnsInHanded {} Tryd.checked os 7 .any (fun w args => (Rows.nodePathsSpec.pre enc Tryd.prog Tryd.f7 Rows.nodePathsRow.domain false w args ∧ laidMetH Tryd.prog nd.laid w) ∧ sizedMet enc Tryd.prog Tryd.f7 (OpenSpec.ofChange Rows.nodePathsSpec) false w args) (Rows.nodePathsSpec.post enc Tryd.prog Tryd.f7 false true false false) := by
  refine returnsInHanded_of_change_and (C := Tryd.checked) (X := fun w _ => laidMetH Tryd.prog nd.laid w) (fun _ _ _ hh h => h.of_heap hh) law.own started (by kernel_rfl) Tryd.func7
    (ChangeSpec.witness_shaped (enc := enc) (C := Tryd.checked) (os := os) (X := fun w _ => laidMetH Tryd.prog nd.laid w) false (World.laidAll Tryd.prog os nd.laid) #[.slice none 0 0, .int .u8 0] 8 (World.laidAll_os _ _ _) (World.shaped_of_ZipB (by kernel_rfl) (by kernel_rfl)) (by kernel_rfl) (by kernel_rfl) (by kernel_rfl) (nd.laid_met os _)) ?_
  intro W base args ds gs before hval0 hW _ hsize0 hL _
  have hTb := nd.tabs_of_laid hL
  have hval : ∀ (j : Nat) t v, Tryd.f7.params[j]? = some t → args[j]? = some v → Value.okWide Tryd.prog W .any base t v := hval0
  have hW' := hW
  obtain ⟨p, q, hA0, hV, rfl, _, _⟩ := hW
  have hA : DataW.TrodAll enc Tryd.prog W 0 (fun _ => true) true Tryd.f7.params.toList args.toList ds p := hA0
  rw [Tryd.params7] at hA hval
  obtain ⟨v0, v1, d0, d1, p0, p1, rfl, rfl, rfl, h0, h1⟩ := trodAll_two hA
  obtain ⟨rfl, rfl⟩ := trodVars_none hV
  obtain ⟨bs0, hbs0⟩ := law.open_bytes (hval 0 26 v0 rfl rfl) h0
  obtain ⟨k1, rfl, rfl, rfl, wk1⟩ := open_int Tryd.underlying5 (hval 1 5 v1 rfl rfl) h1
  clear hL
  refine (walk bs0 k1 (law.u8_wf wk1) W v0 hbs0 _ hTb).mono fun e W' ⟨he, hb⟩ => ⟨_, he, ?_⟩
  exact law.law_post rfl hW' rfl (by kernel_rfl) (by kernel_rfl) hb

/-- NodePaths, for every input. -/
theorem holds : Rows.NodePathsSaid :=
  OpenClaim.holds_of_wide 7 Tryd.f7 rfl rfl rfl rfl rfl rfl rfl ⟨rfl, rfl, rfl, rfl, rfl⟩ rfl rfl rfl rfl rfl (by kernel_rfl) Tryd.func7 (by kernel_rfl)
    (of_decide_eq_true (by kernel_rfl)) (by unfold Func.isWrapper; first | (rw [if_pos (by decide +kernel)]; kernel_rfl) | (rw [if_neg (by decide +kernel)]; exact ⟨rfl, rfl⟩))
    (fun os started H enc _ => lifted os started H enc)

/-- The tied card of NodePaths. -/
theorem card : Rows.NodePathsCardSaid :=
  Claim7.holds_tied_plain_at .later [] [.data, .data, .data, .data, .pinned, .pinned, .pinned, .pinned, .pinned, .pinned] true Rows.nodePathsCard.stood.harness false
    holds (fun _ h => by cases h) (by kernel_rfl) (fun _ h => by cases h) nodePaths_row_tie rfl ⟨rfl, rfl⟩ (by kernel_rfl) rfl
    (fun f fn hf hfn => by
      obtain rfl : f = 7 := Option.some.inj ((show Tryd.prog.funcNamed "subeditor/subeditorlaw07.NodePaths" = some 7 by kernel_rfl).symm.trans hf) |>.symm
      obtain rfl : fn = Tryd.f7 := (Option.some.inj (Tryd.func7.symm.trans hfn)).symm
      exact ⟨by kernel_rfl, fun j t ht => by
        rw [Tryd.params7] at ht
        have hm := List.mem_toArray.1 (Array.mem_of_getElem? ht)
        have hall : (Tryd.f7.params.toList.all fun u => !Tryd.prog.wantsStandIn u) = true := by kernel_rfl
        rw [show Tryd.f7.params.toList = _ from congrArg Array.toList Tryd.params7] at hall
        exact (show Tryd.prog.wantsStandIn t = false by simpa using List.all_eq_true.1 hall t hm)⟩)
    (by kernel_rfl)
end Go.Proofs.YtbdkemgfdghbkaaDoor.nodePaths
