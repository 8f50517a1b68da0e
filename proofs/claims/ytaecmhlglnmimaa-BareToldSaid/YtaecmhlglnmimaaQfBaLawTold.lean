/-
  subeditorlaw09.BareTold: for every input it returns true, and the arguments read as they did. No condition.
-/
import Derived.Test.YtaecmhlglnmimaaQf01
import Derived.Test.YtaecmhlglnmimaaQf02
import Derived.Test.YtaecmhlglnmimaaQf03
import Derived.Test.YtaecmhlglnmimaaQf04
import Derived.Test.YtaecmhlglnmimaaQf05
import Derived.Test.YtaecmhlglnmimaaQf06
import Derived.Test.YtaecmhlglnmimaaQf07
import Derived.Test.YtaecmhlglnmimaaQf08
import Derived.Test.YtaecmhlglnmimaaQf09
import Derived.Test.YtaecmhlglnmimaaQf10
import Derived.Test.YtaecmhlglnmimaaQf11
import Derived.Test.YtaecmhlglnmimaaQf12
import Derived.Test.YtaecmhlglnmimaaQf13
import Derived.Test.YtaecmhlglnmimaaQf14
import Derived.Test.YtaecmhlglnmimaaQf15
import Derived.Test.YtaecmhlglnmimaaQf16
import Derived.Test.YtaecmhlglnmimaaQf17
import Derived.Test.YtaecmhlglnmimaaQf18
import Derived.Test.YtaecmhlglnmimaaQf19
import Derived.Test.YtaecmhlglnmimaaQf20
import Derived.Test.YtaecmhlglnmimaaQf21
import Derived.Test.YtaecmhlglnmimaaQf22
import Derived.Test.YtaecmhlglnmimaaQf23
import Derived.Test.YtaecmhlglnmimaaQf24
import Derived.Test.YtaecmhlglnmimaaQf25
import Derived.Test.YtaecmhlglnmimaaQf26
import Derived.Test.YtaecmhlglnmimaaQf27
import Derived.Test.YtaecmhlglnmimaaQf28
import Derived.Test.YtaecmhlglnmimaaQf29
import Derived.Test.YtaecmhlglnmimaaQf30
import Derived.Test.YtaecmhlglnmimaaQf31
import Derived.Test.YtaecmhlglnmimaaQf32
import Derived.Test.YtaecmhlglnmimaaQf33
import Derived.Test.YtaecmhlglnmimaaRows
import Derived.ProofKit
import Derived.Laws.BytesArg
import Derived.LaidMore
import Derived.Stop.Joined
import Derived.Deep.RegionHeld3
namespace Go.Proofs.Ytaecmhlglnmimaa.bareTold
open Go.RowKit Go.ChangeShapes Go.WideShapes Go.ChangeAt Go.Shelf Go.Lib sx ed law nd
set_option linter.unusedVariables false

theorem fo_walk_at : ∀ (f : Fo) (p : List Nat) (i : Nat) (t : nd.Told), t ∈ f.walk p i → ∃ j r z, t.1 = p ++ (i + j) :: r ∧ f.get? j = some z ∧ z.at (ints r) = some t.2
  | .nil, p, i, t, h => by cases h
  | .cons k tx kids r, p, i, t, h => by
    rw [Fo.walk, List.mem_cons, List.mem_append] at h
    rcases h with rfl | h | h
    · exact ⟨0, [], ⟨k, tx, kids⟩, rfl, rfl, rfl⟩
    · obtain ⟨j, q, z, e, hz, hat⟩ := fo_walk_at kids (p ++ [i]) 0 t h
      refine ⟨0, (0 + j) :: q, ⟨k, tx, kids⟩, by rw [e, List.append_assoc]; rfl, rfl, ?_⟩
      rw [Nat.zero_add]
      show Nd.at ⟨k, tx, kids⟩ ((j : Int) :: ints q) = _
      rw [at_step (x := ⟨k, tx, kids⟩) hz]
      exact hat
    · obtain ⟨j, q, z, e, hz, hat⟩ := fo_walk_at r p (i + 1) t h
      exact ⟨j + 1, q, z, by rw [e, show i + 1 + j = i + (j + 1) by omega], hz, hat⟩
theorem walk_at {x : Nd} {t : nd.Told} (h : t ∈ x.walk []) : x.at (ints t.1) = some t.2 := by
  rw [Nd.walk, List.mem_cons] at h
  rcases h with rfl | h
  · rfl
  · obtain ⟨j, r, z, e, hz, hat⟩ := fo_walk_at x.kids [] 0 t h
    rw [e, List.nil_append, Nat.zero_add]
    show x.at ((j : Int) :: ints r) = _
    rw [at_step hz]
    exact hat
/-- The paths of brackets. -/
def Bs (x : Nd) : List (List Int) := (x.walkB []).map fun y => ints y.1
def Fk (B : List (List Int)) (P : List Int) (k : Nat) : Bool := (B.take k).any fun q => decide (q = P)
theorem Fk_succ {B : List (List Int)} {P q : List Int} {k : Nat} (h : B[k]? = some q) : Fk B P (k + 1) = (Fk B P k || decide (q = P)) := by
  unfold Fk
  rw [List.take_add_one, h, List.any_append]
  simp
theorem found_is {x y : Nd} {p : List Nat} (hp : p ∈ x.paths) (hy : x.at (ints p) = some y) : Fk (Bs x) (ints p) (Bs x).length = y.isBr := by
  unfold Fk
  rw [List.take_length]
  cases hb : y.isBr with
  | true =>
    rw [List.any_eq_true]
    rw [← Nd.walk_paths] at hp
    obtain ⟨t, ht, rfl⟩ := List.mem_map.1 hp
    have := walk_at ht
    rw [hy] at this
    have e := Option.some.inj this
    refine ⟨ints t.1, List.mem_map.2 ⟨t, List.mem_filter.2 ⟨ht, by rw [← e]; exact hb⟩, rfl⟩, by simp⟩
  | false =>
    rw [List.any_eq_false]
    intro q hq hqp
    obtain ⟨t, ht, rfl⟩ := List.mem_map.1 hq
    obtain ⟨h1, h2⟩ := List.mem_filter.1 ht
    have h3 := walk_at h1
    rw [of_decide_eq_true hqp, hy] at h3
    rw [← Option.some.inj h3] at h2
    rw [hb] at h2
    cases h2
theorem path_len {x : Nd} {p : List Nat} (h : p ∈ x.paths) : p.length ≤ x.count := by
  rw [← Nd.walk_paths] at h
  obtain ⟨y, hy, rfl⟩ := List.mem_map.1 h
  have h1 := Nd.walk_short x hy
  have h2 := Nd.deep_le x
  simp at h1
  omega
theorem bs_len {x : Nd} {q : List Int} (h : q ∈ Bs x) : q.length ≤ x.count := by
  obtain ⟨t, ht, rfl⟩ := List.mem_map.1 h
  have h1 := Nd.walk_short x (List.mem_filter.1 ht).1
  have h2 := Nd.deep_le x
  simp [ints] at h1 ⊢
  omega

set_option maxRecDepth 100000 in
set_option maxHeartbeats 8000000 in
theorem walk (bs : List Int) (kn : Nat) (hkn : kn ≤ 255) (w : World) (u : Value) (hu : BytesAt w u bs) :
    Calls Try.prog 3 #[u, .int .u8 (kn : Int)] w fun e w' => e = .returned (.bool true) ∧ Below w.heap.size w w' := by
  have hna := treeN_nice bs
  obtain ⟨fa, hfa⟩ : ∃ fa, (treeN bs).kids = fa := ⟨_, rfl⟩
  rw [show treeN bs = ⟨10, ⟨#[]⟩, fa⟩ by rw [← hfa]; rfl] at hna
  have hta := tree_calls bs w u hu
  rw [hfa] at hta
  have HTA := Lib.hid hta
  clear hu hta hfa
  go_enter Try.func3, Try.ntmps3
  go_wp2_with fail
  refine HTA.out.mono ?_
  rintro e w1 ⟨s, rfl, hbd, hb1⟩
  obtain ⟨ao, cap, rfl⟩ := hbd.slice
  obtain ⟨m, hm⟩ : ∃ m, fa.len = m := ⟨_, rfl⟩
  rw [hm]
  have hka := hbd.kids.toLt
  rw [hm] at hka
  have HKA := Lib.hid hka; have HB1 := Lib.hid hb1
  clear hka hbd hb1
  go_upto_region 2 with fail
  obtain ⟨W2, hW2⟩ : ∃ W2, w1.alloc (.cells #[.int .i64 10, .string ⟨#[]⟩, .slice ao m cap] 25) = W2 := ⟨_, rfl⟩
  rw [hW2]
  have hb2 : Below w1.heap.size w1 W2 := by rw [← hW2]; exact (Below.refl _ w1).alloc (Nat.le_refl _) _
  have hn2 : Blk W2 w1.heap.size 25 #[.int .i64 10, .string ⟨#[]⟩, .slice ao m cap] := by rw [← hW2]; exact Blk.new w1 _ _
  have hbw2 := HB1.out.trans (hb2.mono HB1.out.size)
  have hka2 : KidsAt (Lt W2.heap.size) W2 fa (.slice ao m cap) := (HKA.out.below hb2 (Nat.le_refl _)).mono hb2.size
  obtain ⟨x, hx⟩ : ∃ x, (⟨10, ⟨#[]⟩, fa⟩ : Nd) = x := ⟨_, rfl⟩
  have hnd2 : NdAt (Lt W2.heap.size) W2 x (.agg #[.int .i64 10, .string ⟨#[]⟩, .slice ao m cap]) := by rw [← hx]; exact NdAt.mk hka2
  rw [hx] at hna
  obtain ⟨c, hc⟩ : ∃ c, x.count = c := ⟨_, rfl⟩
  have hc2 : c ≤ 200 := by rw [← hc]; exact Nat.le_trans (Nd.count_le x) hna.2
  have hc1 : 1 ≤ c := by rw [← hc]; simp [Nd.count]
  have hpa := rpaths_ok x (by omega) W2 _ hnd2
  rw [hc] at hpa
  have x0 := hn2.cell 0; have x1 := hn2.cell 1; have x2 := hn2.cell 2
  have HN2 := Lib.hid hn2; have HND2 := Lib.hid hnd2; have HBW2 := Lib.hid hbw2; have HNA := Lib.hid hna; have HC := Lib.hid hc; have HPA := Lib.hid hpa
  clear hW2 hb2 hn2 hbw2 hka2 hx hnd2 hna hc hpa
  go_wp2_with fail
  refine HPA.out.mono ?_
  rintro e w7 ⟨v7, L, rfl, hown, hls, hb7⟩
  have hrow : ∃ gl cl, v7 = .slice (some ⟨gl, 0, none⟩) c cl ∧ c ≤ cl ∧ gl < w7.heap.size := by
    rcases id hown.2 with ⟨_, h0⟩ | ⟨g, cp, cur, e, _, _, h4, _⟩
    · omega
    · exact ⟨g, cp, e, h4, (hown.lt g (by rw [e]; rfl)).2⟩
  obtain ⟨gl, cl, rfl, hcl, hgl⟩ := hrow
  have hbw7 := HBW2.out.trans (hb7.mono HBW2.out.size)
  have hn7 := HN2.out.own hb7
  have hnd7 := (HND2.out.below hb7 (Nat.le_refl _)).mono hb7.size
  obtain ⟨r, hr⟩ : ∃ r, kn % c = r := ⟨_, rfl⟩
  have hrl : r < c := by rw [← hr]; exact Nat.mod_lt _ (by omega)
  obtain ⟨p, hp⟩ : ∃ p, x.paths[r]? = some p := ⟨_, List.getElem?_eq_getElem (by rw [Nd.paths_len, HC.out]; exact hrl)⟩
  have hpm := List.mem_of_getElem? hp
  obtain ⟨y, hy⟩ := Nd.at_paths hpm
  have hy : x.at (ints p) = some y := hy
  have hpl := path_len hpm
  rw [HC.out] at hpl
  obtain ⟨po, pc, hcell, hci⟩ : ∃ po pc, w7.cell? ⟨gl, r, none⟩ = some (.slice po p.length pc) ∧ IntsAt (Frsh W2.heap.size w7.heap.size) w7 (.slice po p.length pc) (ints p) := by
    obtain ⟨cv, hcv, hci⟩ := hls.2 r (ints p) (by rw [List.getElem?_map, hp]; rfl)
    obtain ⟨pa, pc, rfl, _⟩ := id hci
    have hcell := hown.cells (g := gl) rfl r _ hcv
    rw [nd.addr_add, Nat.zero_add] at hcell
    rw [show (ints p).length = p.length by simp [ints]] at hcell hci
    exact ⟨pa, pc, hcell, hci⟩
  obtain ⟨pl, hpl0⟩ : ∃ pl, p.length = pl := ⟨_, rfl⟩
  rw [hpl0] at hcell hci hpl
  have hPI : ∀ W, Below w7.heap.size w7 W → IntsAt (Lt W.heap.size) W (.slice po pl pc) (ints p) := fun W hb => hci.keep (fun j hj => Nat.lt_of_lt_of_le hj.2 hb.size) (fun j hj => hb.block j hj.2)
  have hND : ∀ W, Below w7.heap.size w7 W → NdAt (Lt W.heap.size) W x (.agg #[.int .i64 10, .string ⟨#[]⟩, .slice ao m cap]) := fun W hb => (hnd7.below hb (Nat.le_refl _)).mono hb.size
  have hrem : ((kn : Int).tmod (c : Int)) = (r : Int) := by rw [Int.tmod_eq_emod_of_nonneg (by omega), ← hr]; exact (Int.natCast_emod kn c).symm
  have hrem2 : ((kn : Int) % (c : Int)) = (r : Int) := by rw [← hr]; exact (Int.natCast_emod kn c).symm
  have hr0 : (0 : Int) ≤ (r : Int) := by omega
  have hrc : (r : Int) < (c : Int) := by omega
  have hc0 : ((c : Int) == 0) = false := by rw [beq_eq_false_iff_ne]; omega
  have hc00 : (c : Int) ≠ 0 := by omega
  have hatw := fun W (hb : Below w7.heap.size w7 W) => rat_calls x (by have := HNA.out.2; omega) (ints p) W _ _ (hND W hb) (hPI W hb)
  have HAT := Lib.hid hatw; have HPI := Lib.hid hPI; have HND := Lib.hid hND; have HY := Lib.hid hy; have HP := Lib.hid hpm; have HN7 := Lib.hid hn7; have HBW7 := Lib.hid hbw7; have HPL := Lib.hid hpl0
  have x0 := hn7.cell 0; have x1 := hn7.cell 1; have x2 := hn7.cell 2
  clear hatw hPI hND hy hpm hn7 hbw7 hpl0 hr hp hci hown hls hb7 hnd7
  go_wp2_with fail
  ((with_reducible refine (HAT.out _ (Below.refl _ _)).mono ?_); rintro e w8 hr8)
  rw [HY.out] at hr8
  obtain ⟨u8, rfl, ⟨s8, rfl, hk8⟩, hb8⟩ := hr8
  obtain ⟨ay, cy, rfl, _⟩ := hk8.slice
  obtain ⟨my, hmy⟩ : ∃ my, y.kids.len = my := ⟨_, rfl⟩
  rw [hmy]
  clear hk8
  go_upto_region 5 with fail
  obtain ⟨W9, hW9⟩ : ∃ W9, w8.alloc (.cells #[.int .i64 y.k, .string y.t, .slice ay my cy] 25) = W9 := ⟨_, rfl⟩
  rw [hW9]
  have hb9 : Below w8.heap.size w8 W9 := by rw [← hW9]; exact (Below.refl _ w8).alloc (Nat.le_refl _) _
  have hn9 : Blk W9 w8.heap.size 25 #[.int .i64 y.k, .string y.t, .slice ay my cy] := by rw [← hW9]; exact Blk.new w8 _ _
  have hbz := hb8.trans (hb9.mono hb8.size)
  have y0 := hn9.cell 0; have y1 := hn9.cell 1; have y2 := hn9.cell 2
  have hx9 := HN7.out.own hbz
  have x0 := hx9.cell 0; have x1 := hx9.cell 1; have x2 := hx9.cell 2
  have hwo := without_calls x (by have := HNA.out.2; omega) (ints p) W9 _ _ (HND.out W9 hbz) (HPI.out W9 hbz)
  rw [without_is, HY.out] at hwo
  dsimp only at hwo
  have hfi := found_is HP.out HY.out
  have hbr : y.isBr = (y.k == 12 && my == 1) := by rw [← hmy]; rfl
  have HX9 := Lib.hid hx9; have HBZ := Lib.hid hbz
  clear hW9 hb8 hb9 hn9 hx9 hbz hcell hmy
  cases h12 : y.k == 12 with
  | false =>
    have hb : y.isBr = false := by rw [hbr, h12]; rfl

    rw [hb] at hwo hfi
    have HWO := Lib.hid hwo; have HFI := Lib.hid hfi
    clear hwo hfi hbr hb
    go_upto_region 6 with fail
    go_wp2_with fail
    ((with_reducible refine HWO.out.mono ?_); rintro e w10 ⟨uu, rfl, ⟨s10, rfl, hk10⟩, hb10⟩)
    obtain ⟨aq, cq, rfl, _⟩ := hk10.slice
    clear hk10
    go_upto_region 7 with fail
    generalize hW11 : w10.alloc _ = W11
    have hb11 : Below w10.heap.size w10 W11 := by rw [← hW11]; exact (Below.refl _ w10).alloc (Nat.le_refl _) _
    have hbt := hb10.trans (hb11.mono hb10.size)
    have hx11 := HX9.out.own hbt
    have hbx := HBZ.out.trans (hbt.mono HBZ.out.size)
    have hbr8 := brackets_calls x (by have := Nd.count_le x; have := HNA.out.2; omega) W11 _ (HND.out W11 hbx)
    have x0 := hx11.cell 0; have x1 := hx11.cell 1; have x2 := hx11.cell 2
    have HBR := Lib.hid hbr8; have HBX := Lib.hid hbx
    clear hW11 hb10 hb11 hbt hx11 hbr8 hbx
    go_wp2_with fail
    ((with_reducible refine HBR.out.mono ?_); rintro e w12 ⟨v12, L2, rfl, hown2, hls2, hb12⟩)
    obtain ⟨bl, hbl⟩ : ∃ bl, (Bs x).length = bl := ⟨_, rfl⟩
    have hbl0 : (x.walkB []).length = bl := by rw [← hbl]; simp [Bs]
    rw [hbl0] at hown2
    have hbl2 : bl ≤ 200 := by rw [← hbl0]; exact Nat.le_trans (pv.walkB_len x) (by rw [HC.out]; exact hc2)
    have hby := HBX.out.trans (hb12.mono HBX.out.size)
    obtain ⟨a12, c12, rfl, hc12⟩ := own_len' hown2
    have hEL : ∀ k, k < bl → ∃ g q qo ql qc, a12 = some ⟨g, 0, none⟩ ∧ g < w12.heap.size ∧ (Bs x)[k]? = some q ∧ q.length = ql ∧ ql ≤ 1000000 ∧ w12.cell? ⟨g, k, none⟩ = some (.slice qo ql qc) ∧ ∀ W, Below w12.heap.size w12 W → IntsAt (Lt W.heap.size) W (.slice qo ql qc) q := fun k hk => by
      obtain ⟨q, hq⟩ : ∃ q, (Bs x)[k]? = some q := ⟨_, List.getElem?_eq_getElem (by rw [hbl]; exact hk)⟩
      obtain ⟨cv, hcv, hci⟩ := hls2.2 k q hq
      obtain ⟨qo, qc, rfl, _⟩ := id hci
      have hg : ∃ g, a12 = some ⟨g, 0, none⟩ := by
        rcases id hown2.2 with ⟨_, h0⟩ | ⟨g, cp, cur, e, _⟩
        · omega
        · cases e; exact ⟨g, rfl⟩
      obtain ⟨g, rfl⟩ := hg
      have hcell := hown2.cells (g := g) rfl k _ hcv
      rw [nd.addr_add, Nat.zero_add] at hcell
      refine ⟨g, q, qo, q.length, qc, rfl, World.block_lt_of_cell? _ _ hcell, hq, rfl, ?_, hcell, fun W hb => hci.keep (fun j hj => Nat.lt_of_lt_of_le hj.2 hb.size) (fun j hj => hb.block j hj.2)⟩
      have := bs_len (List.mem_of_getElem? hq)
      rw [HC.out] at this
      omega
    have HEL := Lib.hid hEL; have HBY := Lib.hid hby; have HBL := Lib.hid hbl
    clear hEL hby hown2 hls2 hb12 hbl hbl0
    obtain ⟨P, hP⟩ : ∃ P, ints p = P := ⟨_, rfl⟩
    obtain ⟨B, hB⟩ : ∃ B, Bs x = B := ⟨_, rfl⟩
    have hpn : P.length = pl := by rw [← hP, ← HPL.out]; simp [ints]
    rw [hP] at HPI HFI; rw [hB] at HEL HBL HFI
    have HPN := Lib.hid hpn
    clear hP hB hpn
    go_upto_region 10 with fail
    go_loopw [13, 15] (fun fd i wr => ∃ k : Nat, k ≤ bl ∧ i = .int .i64 (k : Int) ∧ fd = .bool (Fk B P k) ∧ Below w12.heap.size w12 wr) (fun _ i _ => bl - (RowKit.intOf i).toNat)
    case atStart => exact ⟨0, Nat.zero_le _, rfl, rfl, Below.refl _ _⟩
    case round =>
      obtain ⟨k, hk, rfl, rfl, hbw⟩ := hrel
      by_cases hlt : k < bl
      · have hlt1 : (k : Int) < (bl : Int) := by omega
        obtain ⟨g, q, qo, ql, qc, rfl, hg, hq, hqn, hq6, hcell, hqi⟩ := HEL.out k hlt
        have hst := Fk_succ (P := P) hq
        have c0 := (hbw.cell (p := ⟨g, k, none⟩) hg).trans hcell
        cases hf : Fk B P k with
        | true =>
          rw [hf] at hst
          have hst : Fk B P (k + 1) = true := hst
          have HST := Lib.hid hst; have HBB := Lib.hid hbw
          clear hst hf hqi hcell hq hbw
          go_wp2_with fail
          exact ⟨⟨k + 1, hlt, by go_num, by rw [HST.out], HBB.out⟩, by simp [RowKit.intOf]; omega⟩
        | false =>
          rw [hf] at hst
          have hst : Fk B P (k + 1) = decide (q = P) := hst
          obtain ⟨d, hd⟩ : ∃ d, decide (q = P) = d := ⟨_, rfl⟩
          rw [hd] at hst
          obtain ⟨wa, hwa⟩ : ∃ wa, (wr.alloc (.cells #[.slice qo ql qc] 29)).alloc (.cells #[.slice po pl pc] 29) = wa := ⟨_, rfl⟩
          have hba : Below wr.heap.size wr wa := by rw [← hwa]; exact ((Below.refl _ wr).alloc (Nat.le_refl _) _).alloc (by simp) _
          have e1 : wa.cell? ⟨wr.heap.size, 0, none⟩ = some (.slice qo ql qc) := by
            have h : Blk wa wr.heap.size 29 #[.slice qo ql qc] := by rw [← hwa]; exact (Blk.new wr _ _).alloc _
            exact h.cell 0
          have e2 : wa.cell? ⟨wr.heap.size + 1, 0, none⟩ = some (.slice po pl pc) := by
            have h : Blk wa (wr.heap.size + 1) 29 #[.slice po pl pc] := by
              rw [← hwa]
              simpa using Blk.new (wr.alloc (.cells #[.slice qo ql qc] 29)) 29 #[.slice po pl pc]
            exact h.cell 0
          have hbq := hbw.trans (hba.mono hbw.size)
          have hpc := paths1_calls q P (by rw [hqn]; exact hq6) wa wr.heap.size (wr.heap.size + 1) 1 1 qo po qc pc (by rw [hqn]; exact e1) (by rw [HPN.out]; exact e2) (by rw [hqn]; exact hqi wa hbq) (by rw [HPN.out]; exact HPI.out wa (HBY.out.trans (hbq.mono HBY.out.size)))
          rw [hd] at hpc
          have HST := Lib.hid hst; have HBQ := Lib.hid hbq; have HPC := Lib.hid hpc; have HWA := Lib.hid hwa
          clear hst hf hqi hcell hq hbw hd hwa hba e1 e2 hbq hpc
          go_wp2_with fail
          rw [HWA.out]
          ((with_reducible refine HPC.out.mono ?_); rintro e wb ⟨rfl, hbb⟩)
          have HBB := Lib.hid (HBQ.out.trans (hbb.mono HBQ.out.size))
          clear hbb
          go_wp2_with fail
          exact ⟨⟨k + 1, hlt, by go_num, by rw [HST.out], HBB.out⟩, by simp [RowKit.intOf]; omega⟩
      · obtain rfl : k = bl := by omega
        have hge : decide ((k : Int) < (k : Int)) = false := by simp
        have hfk : Fk B P k = false := by have := HFI.out; rw [HBL.out] at this; exact this
        have HBB := Lib.hid (HBW7.out.trans ((HBY.out.trans (hbw.mono HBY.out.size)).mono HBW7.out.size))
        have HKN := Lib.hid (pv.known_calls wr)
        rw [hfk]
        clear hbw hfk
        go_wp2_with fail
        ((with_reducible refine HKN.out.mono ?_); rintro e wb ⟨rfl, hbb⟩)
        have HB3 := Lib.hid (HBB.out.trans (hbb.mono HBB.out.size))
        clear hbb
        go_wp2_with fail
        go_ret
        exact ⟨rfl, HB3.out⟩

  | true =>
   cases h1 : my == 1 with
   | false =>
    have hb : y.isBr = false := by rw [hbr, h12, h1]; rfl
    have h1i : ((my : Int) == 1) = false := by rw [beq_eq_false_iff_ne] at h1 ⊢; omega

    rw [hb] at hwo hfi
    have HWO := Lib.hid hwo; have HFI := Lib.hid hfi
    clear hwo hfi hbr hb
    go_upto_region 6 with fail
    go_wp2_with fail
    ((with_reducible refine HWO.out.mono ?_); rintro e w10 ⟨uu, rfl, ⟨s10, rfl, hk10⟩, hb10⟩)
    obtain ⟨aq, cq, rfl, _⟩ := hk10.slice
    clear hk10
    go_upto_region 7 with fail
    generalize hW11 : w10.alloc _ = W11
    have hb11 : Below w10.heap.size w10 W11 := by rw [← hW11]; exact (Below.refl _ w10).alloc (Nat.le_refl _) _
    have hbt := hb10.trans (hb11.mono hb10.size)
    have hx11 := HX9.out.own hbt
    have hbx := HBZ.out.trans (hbt.mono HBZ.out.size)
    have hbr8 := brackets_calls x (by have := Nd.count_le x; have := HNA.out.2; omega) W11 _ (HND.out W11 hbx)
    have x0 := hx11.cell 0; have x1 := hx11.cell 1; have x2 := hx11.cell 2
    have HBR := Lib.hid hbr8; have HBX := Lib.hid hbx
    clear hW11 hb10 hb11 hbt hx11 hbr8 hbx
    go_wp2_with fail
    ((with_reducible refine HBR.out.mono ?_); rintro e w12 ⟨v12, L2, rfl, hown2, hls2, hb12⟩)
    obtain ⟨bl, hbl⟩ : ∃ bl, (Bs x).length = bl := ⟨_, rfl⟩
    have hbl0 : (x.walkB []).length = bl := by rw [← hbl]; simp [Bs]
    rw [hbl0] at hown2
    have hbl2 : bl ≤ 200 := by rw [← hbl0]; exact Nat.le_trans (pv.walkB_len x) (by rw [HC.out]; exact hc2)
    have hby := HBX.out.trans (hb12.mono HBX.out.size)
    obtain ⟨a12, c12, rfl, hc12⟩ := own_len' hown2
    have hEL : ∀ k, k < bl → ∃ g q qo ql qc, a12 = some ⟨g, 0, none⟩ ∧ g < w12.heap.size ∧ (Bs x)[k]? = some q ∧ q.length = ql ∧ ql ≤ 1000000 ∧ w12.cell? ⟨g, k, none⟩ = some (.slice qo ql qc) ∧ ∀ W, Below w12.heap.size w12 W → IntsAt (Lt W.heap.size) W (.slice qo ql qc) q := fun k hk => by
      obtain ⟨q, hq⟩ : ∃ q, (Bs x)[k]? = some q := ⟨_, List.getElem?_eq_getElem (by rw [hbl]; exact hk)⟩
      obtain ⟨cv, hcv, hci⟩ := hls2.2 k q hq
      obtain ⟨qo, qc, rfl, _⟩ := id hci
      have hg : ∃ g, a12 = some ⟨g, 0, none⟩ := by
        rcases id hown2.2 with ⟨_, h0⟩ | ⟨g, cp, cur, e, _⟩
        · omega
        · cases e; exact ⟨g, rfl⟩
      obtain ⟨g, rfl⟩ := hg
      have hcell := hown2.cells (g := g) rfl k _ hcv
      rw [nd.addr_add, Nat.zero_add] at hcell
      refine ⟨g, q, qo, q.length, qc, rfl, World.block_lt_of_cell? _ _ hcell, hq, rfl, ?_, hcell, fun W hb => hci.keep (fun j hj => Nat.lt_of_lt_of_le hj.2 hb.size) (fun j hj => hb.block j hj.2)⟩
      have := bs_len (List.mem_of_getElem? hq)
      rw [HC.out] at this
      omega
    have HEL := Lib.hid hEL; have HBY := Lib.hid hby; have HBL := Lib.hid hbl
    clear hEL hby hown2 hls2 hb12 hbl hbl0
    obtain ⟨P, hP⟩ : ∃ P, ints p = P := ⟨_, rfl⟩
    obtain ⟨B, hB⟩ : ∃ B, Bs x = B := ⟨_, rfl⟩
    have hpn : P.length = pl := by rw [← hP, ← HPL.out]; simp [ints]
    rw [hP] at HPI HFI; rw [hB] at HEL HBL HFI
    have HPN := Lib.hid hpn
    clear hP hB hpn
    go_upto_region 10 with fail
    go_loopw [13, 15] (fun fd i wr => ∃ k : Nat, k ≤ bl ∧ i = .int .i64 (k : Int) ∧ fd = .bool (Fk B P k) ∧ Below w12.heap.size w12 wr) (fun _ i _ => bl - (RowKit.intOf i).toNat)
    case atStart => exact ⟨0, Nat.zero_le _, rfl, rfl, Below.refl _ _⟩
    case round =>
      obtain ⟨k, hk, rfl, rfl, hbw⟩ := hrel
      by_cases hlt : k < bl
      · have hlt1 : (k : Int) < (bl : Int) := by omega
        obtain ⟨g, q, qo, ql, qc, rfl, hg, hq, hqn, hq6, hcell, hqi⟩ := HEL.out k hlt
        have hst := Fk_succ (P := P) hq
        have c0 := (hbw.cell (p := ⟨g, k, none⟩) hg).trans hcell
        cases hf : Fk B P k with
        | true =>
          rw [hf] at hst
          have hst : Fk B P (k + 1) = true := hst
          have HST := Lib.hid hst; have HBB := Lib.hid hbw
          clear hst hf hqi hcell hq hbw
          go_wp2_with fail
          exact ⟨⟨k + 1, hlt, by go_num, by rw [HST.out], HBB.out⟩, by simp [RowKit.intOf]; omega⟩
        | false =>
          rw [hf] at hst
          have hst : Fk B P (k + 1) = decide (q = P) := hst
          obtain ⟨d, hd⟩ : ∃ d, decide (q = P) = d := ⟨_, rfl⟩
          rw [hd] at hst
          obtain ⟨wa, hwa⟩ : ∃ wa, (wr.alloc (.cells #[.slice qo ql qc] 29)).alloc (.cells #[.slice po pl pc] 29) = wa := ⟨_, rfl⟩
          have hba : Below wr.heap.size wr wa := by rw [← hwa]; exact ((Below.refl _ wr).alloc (Nat.le_refl _) _).alloc (by simp) _
          have e1 : wa.cell? ⟨wr.heap.size, 0, none⟩ = some (.slice qo ql qc) := by
            have h : Blk wa wr.heap.size 29 #[.slice qo ql qc] := by rw [← hwa]; exact (Blk.new wr _ _).alloc _
            exact h.cell 0
          have e2 : wa.cell? ⟨wr.heap.size + 1, 0, none⟩ = some (.slice po pl pc) := by
            have h : Blk wa (wr.heap.size + 1) 29 #[.slice po pl pc] := by
              rw [← hwa]
              simpa using Blk.new (wr.alloc (.cells #[.slice qo ql qc] 29)) 29 #[.slice po pl pc]
            exact h.cell 0
          have hbq := hbw.trans (hba.mono hbw.size)
          have hpc := paths1_calls q P (by rw [hqn]; exact hq6) wa wr.heap.size (wr.heap.size + 1) 1 1 qo po qc pc (by rw [hqn]; exact e1) (by rw [HPN.out]; exact e2) (by rw [hqn]; exact hqi wa hbq) (by rw [HPN.out]; exact HPI.out wa (HBY.out.trans (hbq.mono HBY.out.size)))
          rw [hd] at hpc
          have HST := Lib.hid hst; have HBQ := Lib.hid hbq; have HPC := Lib.hid hpc; have HWA := Lib.hid hwa
          clear hst hf hqi hcell hq hbw hd hwa hba e1 e2 hbq hpc
          go_wp2_with fail
          rw [HWA.out]
          ((with_reducible refine HPC.out.mono ?_); rintro e wb ⟨rfl, hbb⟩)
          have HBB := Lib.hid (HBQ.out.trans (hbb.mono HBQ.out.size))
          clear hbb
          go_wp2_with fail
          exact ⟨⟨k + 1, hlt, by go_num, by rw [HST.out], HBB.out⟩, by simp [RowKit.intOf]; omega⟩
      · obtain rfl : k = bl := by omega
        have hge : decide ((k : Int) < (k : Int)) = false := by simp
        have hfk : Fk B P k = false := by have := HFI.out; rw [HBL.out] at this; exact this
        have HBB := Lib.hid (HBW7.out.trans ((HBY.out.trans (hbw.mono HBY.out.size)).mono HBW7.out.size))
        have HKN := Lib.hid (pv.known_calls wr)
        rw [hfk]
        clear hbw hfk
        go_wp2_with fail
        ((with_reducible refine HKN.out.mono ?_); rintro e wb ⟨rfl, hbb⟩)
        have HB3 := Lib.hid (HBB.out.trans (hbb.mono HBB.out.size))
        clear hbb
        go_wp2_with fail
        go_ret
        exact ⟨rfl, HB3.out⟩

   | true =>
    have hb : y.isBr = true := by rw [hbr, h12, h1]; rfl
    have h1i : ((my : Int) == 1) = true := by rw [eq_of_beq h1]; rfl

    rw [hb] at hwo hfi
    have HWO := Lib.hid hwo; have HFI := Lib.hid hfi
    clear hwo hfi hbr hb
    go_upto_region 6 with fail
    go_wp2_with fail
    ((with_reducible refine HWO.out.mono ?_); rintro e w10 ⟨uu, rfl, ⟨s10, rfl, hk10⟩, hb10⟩)
    obtain ⟨aq, cq, rfl, _⟩ := hk10.slice
    clear hk10
    go_upto_region 7 with fail
    generalize hW11 : w10.alloc _ = W11
    have hb11 : Below w10.heap.size w10 W11 := by rw [← hW11]; exact (Below.refl _ w10).alloc (Nat.le_refl _) _
    have hbt := hb10.trans (hb11.mono hb10.size)
    have hx11 := HX9.out.own hbt
    have hbx := HBZ.out.trans (hbt.mono HBZ.out.size)
    have hbr8 := brackets_calls x (by have := Nd.count_le x; have := HNA.out.2; omega) W11 _ (HND.out W11 hbx)
    have x0 := hx11.cell 0; have x1 := hx11.cell 1; have x2 := hx11.cell 2
    have HBR := Lib.hid hbr8; have HBX := Lib.hid hbx
    clear hW11 hb10 hb11 hbt hx11 hbr8 hbx
    go_wp2_with fail
    ((with_reducible refine HBR.out.mono ?_); rintro e w12 ⟨v12, L2, rfl, hown2, hls2, hb12⟩)
    obtain ⟨bl, hbl⟩ : ∃ bl, (Bs x).length = bl := ⟨_, rfl⟩
    have hbl0 : (x.walkB []).length = bl := by rw [← hbl]; simp [Bs]
    rw [hbl0] at hown2
    have hbl2 : bl ≤ 200 := by rw [← hbl0]; exact Nat.le_trans (pv.walkB_len x) (by rw [HC.out]; exact hc2)
    have hby := HBX.out.trans (hb12.mono HBX.out.size)
    obtain ⟨a12, c12, rfl, hc12⟩ := own_len' hown2
    have hEL : ∀ k, k < bl → ∃ g q qo ql qc, a12 = some ⟨g, 0, none⟩ ∧ g < w12.heap.size ∧ (Bs x)[k]? = some q ∧ q.length = ql ∧ ql ≤ 1000000 ∧ w12.cell? ⟨g, k, none⟩ = some (.slice qo ql qc) ∧ ∀ W, Below w12.heap.size w12 W → IntsAt (Lt W.heap.size) W (.slice qo ql qc) q := fun k hk => by
      obtain ⟨q, hq⟩ : ∃ q, (Bs x)[k]? = some q := ⟨_, List.getElem?_eq_getElem (by rw [hbl]; exact hk)⟩
      obtain ⟨cv, hcv, hci⟩ := hls2.2 k q hq
      obtain ⟨qo, qc, rfl, _⟩ := id hci
      have hg : ∃ g, a12 = some ⟨g, 0, none⟩ := by
        rcases id hown2.2 with ⟨_, h0⟩ | ⟨g, cp, cur, e, _⟩
        · omega
        · cases e; exact ⟨g, rfl⟩
      obtain ⟨g, rfl⟩ := hg
      have hcell := hown2.cells (g := g) rfl k _ hcv
      rw [nd.addr_add, Nat.zero_add] at hcell
      refine ⟨g, q, qo, q.length, qc, rfl, World.block_lt_of_cell? _ _ hcell, hq, rfl, ?_, hcell, fun W hb => hci.keep (fun j hj => Nat.lt_of_lt_of_le hj.2 hb.size) (fun j hj => hb.block j hj.2)⟩
      have := bs_len (List.mem_of_getElem? hq)
      rw [HC.out] at this
      omega
    have HEL := Lib.hid hEL; have HBY := Lib.hid hby; have HBL := Lib.hid hbl
    clear hEL hby hown2 hls2 hb12 hbl hbl0
    obtain ⟨P, hP⟩ : ∃ P, ints p = P := ⟨_, rfl⟩
    obtain ⟨B, hB⟩ : ∃ B, Bs x = B := ⟨_, rfl⟩
    have hpn : P.length = pl := by rw [← hP, ← HPL.out]; simp [ints]
    rw [hP] at HPI HFI; rw [hB] at HEL HBL HFI
    have HPN := Lib.hid hpn
    clear hP hB hpn
    go_upto_region 10 with fail
    go_loopw [13, 15] (fun fd i wr => ∃ k : Nat, k ≤ bl ∧ i = .int .i64 (k : Int) ∧ fd = .bool (Fk B P k) ∧ Below w12.heap.size w12 wr) (fun _ i _ => bl - (RowKit.intOf i).toNat)
    case atStart => exact ⟨0, Nat.zero_le _, rfl, rfl, Below.refl _ _⟩
    case round =>
      obtain ⟨k, hk, rfl, rfl, hbw⟩ := hrel
      by_cases hlt : k < bl
      · have hlt1 : (k : Int) < (bl : Int) := by omega
        obtain ⟨g, q, qo, ql, qc, rfl, hg, hq, hqn, hq6, hcell, hqi⟩ := HEL.out k hlt
        have hst := Fk_succ (P := P) hq
        have c0 := (hbw.cell (p := ⟨g, k, none⟩) hg).trans hcell
        cases hf : Fk B P k with
        | true =>
          rw [hf] at hst
          have hst : Fk B P (k + 1) = true := hst
          have HST := Lib.hid hst; have HBB := Lib.hid hbw
          clear hst hf hqi hcell hq hbw
          go_wp2_with fail
          exact ⟨⟨k + 1, hlt, by go_num, by rw [HST.out], HBB.out⟩, by simp [RowKit.intOf]; omega⟩
        | false =>
          rw [hf] at hst
          have hst : Fk B P (k + 1) = decide (q = P) := hst
          obtain ⟨d, hd⟩ : ∃ d, decide (q = P) = d := ⟨_, rfl⟩
          rw [hd] at hst
          obtain ⟨wa, hwa⟩ : ∃ wa, (wr.alloc (.cells #[.slice qo ql qc] 29)).alloc (.cells #[.slice po pl pc] 29) = wa := ⟨_, rfl⟩
          have hba : Below wr.heap.size wr wa := by rw [← hwa]; exact ((Below.refl _ wr).alloc (Nat.le_refl _) _).alloc (by simp) _
          have e1 : wa.cell? ⟨wr.heap.size, 0, none⟩ = some (.slice qo ql qc) := by
            have h : Blk wa wr.heap.size 29 #[.slice qo ql qc] := by rw [← hwa]; exact (Blk.new wr _ _).alloc _
            exact h.cell 0
          have e2 : wa.cell? ⟨wr.heap.size + 1, 0, none⟩ = some (.slice po pl pc) := by
            have h : Blk wa (wr.heap.size + 1) 29 #[.slice po pl pc] := by
              rw [← hwa]
              simpa using Blk.new (wr.alloc (.cells #[.slice qo ql qc] 29)) 29 #[.slice po pl pc]
            exact h.cell 0
          have hbq := hbw.trans (hba.mono hbw.size)
          have hpc := paths1_calls q P (by rw [hqn]; exact hq6) wa wr.heap.size (wr.heap.size + 1) 1 1 qo po qc pc (by rw [hqn]; exact e1) (by rw [HPN.out]; exact e2) (by rw [hqn]; exact hqi wa hbq) (by rw [HPN.out]; exact HPI.out wa (HBY.out.trans (hbq.mono HBY.out.size)))
          rw [hd] at hpc
          have HST := Lib.hid hst; have HBQ := Lib.hid hbq; have HPC := Lib.hid hpc; have HWA := Lib.hid hwa
          clear hst hf hqi hcell hq hbw hd hwa hba e1 e2 hbq hpc
          go_wp2_with fail
          rw [HWA.out]
          ((with_reducible refine HPC.out.mono ?_); rintro e wb ⟨rfl, hbb⟩)
          have HBB := Lib.hid (HBQ.out.trans (hbb.mono HBQ.out.size))
          clear hbb
          go_wp2_with fail
          exact ⟨⟨k + 1, hlt, by go_num, by rw [HST.out], HBB.out⟩, by simp [RowKit.intOf]; omega⟩
      · obtain rfl : k = bl := by omega
        have hge : decide ((k : Int) < (k : Int)) = false := by simp
        have hfk : Fk B P k = true := by have := HFI.out; rw [HBL.out] at this; exact this
        have HBB := Lib.hid (HBW7.out.trans ((HBY.out.trans (hbw.mono HBY.out.size)).mono HBW7.out.size))
        have HKN := Lib.hid (pv.known_calls wr)
        rw [hfk]
        clear hbw hfk
        go_wp2_with fail
        ((with_reducible refine HKN.out.mono ?_); rintro e wb ⟨rfl, hbb⟩)
        have HB3 := Lib.hid (HBB.out.trans (hbb.mono HBB.out.size))
        clear hbb
        go_wp2_with fail
        go_ret
        exact ⟨rfl, HB3.out⟩

set_option maxRecDepth 100000 in
theorem lifted (os : Os) (started : os.Started) (H : Type) (enc : TypeId × Value → H) :
    ReturnsInHanded {} Try.checked os 3 .any (Rows.bareToldSpec.pre6 enc Try.prog Try.f3 Rows.bareToldRow.domain false) (Rows.bareToldSpec.post enc Try.prog Try.f3 false true false false) := by
  refine returnsInHanded_of_change (C := Try.checked) law.own started (by kernel_rfl) Try.func3
    (ChangeSpec.witness6 (enc := enc) (C := Try.checked) false ⟨#[], #[.slice none 0 0, .int .u8 0], []⟩ 8 (by kernel_rfl) (by kernel_rfl) (by kernel_rfl) (by kernel_rfl)) ?_
  intro W base args ds gs before hval0 hW _ _
  have hval : ∀ (j : Nat) t v, Try.f3.params[j]? = some t → args[j]? = some v → Value.okWide Try.prog W .any base t v := hval0
  have hW' := hW
  obtain ⟨p, q, hA0, hV, rfl, _, _⟩ := hW
  have hA : DataW.TrodAll enc Try.prog W 0 (fun _ => true) true Try.f3.params.toList args.toList ds p := hA0
  rw [Try.params3] at hA hval
  obtain ⟨v0, v1, d0, d1, p0, p1, rfl, rfl, rfl, h0, h1⟩ := trodAll_two hA
  obtain ⟨rfl, rfl⟩ := trodVars_none hV
  obtain ⟨bs0, hbs0⟩ := law.open_bytes (hval 0 22 v0 rfl rfl) h0
  obtain ⟨k1, rfl, rfl, rfl, wk1⟩ := open_int Try.underlying5 (hval 1 5 v1 rfl rfl) h1
  obtain ⟨k0, k2⟩ := law.u8_wf wk1
  obtain ⟨kn, rfl⟩ : ∃ kn : Nat, k1 = (kn : Int) := ⟨k1.toNat, by omega⟩
  refine (walk bs0 kn (by omega) W v0 hbs0).mono fun e W' ⟨he, hb⟩ => ⟨_, he, ?_⟩
  exact law.law_post rfl hW' rfl (by kernel_rfl) (by kernel_rfl) hb

/-- BareTold, for every input. -/
theorem holds : Rows.BareToldSaid :=
  OpenClaim.holds_of_wide 3 Try.f3 rfl rfl rfl rfl rfl rfl rfl ⟨rfl, rfl, rfl, rfl, rfl⟩ rfl rfl rfl rfl rfl (by kernel_rfl) Try.func3 (by kernel_rfl)
    (of_decide_eq_true (by kernel_rfl)) (by unfold Func.isWrapper; first | (rw [if_pos (by decide +kernel)]; kernel_rfl) | (rw [if_neg (by decide +kernel)]; exact ⟨rfl, rfl⟩))
    (fun os started H enc _ => lifted os started H enc)
end Go.Proofs.Ytaecmhlglnmimaa.bareTold
