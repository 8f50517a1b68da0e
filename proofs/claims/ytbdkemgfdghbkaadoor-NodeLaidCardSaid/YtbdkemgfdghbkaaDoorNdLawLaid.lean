/-
  subeditorlaw07.NodeLaid: for every input it returns true, and the arguments read as they did. No condition.
-/
import Derived.Test.YtbdkemgfdghbkaaDoorNdLaw
import Derived.Test.YtbdkemgfdghbkaaDoorNdPure
import Derived.Deep.RegionHeld3
import Derived.Test.YtbdkemgfdghbkaaDoorTie
import Derived.Test.YtbdkemgfdghbkaaDoorCards
namespace Go.Proofs.YtbdkemgfdghbkaaDoor.nodeLaid
open Go.RowKit Go.ChangeShapes Go.WideShapes Go.ChangeAt Go.Shelf Go.Lib sx ed law nd
set_option linter.unusedVariables false

theorem path_len {x : Nd} {p : List Nat} (h : p ∈ x.paths) : p.length ≤ x.count := by
  rw [← Nd.walk_paths] at h
  obtain ⟨y, hy, rfl⟩ := List.mem_map.1 h
  have h1 := Nd.walk_short x hy
  have h2 := Nd.deep_le x
  simp at h1
  omega
theorem at_weight : ∀ (l : List Int) {x y : Nd}, x.at l = some y → y.weight ≤ x.weight
  | [], x, y, h => by cases h; exact Nat.le_refl _
  | i :: p, x, y, h => by
    obtain ⟨z, _, hz, hy⟩ := at_cons h
    have h1 := at_weight p hy
    have h2 := Fo.weight_get hz
    simp only [Nd.weight] at h1 h2 ⊢
    omega
/-- What the law's loop has found, behind k steps. -/
def parted (p q : List Int) (k : Nat) : Bool := parts (p.take k) (q.take k)
theorem parts_snoc : ∀ (k : Nat) {p q : List Int} {a b : Int}, p[k]? = some a → q[k]? = some b → parted p q (k + 1) = (parted p q k || a != b)
  | 0, [], _, _, _, h, _ => by simp at h
  | 0, _ :: _, [], _, _, _, h => by simp at h
  | 0, x :: p, y :: q, a, b, h, k => by
    simp at h k
    subst h; subst k
    simp [parted, parts]
  | k + 1, [], _, _, _, h, _ => by simp at h
  | k + 1, _ :: _, [], _, _, _, h => by simp at h
  | k + 1, x :: p, y :: q, a, b, h, h' => by
    have := parts_snoc k (p := p) (q := q) (a := a) (b := b) (by simpa using h) (by simpa using h')
    unfold parted at this ⊢
    simp only [List.take_succ_cons, parts]
    rw [this]
    cases (x != y) <;> simp
theorem parts_all : ∀ {p q : List Int} {k : Nat}, p.length ≤ k ∨ q.length ≤ k → parted p q k = parts p q
  | [], q, k, _ => by simp [parted, parts]
  | _ :: _, [], k, _ => by simp [parted, parts]
  | x :: p, y :: q, 0, h => by simp at h
  | x :: p, y :: q, k + 1, h => by
    have := parts_all (p := p) (q := q) (k := k) (by simp at h; omega)
    unfold parted at this ⊢
    simp only [List.take_succ_cons, parts, this]

set_option maxRecDepth 100000 in
set_option maxHeartbeats 8000000 in
theorem walk (bs cs : List Int) (kk jj : Int) (hkk : 0 ≤ kk ∧ kk ≤ 255) (hjj : 0 ≤ jj ∧ jj ≤ 255) (w : World) (u v : Value) (hu : BytesAt w u bs) (hv : BytesAt w v cs) (T : PrintTabs) (hT : Tabs T w) :
    Calls Tryd.prog 4 #[u, v, .int .u8 kk, .int .u8 jj] w fun e w' => e = .returned (.bool true) ∧ Below w.heap.size w w' := by
  have hna := treeN_nice bs
  have hnb := treeN_nice cs
  obtain ⟨fa, hfa⟩ : ∃ fa, (treeN bs).kids = fa := ⟨_, rfl⟩
  obtain ⟨fb, hfb⟩ : ∃ fb, (treeN cs).kids = fb := ⟨_, rfl⟩
  rw [show treeN bs = ⟨10, ⟨#[]⟩, fa⟩ by rw [← hfa]; rfl] at hna
  rw [show treeN cs = ⟨10, ⟨#[]⟩, fb⟩ by rw [← hfb]; rfl] at hnb
  have htree : ∀ W, BytesAt W u bs → Calls Tryd.prog 11 #[u] W fun e w' => ∃ s, e = .returned (.agg #[.int .i64 10, .string ⟨#[]⟩, s]) ∧ Building W.heap.size w' fa s ∧ Below W.heap.size W w' := fun W h => by
    have := tree_calls bs W u h
    rw [hfa] at this
    exact this
  have hta := htree w hu
  have HT := Lib.hid hT; have HU := Lib.hid hu; have HV := Lib.hid hv; have HTA := Lib.hid hta; have HFB := Lib.hid hfb; have HTREE := Lib.hid htree
  clear hT hu hv hta hfa hfb htree
  go_enter Tryd.func4, Tryd.ntmps4
  go_wp2_with fail
  refine HTA.out.mono ?_
  rintro e w1 ⟨s, rfl, hbd, hb1⟩
  obtain ⟨ao, cap, rfl⟩ := hbd.slice
  obtain ⟨m, hm⟩ : ∃ m, fa.len = m := ⟨_, rfl⟩
  rw [hm]
  have hka := hbd.kids.toLt
  rw [hm] at hka
  have HKA := Lib.hid hka; have HB1 := Lib.hid hb1
  clear hka hbd hb1
  go_upto_region 2 with fail
  obtain ⟨W2, hW2⟩ : ∃ W2, w1.alloc (.cells #[.int .i64 10, .string ⟨#[]⟩, .slice ao m cap] 24) = W2 := ⟨_, rfl⟩
  rw [hW2]
  have hb2 : Below w1.heap.size w1 W2 := by rw [← hW2]; exact (Below.refl _ w1).alloc (Nat.le_refl _) _
  have hn2 : Blk W2 w1.heap.size 24 #[.int .i64 10, .string ⟨#[]⟩, .slice ao m cap] := by rw [← hW2]; exact Blk.new w1 _ _
  have hbw2 := HB1.out.trans (hb2.mono HB1.out.size)
  have htb := tree_calls cs W2 v (HV.out.below hbw2)
  rw [HFB.out] at htb
  have HB2 := Lib.hid hb2; have HN2 := Lib.hid hn2; have HBW2 := Lib.hid hbw2; have HTB := Lib.hid htb
  clear hW2 hb2 hn2 hbw2 htb
  go_wp2_with fail
  refine HTB.out.mono ?_
  rintro e w3 ⟨s, rfl, hbd, hb3⟩
  obtain ⟨ab, cb, rfl⟩ := hbd.slice
  obtain ⟨n, hn⟩ : ∃ n, fb.len = n := ⟨_, rfl⟩
  rw [hn]
  have hkb := hbd.kids.toLt
  rw [hn] at hkb
  have HKB := Lib.hid hkb; have HB3 := Lib.hid hb3
  clear hkb hbd hb3
  go_upto_region 3 with fail
  obtain ⟨W6, hW4⟩ : ∃ W4, w3.alloc (.cells #[.int .i64 10, .string ⟨#[]⟩, .slice ab n cb] 24) = W4 := ⟨_, rfl⟩
  rw [hW4]
  have hb36 : Below w3.heap.size w3 W6 := by rw [← hW4]; exact (Below.refl _ w3).alloc (Nat.le_refl _) _
  have hn4 : Blk W6 w3.heap.size 24 #[.int .i64 10, .string ⟨#[]⟩, .slice ab n cb] := by rw [← hW4]; exact Blk.new w3 _ _
  have hb24 : Below W2.heap.size W2 W6 := HB3.out.trans (hb36.mono HB3.out.size)
  have hn24 := HN2.out.own hb24
  have hb16 : Below w1.heap.size w1 W6 := HB2.out.trans (hb24.mono HB2.out.size)
  have hbw6 : Below w.heap.size w W6 := HB1.out.trans (hb16.mono HB1.out.size)
  have hka6 : KidsAt (Lt W6.heap.size) W6 fa (.slice ao m cap) := (HKA.out.below hb16 (Nat.le_refl _)).mono hb16.size
  have hkb6 : KidsAt (Lt W6.heap.size) W6 fb (.slice ab n cb) := (HKB.out.below hb36 (Nat.le_refl _)).mono hb36.size
  have hT6 := HT.out.below hbw6
  have hU6 := HU.out.below hbw6
  obtain ⟨x, hx⟩ : ∃ x, (⟨10, ⟨#[]⟩, fa⟩ : Nd) = x := ⟨_, rfl⟩
  obtain ⟨y, hy⟩ : ∃ y, (⟨10, ⟨#[]⟩, fb⟩ : Nd) = y := ⟨_, rfl⟩
  have hall : ∀ W, Below W6.heap.size W6 W → (Blk W w1.heap.size 24 #[.int .i64 10, .string ⟨#[]⟩, .slice ao m cap] ∧ Blk W w3.heap.size 24 #[.int .i64 10, .string ⟨#[]⟩, .slice ab n cb]) ∧ NdAt (Lt W.heap.size) W x (.agg #[.int .i64 10, .string ⟨#[]⟩, .slice ao m cap]) ∧ NdAt (Lt W.heap.size) W y (.agg #[.int .i64 10, .string ⟨#[]⟩, .slice ab n cb]) ∧ Tabs T W ∧ BytesAt W u bs ∧ Below w.heap.size w W := fun W hb => by
    rw [← hx, ← hy]
    exact ⟨⟨hn24.own hb, hn4.own hb⟩, (NdAt.mk (hka6.below hb (Nat.le_refl _))).mono hb.size, (NdAt.mk (hkb6.below hb (Nat.le_refl _))).mono hb.size, hT6.below hb, hU6.below hb, hbw6.trans (hb.mono hbw6.size)⟩
  rw [hx] at hna
  rw [hy] at hnb
  obtain ⟨c, hc⟩ : ∃ c, x.count = c := ⟨_, rfl⟩
  have hc2 : c ≤ 200 := by rw [← hc]; exact Nat.le_trans (Nd.count_le x) hna.2
  have hc1 : 1 ≤ c := by rw [← hc]; simp [Nd.count]
  have hpa := paths_calls x (by omega) W6 _ (hall W6 (Below.refl _ _)).2.1
  rw [hc] at hpa
  have x0 := hn24.cell 0; have x1 := hn24.cell 1; have x2 := hn24.cell 2
  have HALL := Lib.hid hall; have HNA := Lib.hid hna; have HNB := Lib.hid hnb; have HPA := Lib.hid hpa; have HC := Lib.hid hc; have HXF := Lib.hid hx
  clear hall hna hnb hpa hc hx hy hb36 hn4 hb24 hn24 hb16 hbw6 hka6 hkb6 hT6 hU6 hW4
  go_wp2_with fail
  refine HPA.out.mono ?_
  rintro e w7 ⟨v7, L, rfl, hown, hls, hb7⟩
  have hrow : ∃ gl cl, v7 = .slice (some ⟨gl, 0, none⟩) c cl ∧ c ≤ cl ∧ gl < w7.heap.size := by
    rcases id hown.2 with ⟨_, h0⟩ | ⟨g, cp, cur, e, _, _, h4, _⟩
    · omega
    · exact ⟨g, cp, e, h4, (hown.lt g (by rw [e]; rfl)).2⟩
  obtain ⟨gl, cl, rfl, hcl, hgl⟩ := hrow
  have hpath : ∀ (k : Nat) (p : List Nat), x.paths[k]? = some p → ∃ pa pc, w7.cell? ⟨gl, k, none⟩ = some (.slice pa p.length pc) ∧ ∀ W, Below w7.heap.size w7 W → IntsAt (Lt W.heap.size) W (.slice pa p.length pc) (ints p) := fun k p hp => by
    obtain ⟨cv, hcv, hci⟩ := hls.2 k (ints p) (by rw [List.getElem?_map, hp]; rfl)
    obtain ⟨pa, pc, rfl, _⟩ := id hci
    have hcell := hown.cells (g := gl) rfl k _ hcv
    rw [nd.addr_add, Nat.zero_add] at hcell
    rw [show (ints p).length = p.length by simp [ints]] at hcell hci
    exact ⟨pa, pc, hcell, fun W hb => hci.keep (fun j hj => Nat.lt_of_lt_of_le hj.2 hb.size) (fun j hj => hb.block j hj.2)⟩
  have idx : ∀ z : Int, 0 ≤ z → ∃ r : Nat, z % (c : Int) = (r : Int) ∧ r < c := fun z hz => ⟨(z % (c : Int)).toNat, by have := Int.emod_nonneg z (show (c : Int) ≠ 0 by omega); omega, by have := Int.emod_lt_of_pos z (show 0 < (c : Int) by omega); have := Int.emod_nonneg z (show (c : Int) ≠ 0 by omega); omega⟩
  obtain ⟨r1, hr1, hl1⟩ := idx kk hkk.1
  obtain ⟨r2, hr2, hl2⟩ := idx jj hjj.1
  have hrt1 : Int.tmod kk (c : Int) = (r1 : Int) := by rw [Int.tmod_eq_emod_of_nonneg hkk.1]; exact hr1
  have hrt2 : Int.tmod jj (c : Int) = (r2 : Int) := by rw [Int.tmod_eq_emod_of_nonneg hjj.1]; exact hr2
  have hr1l : (r1 : Int) < (c : Int) := by omega
  have hr2l : (r2 : Int) < (c : Int) := by omega
  obtain ⟨p, hp⟩ : ∃ p, x.paths[r1]? = some p := ⟨_, List.getElem?_eq_getElem (by rw [Nd.paths_len, HC.out]; exact hl1)⟩
  obtain ⟨q, hq⟩ : ∃ q, x.paths[r2]? = some q := ⟨_, List.getElem?_eq_getElem (by rw [Nd.paths_len, HC.out]; exact hl2)⟩
  obtain ⟨pa, pc, hpc, hpi⟩ := hpath r1 p hp
  obtain ⟨qa, qc, hqc, hqi⟩ := hpath r2 q hq
  obtain ⟨old, hold⟩ := Nd.at_paths (List.mem_of_getElem? hp)
  obtain ⟨a, ha⟩ := Nd.at_paths (List.mem_of_getElem? hq)
  have hpl : p.length ≤ 200 := by have := path_len (List.mem_of_getElem? hp); have := HC.out; omega
  have hql : q.length ≤ 200 := by have := path_len (List.mem_of_getElem? hq); have := HC.out; omega
  obtain ⟨r, hr, hry, hrc, hrq⟩ := put_at (ints p) y (show x.at (ints p) = some old from hold)
  have hrw : r.weight ≤ 400 := by have := put_weight _ hr; have := HNA.out.2; have := HNB.out.2; omega
  have hk0 : decide ((c : Int) = 0) = false := decide_eq_false (by omega)
  have hkne : ¬ ((c : Int) = 0) := by omega
  have hall7 : ∀ W, Below w7.heap.size w7 W → Below W6.heap.size W6 W := fun W h => hb7.trans (h.mono hb7.size)
  obtain ⟨⟨hbx, hby⟩, _⟩ := HALL.out w7 hb7
  have x0 := hbx.cell 0; have x1 := hbx.cell 1; have x2 := hbx.cell 2
  have y0 := hby.cell 0; have y1 := hby.cell 1; have y2 := hby.cell 2
  have hwith := with_calls x y (by have := HNA.out.2; omega) (by have := HNB.out.2; omega) (ints p) w7 _ _ _ (HALL.out w7 hb7).2.1 (hpi w7 (Below.refl _ _)) (HALL.out w7 hb7).2.2.1
  rw [hr] at hwith
  have HWITH := Lib.hid hwith; have HPI := Lib.hid hpi; have HQI := Lib.hid hqi; have HOLD := Lib.hid hold; have HA := Lib.hid ha; have HRY := Lib.hid hry; have HRC := Lib.hid hrc; have HRQ := Lib.hid hrq; have HRW := Lib.hid hrw; have HALL7 := Lib.hid hall7
  clear hwith hpi hqi hold ha hry hrc hrq hrw hall7 hr hp hq hpath hown hls hb7 hbx hby idx
  go_wp2_with fail
  refine HWITH.out.mono ?_
  rintro e w8 h8
  obtain ⟨v8, rfl, s8, rfl, hbd8, hb8⟩ : AtRes w7 (some r) e w8 := h8
  obtain ⟨sa, sc, rfl⟩ := hbd8.slice
  have hk8 := hbd8.kids.toLt
  have HB8 := Lib.hid hb8; have HK8 := Lib.hid hk8
  clear hbd8 hb8 hk8 x0 x1 x2 y0 y1 y2
  go_upto_region 9 with fail
  obtain ⟨nr, hnr⟩ : ∃ nr, r.kids.len = nr := ⟨_, rfl⟩
  rw [hnr] at HK8 ⊢
  obtain ⟨W9, hW9⟩ : ∃ W9, w8.alloc (.cells #[.int .i64 r.k, .string r.t, .slice sa nr sc] 24) = W9 := ⟨_, rfl⟩
  rw [hW9]
  have hb89 : Below w8.heap.size w8 W9 := by rw [← hW9]; exact (Below.refl _ w8).alloc (Nat.le_refl _) _
  have hb79 : Below w7.heap.size w7 W9 := HB8.out.trans (hb89.mono HB8.out.size)
  have hm9 : Blk W9 w8.heap.size 24 #[.int .i64 r.k, .string r.t, .slice sa nr sc] := by rw [← hW9]; exact Blk.new w8 _ _
  have hnd9 : NdAt (Lt W9.heap.size) W9 r (.agg #[.int .i64 r.k, .string r.t, .slice sa nr sc]) := (NdAt.mk (HK8.out.below hb89 (Nat.le_refl _))).mono hb89.size
  have hat := at_calls r (by have := HRW.out; omega) (ints p) W9 _ _ hnd9 (HPI.out W9 hb79)
  rw [HRY.out] at hat
  have z0 := hm9.cell 0; have z1 := hm9.cell 1; have z2 := hm9.cell 2
  have HM9 := Lib.hid hm9; have HND9 := Lib.hid hnd9; have HB79 := Lib.hid hb79; have HAT := Lib.hid hat
  clear hW9 hb89 hb79 hm9 hnd9 hat hnr
  go_wp2_with fail
  refine HAT.out.mono ?_
  rintro e w10 h10
  obtain ⟨v10, rfl, s10, rfl, hbd10, hb10⟩ : AtRes W9 (some y) e w10 := h10
  obtain ⟨ya, yc, rfl⟩ := hbd10.slice
  obtain ⟨ny, hny⟩ : ∃ ny, y.kids.len = ny := ⟨_, rfl⟩
  have hk10 := hbd10.kids.toLt
  rw [hny] at hk10 ⊢
  have HB10 := Lib.hid hb10; have HK10 := Lib.hid hk10
  clear hbd10 hb10 hk10 z0 z1 z2 hny
  go_upto_region 10 with fail
  obtain ⟨W11, hW11⟩ : ∃ W11, w10.alloc (.cells #[.int .i64 y.k, .string y.t, .slice ya ny yc] 24) = W11 := ⟨_, rfl⟩
  rw [hW11]
  have hb1011 : Below w10.heap.size w10 W11 := by rw [← hW11]; exact (Below.refl _ w10).alloc (Nat.le_refl _) _
  have hb911 : Below W9.heap.size W9 W11 := HB10.out.trans (hb1011.mono HB10.out.size)
  have hy11 : Blk W11 w10.heap.size 24 #[.int .i64 y.k, .string y.t, .slice ya ny yc] := by rw [← hW11]; exact Blk.new w10 _ _
  have hndy : NdAt (Lt W11.heap.size) W11 y (.agg #[.int .i64 y.k, .string y.t, .slice ya ny yc]) := (NdAt.mk (HK10.out.below hb1011 (Nat.le_refl _))).mono hb1011.size
  have hb711 := HB79.out.trans (hb911.mono HB79.out.size)
  have hall11 : ∀ W, Below W11.heap.size W11 W → (Blk W w8.heap.size 24 #[.int .i64 r.k, .string r.t, .slice sa nr sc] ∧ Blk W w10.heap.size 24 #[.int .i64 y.k, .string y.t, .slice ya ny yc]) ∧ NdAt (Lt W.heap.size) W r (.agg #[.int .i64 r.k, .string r.t, .slice sa nr sc]) ∧ NdAt (Lt W.heap.size) W y (.agg #[.int .i64 y.k, .string y.t, .slice ya ny yc]) ∧ Below w7.heap.size w7 W := fun W hb =>
    ⟨⟨(HM9.out.own hb911).own hb, hy11.own hb⟩, ((HND9.out.below hb911 (Nat.le_refl _)).mono hb911.size |>.below hb (Nat.le_refl _)).mono hb.size, (hndy.below hb (Nat.le_refl _)).mono hb.size, hb711.trans (hb.mono hb711.size)⟩
  have hip : (ints p).length = p.length := by simp [ints]
  have hiq : (ints q).length = q.length := by simp [ints]
  obtain ⟨lp, hlp⟩ : ∃ lp, p.length = lp := ⟨_, rfl⟩
  obtain ⟨lq, hlq⟩ : ∃ lq, q.length = lq := ⟨_, rfl⟩
  rw [hlp] at hip hpl HPI ⊢
  rw [hlq] at hiq hql HQI ⊢
  have HALL11 := Lib.hid hall11; have HIP := Lib.hid hip; have HIQ := Lib.hid hiq
  clear hW11 hb1011 hb911 hy11 hndy hb711 hall11 hip hiq hlp hlq
  go_wp2_with fail
  go_loopw [18, 19] (fun d i wr => ∃ k : Nat, k ≤ lp ∧ k ≤ lq ∧ i = .int .i64 (k : Int) ∧ d = .bool (parted (ints p) (ints q) k) ∧ Below W11.heap.size W11 wr) (fun _ i _ => lp - (RowKit.intOf i).toNat)
  case atStart => exact ⟨0, Nat.zero_le _, Nat.zero_le _, rfl, by simp [parted, parts], Below.refl _ _⟩
  case round =>
    obtain ⟨k, hk1, hk2, rfl, rfl, hb⟩ := hrel
    by_cases hlt : k < lp ∧ k < lq
    · have t1 : (k : Int) < (lp : Int) := by omega
      have t2 : (k : Int) < (lq : Int) := by omega
      have ea : (ints p)[k]? = some ((ints p)[k]'(by rw [HIP.out]; omega)) := List.getElem?_eq_getElem _
      have eb : (ints q)[k]? = some ((ints q)[k]'(by rw [HIQ.out]; omega)) := List.getElem?_eq_getElem _
      obtain ⟨A, hA⟩ : ∃ A, (ints p)[k]'(by rw [HIP.out]; omega) = A := ⟨_, rfl⟩
      obtain ⟨B, hB⟩ : ∃ B, (ints q)[k]'(by rw [HIQ.out]; omega) = B := ⟨_, rfl⟩
      rw [hA] at ea; rw [hB] at eb
      have hsn := parts_snoc k ea eb
      obtain ⟨ga, oa, e1, _, _, ca⟩ := (HPI.out _ (HALL11.out _ hb).2.2.2).get ea
      obtain ⟨gb, ob, e2, _, _, cb'⟩ := (HQI.out _ (HALL11.out _ hb).2.2.2).get eb
      subst e1; subst e2
      have HSN := Lib.hid hsn; have HB := Lib.hid hb
      clear ea eb hA hB hsn hb
      cases hpt : parted (ints p) (ints q) k with
      | true =>
        rw [hpt] at HSN
        clear hpt
        go_wp2_with fail
        go_region
        go_wp2_with fail
        exact ⟨⟨k + 1, hlt.1, hlt.2, by go_num, by rw [HSN.out]; simp, HB.out.drew⟩, by simp [RowKit.intOf]; omega⟩
      | false =>
        rw [hpt] at HSN
        clear hpt
        go_wp2_with fail
        go_region
        go_wp2_with fail
        exact ⟨⟨k + 1, hlt.1, hlt.2, by go_num, by rw [HSN.out]; simp [bne], HB.out.drew⟩, by simp [RowKit.intOf]; omega⟩
    · have hpa2 := parts_all (p := ints p) (q := ints q) (k := k) (by rw [HIP.out, HIQ.out]; omega)
      rw [hpa2]
      by_cases h1 : k < lp
      · have t1 : (k : Int) < (lp : Int) := by omega
        have t2 : decide ((k : Int) < (lq : Int)) = false := by simp; omega
        go_upto_region 15 with fail
        obtain ⟨D, hD⟩ : ∃ D, parts (ints p) (ints q) = D := ⟨_, rfl⟩
        rw [hD]
        have h7 := (HALL11.out _ hb).2.2.2
        have h6 := HALL7.out _ h7
        obtain ⟨⟨hbx, _⟩, hndx, _⟩ := HALL.out _ h6
        have x0 := hbx.cell 0; have x1 := hbx.cell 1; have x2 := hbx.cell 2
        have hat := at_calls x (by have := HNA.out.2; omega) (ints q) _ _ _ hndx (HQI.out _ h7)
        rw [show x.at (ints q) = some a from HA.out] at hat
        have HAT2 := Lib.hid hat; have HB := Lib.hid hb; have HD := Lib.hid hD
        clear hat hb hD h7 h6 hbx hndx hpa2
        go_wp2_with fail
        refine HAT2.out.mono ?_
        rintro e w12 h12
        obtain ⟨v12, rfl, s12, rfl, hbd12, hb12⟩ : AtRes wr (some a) e w12 := h12
        obtain ⟨aa, ac, rfl⟩ := hbd12.slice
        obtain ⟨na, hna2⟩ : ∃ na, a.kids.len = na := ⟨_, rfl⟩
        have hk12 := hbd12.kids.toLt
        rw [hna2] at hk12 ⊢
        have HB12 := Lib.hid hb12; have HK12 := Lib.hid hk12
        clear hbd12 hb12 hk12 x0 x1 x2 hna2
        go_upto_region 16 with fail
        obtain ⟨W13, hW13⟩ : ∃ W13, w12.alloc (.cells #[.int .i64 a.k, .string a.t, .slice aa na ac] 24) = W13 := ⟨_, rfl⟩
        rw [hW13]
        have hb1213 : Below w12.heap.size w12 W13 := by rw [← hW13]; exact (Below.refl _ w12).alloc (Nat.le_refl _) _
        have ha13 : Blk W13 w12.heap.size 24 #[.int .i64 a.k, .string a.t, .slice aa na ac] := by rw [← hW13]; exact Blk.new w12 _ _
        have hnda : NdAt (Lt W13.heap.size) W13 a (.agg #[.int .i64 a.k, .string a.t, .slice aa na ac]) := (NdAt.mk (HK12.out.below hb1213 (Nat.le_refl _))).mono hb1213.size
        have hb13 : Below W11.heap.size W11 W13 := HB.out.trans ((HB12.out.trans (hb1213.mono HB12.out.size)).mono HB.out.size)
        obtain ⟨⟨hbm, _⟩, hndr, _, h7⟩ := HALL11.out W13 hb13
        have z0 := hbm.cell 0; have z1 := hbm.cell 1; have z2 := hbm.cell 2
        have hatb : Calls Tryd.prog 18 #[.agg #[.int .i64 r.k, .string r.t, .slice sa nr sc], .slice qa lq qc] W13 fun e w' => ∃ (K : Int) (Tt : ByteArray) (sb : Option Addr) (nb cbb : Nat) (f : Bool), e = .returned (.tuple #[.agg #[.int .i64 K, .string Tt, .slice sb nb cbb], .bool f]) ∧ Below W13.heap.size W13 w' ∧ (D = true → f = true ∧ K = a.k ∧ Tt = a.t ∧ KidsAt (Lt w'.heap.size) w' a.kids (.slice sb nb cbb)) := by
          refine (at_calls r (by have := HRW.out; omega) (ints q) W13 _ _ hndr (HQI.out W13 h7)).mono fun e w' h => ?_
          cases hra : r.at (ints q) with
          | none =>
            rw [hra] at h
            obtain ⟨rfl, hb⟩ := h
            refine ⟨0, ⟨#[]⟩, none, 0, 0, false, rfl, hb, fun hd => ?_⟩
            have := HRQ.out (ints q) (HD.out.trans hd)
            rw [hra, show x.at (ints q) = some a from HA.out] at this
            cases this
          | some b =>
            rw [hra] at h
            obtain ⟨v, rfl, s, rfl, hbd, hb⟩ := h
            obtain ⟨sb, cbb, rfl⟩ := hbd.slice
            refine ⟨_, _, sb, _, cbb, true, rfl, hb, fun hd => ?_⟩
            have := HRQ.out (ints q) (HD.out.trans hd)
            rw [hra, show x.at (ints q) = some a from HA.out] at this
            cases this
            exact ⟨rfl, rfl, rfl, hbd.kids.toLt⟩
        have HA13 := Lib.hid ha13; have HNDA := Lib.hid hnda; have HB13 := Lib.hid hb13; have HATB := Lib.hid hatb
        clear hW13 hb1213 ha13 hnda hb13 hbm hndr h7 hatb
        go_wp2_with fail
        refine HATB.out.mono ?_
        rintro e w14 ⟨K, Tt, sb, nb, cbb, f, rfl, hb14, hf⟩
        have HB14 := Lib.hid hb14; have HF := Lib.hid hf
        clear hb14 hf z0 z1 z2
        go_upto_region 17 with fail
        obtain ⟨W15, hW15⟩ : ∃ W15, w14.alloc (.cells #[.int .i64 K, .string Tt, .slice sb nb cbb] 24) = W15 := ⟨_, rfl⟩
        rw [hW15]
        have hb1415 : Below w14.heap.size w14 W15 := by rw [← hW15]; exact (Below.refl _ w14).alloc (Nat.le_refl _) _
        have hb1315 : Below W13.heap.size W13 W15 := HB14.out.trans (hb1415.mono HB14.out.size)
        have hbb15 : Blk W15 w14.heap.size 24 #[.int .i64 K, .string Tt, .slice sb nb cbb] := by rw [← hW15]; exact Blk.new w14 _ _
        have hndb : D = true → NdAt (Lt W15.heap.size) W15 a (.agg #[.int .i64 K, .string Tt, .slice sb nb cbb]) := fun hd => by
          obtain ⟨_, rfl, rfl, hk⟩ := HF.out hd
          exact (NdAt.mk (hk.below hb1415 (Nat.le_refl _))).mono hb1415.size
        have hb15 : Below W11.heap.size W11 W15 := HB13.out.trans (hb1315.mono HB13.out.size)
        have ha15 := HA13.out.own hb1315
        have hnda15 := (HNDA.out.below hb1315 (Nat.le_refl _)).mono hb1315.size
        have h7 := (HALL11.out W15 hb15).2.2.2
        have h6 := HALL7.out W15 h7
        obtain ⟨⟨hbx, _⟩, hndx, _⟩ := HALL.out W15 h6
        have x0 := hbx.cell 0; have x1 := hbx.cell 1; have x2 := hbx.cell 2
        have hat := at_calls x (by have := HNA.out.2; omega) (ints p) W15 _ _ hndx (HPI.out W15 h7)
        rw [show x.at (ints p) = some old from HOLD.out] at hat
        have HAT3 := Lib.hid hat; have HB15 := Lib.hid hb15; have HA15 := Lib.hid ha15; have HNDA15 := Lib.hid hnda15; have HBB15 := Lib.hid hbb15; have HNDB := Lib.hid hndb
        clear hW15 hb1415 hb1315 hbb15 hndb hb15 ha15 hnda15 h7 h6 hbx hndx hat
        go_wp2_with fail
        refine HAT3.out.mono ?_
        rintro e w16 h16
        obtain ⟨v16, rfl, s16, rfl, hbd16, hb16⟩ : AtRes W15 (some old) e w16 := h16
        obtain ⟨oa, oc, rfl⟩ := hbd16.slice
        obtain ⟨no, hno⟩ : ∃ no, old.kids.len = no := ⟨_, rfl⟩
        have hk16 := hbd16.kids.toLt
        rw [hno] at hk16 ⊢
        have HB16 := Lib.hid hb16; have HK16 := Lib.hid hk16
        clear hbd16 hb16 hk16 x0 x1 x2 hno
        go_upto_region 18 with fail
        obtain ⟨W17, hW17⟩ : ∃ W17, w16.alloc (.cells #[.int .i64 old.k, .string old.t, .slice oa no oc] 24) = W17 := ⟨_, rfl⟩
        rw [hW17]
        have hb1617 : Below w16.heap.size w16 W17 := by rw [← hW17]; exact (Below.refl _ w16).alloc (Nat.le_refl _) _
        have hb1517 : Below W15.heap.size W15 W17 := HB16.out.trans (hb1617.mono HB16.out.size)
        have ho17 : Blk W17 w16.heap.size 24 #[.int .i64 old.k, .string old.t, .slice oa no oc] := by rw [← hW17]; exact Blk.new w16 _ _
        have ha17 := HA15.out.own hb1517
        have hbb17 := HBB15.out.own hb1517
        have hb17 : Below W11.heap.size W11 W17 := HB15.out.trans (hb1517.mono HB15.out.size)
        have hz : ∀ W, Below W17.heap.size W17 W → NdAt (Lt W.heap.size) W x (.agg #[.int .i64 10, .string ⟨#[]⟩, .slice ao m cap]) ∧ NdAt (Lt W.heap.size) W y (.agg #[.int .i64 10, .string ⟨#[]⟩, .slice ab n cb]) ∧ NdAt (Lt W.heap.size) W r (.agg #[.int .i64 r.k, .string r.t, .slice sa nr sc]) ∧ NdAt (Lt W.heap.size) W y (.agg #[.int .i64 y.k, .string y.t, .slice ya ny yc]) ∧ NdAt (Lt W.heap.size) W a (.agg #[.int .i64 a.k, .string a.t, .slice aa na ac]) ∧ (D = true → NdAt (Lt W.heap.size) W a (.agg #[.int .i64 K, .string Tt, .slice sb nb cbb])) ∧ NdAt (Lt W.heap.size) W old (.agg #[.int .i64 old.k, .string old.t, .slice oa no oc]) ∧ Tabs T W ∧ BytesAt W u bs ∧ Below w.heap.size w W := fun W hW => by
          have hA := hb17.trans (hW.mono hb17.size)
          have hA7 := (HALL11.out W hA).2.2.2
          obtain ⟨_, g1, g2, g3, g4, g5⟩ := HALL.out W (HALL7.out W hA7)
          have h15 := hb1517.trans (hW.mono hb1517.size)
          exact ⟨g1, g2, (HALL11.out W hA).2.1, (HALL11.out W hA).2.2.1, (HNDA15.out.below h15 (Nat.le_refl _)).mono h15.size, fun hd => ((HNDB.out hd).below h15 (Nat.le_refl _)).mono h15.size, (NdAt.mk (HK16.out.below (hb1617.trans (hW.mono hb1617.size)) (Nat.le_refl _))).mono (hb1617.trans (hW.mono hb1617.size)).size, g3, g4, g5⟩
        have hbz : Below W6.heap.size W6 W17 ∧ Below W11.heap.size W11 W17 := ⟨HALL7.out W17 (HALL11.out W17 hb17).2.2.2, hb17⟩
        obtain ⟨co, hco⟩ : ∃ co, old.count = co := ⟨_, rfl⟩
        obtain ⟨cy, hcy⟩ : ∃ cy, y.count = cy := ⟨_, rfl⟩
        have hcr : (r.count : Int) = (c : Int) - (co : Int) + (cy : Int) := by have := HRC.out; have := HC.out; omega
        have hco2 : co ≤ 400 := by have := at_weight (ints p) (show x.at (ints p) = some old from HOLD.out); have := Nd.count_le old; have := HNA.out.2; omega
        have hcy2 : cy ≤ 200 := by have := Nd.count_le y; have := HNB.out.2; omega
        have i64w : ∀ z : Int, -9223372036854775808 ≤ z → z ≤ 9223372036854775807 → IntKind.i64.wrap z = z := fun z h1 h2 => by
          simp [IntKind.wrap, IntKind.bits, IntKind.signed]; omega
        have r1' : IntKind.i64.wrap ((c : Int) - (co : Int)) = (c : Int) - (co : Int) := i64w _ (by omega) (by omega)
        have r2' : IntKind.i64.wrap ((c : Int) - (co : Int) + (cy : Int)) = (c : Int) - (co : Int) + (cy : Int) := i64w _ (by omega) (by omega)
        have HO17 := Lib.hid ho17; have HA17 := Lib.hid ha17; have HBB17 := Lib.hid hbb17; have HZ := Lib.hid hz; have HBZ := Lib.hid hbz; have HCO := Lib.hid hco; have HCY := Lib.hid hcy; have HCR := Lib.hid hcr
        clear hW17 hb1617 hb1517 ho17 ha17 hbb17 hb17 hz hbz hco hcy hcr i64w
        cases D with
        | true =>
          try rw [HD.out]
          obtain ⟨rfl, rfl, rfl, _⟩ := HF.out rfl
          have hS : (fun u : World => (u.cell? ⟨w1.heap.size, 0, none⟩ = some (.int .i64 10) ∧ u.cell? ⟨w1.heap.size, 1, none⟩ = some (.string ⟨#[]⟩) ∧ u.cell? ⟨w1.heap.size, 2, none⟩ = some (.slice ao m cap) ∧ u.cell? ⟨w3.heap.size, 0, none⟩ = some (.int .i64 10) ∧ u.cell? ⟨w3.heap.size, 1, none⟩ = some (.string ⟨#[]⟩) ∧ u.cell? ⟨w3.heap.size, 2, none⟩ = some (.slice ab n cb) ∧ u.cell? ⟨w8.heap.size, 0, none⟩ = some (.int .i64 r.k) ∧ u.cell? ⟨w8.heap.size, 1, none⟩ = some (.string r.t) ∧ u.cell? ⟨w8.heap.size, 2, none⟩ = some (.slice sa nr sc) ∧ u.cell? ⟨w10.heap.size, 0, none⟩ = some (.int .i64 y.k) ∧ u.cell? ⟨w10.heap.size, 1, none⟩ = some (.string y.t) ∧ u.cell? ⟨w10.heap.size, 2, none⟩ = some (.slice ya ny yc) ∧ u.cell? ⟨w12.heap.size, 0, none⟩ = some (.int .i64 a.k) ∧ u.cell? ⟨w12.heap.size, 1, none⟩ = some (.string a.t) ∧ u.cell? ⟨w12.heap.size, 2, none⟩ = some (.slice aa na ac) ∧ u.cell? ⟨w14.heap.size, 0, none⟩ = some (.int .i64 a.k) ∧ u.cell? ⟨w14.heap.size, 1, none⟩ = some (.string a.t) ∧ u.cell? ⟨w14.heap.size, 2, none⟩ = some (.slice sb nb cbb) ∧ u.cell? ⟨w16.heap.size, 0, none⟩ = some (.int .i64 old.k) ∧ u.cell? ⟨w16.heap.size, 1, none⟩ = some (.string old.t) ∧ u.cell? ⟨w16.heap.size, 2, none⟩ = some (.slice oa no oc)) ∧ Below W17.heap.size W17 u) W17 := by
            obtain ⟨⟨g1, g2⟩, _⟩ := HALL.out W17 (HBZ.out).1
            obtain ⟨⟨g3, g4⟩, _⟩ := HALL11.out W17 (HBZ.out).2
            exact ⟨⟨g1.cell 0, g1.cell 1, g1.cell 2, g2.cell 0, g2.cell 1, g2.cell 2, g3.cell 0, g3.cell 1, g3.cell 2, g4.cell 0, g4.cell 1, g4.cell 2, HA17.out.cell 0, HA17.out.cell 1, HA17.out.cell 2, HBB17.out.cell 0, HBB17.out.cell 1, HBB17.out.cell 2, HO17.out.cell 0, HO17.out.cell 1, HO17.out.cell 2⟩, Below.refl _ _⟩
          have more : ∀ (u v : World), ((u.cell? ⟨w1.heap.size, 0, none⟩ = some (.int .i64 10) ∧ u.cell? ⟨w1.heap.size, 1, none⟩ = some (.string ⟨#[]⟩) ∧ u.cell? ⟨w1.heap.size, 2, none⟩ = some (.slice ao m cap) ∧ u.cell? ⟨w3.heap.size, 0, none⟩ = some (.int .i64 10) ∧ u.cell? ⟨w3.heap.size, 1, none⟩ = some (.string ⟨#[]⟩) ∧ u.cell? ⟨w3.heap.size, 2, none⟩ = some (.slice ab n cb) ∧ u.cell? ⟨w8.heap.size, 0, none⟩ = some (.int .i64 r.k) ∧ u.cell? ⟨w8.heap.size, 1, none⟩ = some (.string r.t) ∧ u.cell? ⟨w8.heap.size, 2, none⟩ = some (.slice sa nr sc) ∧ u.cell? ⟨w10.heap.size, 0, none⟩ = some (.int .i64 y.k) ∧ u.cell? ⟨w10.heap.size, 1, none⟩ = some (.string y.t) ∧ u.cell? ⟨w10.heap.size, 2, none⟩ = some (.slice ya ny yc) ∧ u.cell? ⟨w12.heap.size, 0, none⟩ = some (.int .i64 a.k) ∧ u.cell? ⟨w12.heap.size, 1, none⟩ = some (.string a.t) ∧ u.cell? ⟨w12.heap.size, 2, none⟩ = some (.slice aa na ac) ∧ u.cell? ⟨w14.heap.size, 0, none⟩ = some (.int .i64 a.k) ∧ u.cell? ⟨w14.heap.size, 1, none⟩ = some (.string a.t) ∧ u.cell? ⟨w14.heap.size, 2, none⟩ = some (.slice sb nb cbb) ∧ u.cell? ⟨w16.heap.size, 0, none⟩ = some (.int .i64 old.k) ∧ u.cell? ⟨w16.heap.size, 1, none⟩ = some (.string old.t) ∧ u.cell? ⟨w16.heap.size, 2, none⟩ = some (.slice oa no oc)) ∧ Below W17.heap.size W17 u) → Below u.heap.size u v → ((v.cell? ⟨w1.heap.size, 0, none⟩ = some (.int .i64 10) ∧ v.cell? ⟨w1.heap.size, 1, none⟩ = some (.string ⟨#[]⟩) ∧ v.cell? ⟨w1.heap.size, 2, none⟩ = some (.slice ao m cap) ∧ v.cell? ⟨w3.heap.size, 0, none⟩ = some (.int .i64 10) ∧ v.cell? ⟨w3.heap.size, 1, none⟩ = some (.string ⟨#[]⟩) ∧ v.cell? ⟨w3.heap.size, 2, none⟩ = some (.slice ab n cb) ∧ v.cell? ⟨w8.heap.size, 0, none⟩ = some (.int .i64 r.k) ∧ v.cell? ⟨w8.heap.size, 1, none⟩ = some (.string r.t) ∧ v.cell? ⟨w8.heap.size, 2, none⟩ = some (.slice sa nr sc) ∧ v.cell? ⟨w10.heap.size, 0, none⟩ = some (.int .i64 y.k) ∧ v.cell? ⟨w10.heap.size, 1, none⟩ = some (.string y.t) ∧ v.cell? ⟨w10.heap.size, 2, none⟩ = some (.slice ya ny yc) ∧ v.cell? ⟨w12.heap.size, 0, none⟩ = some (.int .i64 a.k) ∧ v.cell? ⟨w12.heap.size, 1, none⟩ = some (.string a.t) ∧ v.cell? ⟨w12.heap.size, 2, none⟩ = some (.slice aa na ac) ∧ v.cell? ⟨w14.heap.size, 0, none⟩ = some (.int .i64 a.k) ∧ v.cell? ⟨w14.heap.size, 1, none⟩ = some (.string a.t) ∧ v.cell? ⟨w14.heap.size, 2, none⟩ = some (.slice sb nb cbb) ∧ v.cell? ⟨w16.heap.size, 0, none⟩ = some (.int .i64 old.k) ∧ v.cell? ⟨w16.heap.size, 1, none⟩ = some (.string old.t) ∧ v.cell? ⟨w16.heap.size, 2, none⟩ = some (.slice oa no oc)) ∧ Below W17.heap.size W17 v) := fun u v h hb => by
            obtain ⟨⟨h0, h1, h2, h3, h4, h5, h6, h7, h8, h9, h10, h11, h12, h13, h14, h15, h16, h17, h18, h19, h20⟩, hz⟩ := h
            have q : ∀ {p : Addr} {x : Value}, u.cell? p = some x → v.cell? p = some x := fun hp => (hb.cell (World.block_lt_of_cell? u _ hp)).trans hp
            exact ⟨⟨q h0, q h1, q h2, q h3, q h4, q h5, q h6, q h7, q h8, q h9, q h10, q h11, q h12, q h13, q h14, q h15, q h16, q h17, q h18, q h19, q h20⟩, hz.trans (hb.mono hz.size)⟩
          have kn : ∀ (u : World), ((u.cell? ⟨w1.heap.size, 0, none⟩ = some (.int .i64 10) ∧ u.cell? ⟨w1.heap.size, 1, none⟩ = some (.string ⟨#[]⟩) ∧ u.cell? ⟨w1.heap.size, 2, none⟩ = some (.slice ao m cap) ∧ u.cell? ⟨w3.heap.size, 0, none⟩ = some (.int .i64 10) ∧ u.cell? ⟨w3.heap.size, 1, none⟩ = some (.string ⟨#[]⟩) ∧ u.cell? ⟨w3.heap.size, 2, none⟩ = some (.slice ab n cb) ∧ u.cell? ⟨w8.heap.size, 0, none⟩ = some (.int .i64 r.k) ∧ u.cell? ⟨w8.heap.size, 1, none⟩ = some (.string r.t) ∧ u.cell? ⟨w8.heap.size, 2, none⟩ = some (.slice sa nr sc) ∧ u.cell? ⟨w10.heap.size, 0, none⟩ = some (.int .i64 y.k) ∧ u.cell? ⟨w10.heap.size, 1, none⟩ = some (.string y.t) ∧ u.cell? ⟨w10.heap.size, 2, none⟩ = some (.slice ya ny yc) ∧ u.cell? ⟨w12.heap.size, 0, none⟩ = some (.int .i64 a.k) ∧ u.cell? ⟨w12.heap.size, 1, none⟩ = some (.string a.t) ∧ u.cell? ⟨w12.heap.size, 2, none⟩ = some (.slice aa na ac) ∧ u.cell? ⟨w14.heap.size, 0, none⟩ = some (.int .i64 a.k) ∧ u.cell? ⟨w14.heap.size, 1, none⟩ = some (.string a.t) ∧ u.cell? ⟨w14.heap.size, 2, none⟩ = some (.slice sb nb cbb) ∧ u.cell? ⟨w16.heap.size, 0, none⟩ = some (.int .i64 old.k) ∧ u.cell? ⟨w16.heap.size, 1, none⟩ = some (.string old.t) ∧ u.cell? ⟨w16.heap.size, 2, none⟩ = some (.slice oa no oc)) ∧ Below W17.heap.size W17 u) → Calls Tryd.prog 10 #[] u fun e w' => e = .returned (.bool true) ∧ Below u.heap.size u w' := fun _ h => known_calls T _ (HZ.out _ h.2).2.2.2.2.2.2.2.1
          have sm1 : ∀ (u : World), ((u.cell? ⟨w1.heap.size, 0, none⟩ = some (.int .i64 10) ∧ u.cell? ⟨w1.heap.size, 1, none⟩ = some (.string ⟨#[]⟩) ∧ u.cell? ⟨w1.heap.size, 2, none⟩ = some (.slice ao m cap) ∧ u.cell? ⟨w3.heap.size, 0, none⟩ = some (.int .i64 10) ∧ u.cell? ⟨w3.heap.size, 1, none⟩ = some (.string ⟨#[]⟩) ∧ u.cell? ⟨w3.heap.size, 2, none⟩ = some (.slice ab n cb) ∧ u.cell? ⟨w8.heap.size, 0, none⟩ = some (.int .i64 r.k) ∧ u.cell? ⟨w8.heap.size, 1, none⟩ = some (.string r.t) ∧ u.cell? ⟨w8.heap.size, 2, none⟩ = some (.slice sa nr sc) ∧ u.cell? ⟨w10.heap.size, 0, none⟩ = some (.int .i64 y.k) ∧ u.cell? ⟨w10.heap.size, 1, none⟩ = some (.string y.t) ∧ u.cell? ⟨w10.heap.size, 2, none⟩ = some (.slice ya ny yc) ∧ u.cell? ⟨w12.heap.size, 0, none⟩ = some (.int .i64 a.k) ∧ u.cell? ⟨w12.heap.size, 1, none⟩ = some (.string a.t) ∧ u.cell? ⟨w12.heap.size, 2, none⟩ = some (.slice aa na ac) ∧ u.cell? ⟨w14.heap.size, 0, none⟩ = some (.int .i64 a.k) ∧ u.cell? ⟨w14.heap.size, 1, none⟩ = some (.string a.t) ∧ u.cell? ⟨w14.heap.size, 2, none⟩ = some (.slice sb nb cbb) ∧ u.cell? ⟨w16.heap.size, 0, none⟩ = some (.int .i64 old.k) ∧ u.cell? ⟨w16.heap.size, 1, none⟩ = some (.string old.t) ∧ u.cell? ⟨w16.heap.size, 2, none⟩ = some (.slice oa no oc)) ∧ Below W17.heap.size W17 u) → Calls Tryd.prog 19 #[.agg #[.int .i64 y.k, .string y.t, .slice ya ny yc], .agg #[.int .i64 10, .string ⟨#[]⟩, .slice ab n cb]] u fun e w' => e = .returned (.bool true) ∧ Below u.heap.size u w' := fun u h => by
            have := same_ok y y u _ _ (HZ.out u h.2).2.2.2.1 (HZ.out u h.2).2.1
            rw [Nd.same_self] at this
            exact this
          have sm2 : ∀ (u : World), ((u.cell? ⟨w1.heap.size, 0, none⟩ = some (.int .i64 10) ∧ u.cell? ⟨w1.heap.size, 1, none⟩ = some (.string ⟨#[]⟩) ∧ u.cell? ⟨w1.heap.size, 2, none⟩ = some (.slice ao m cap) ∧ u.cell? ⟨w3.heap.size, 0, none⟩ = some (.int .i64 10) ∧ u.cell? ⟨w3.heap.size, 1, none⟩ = some (.string ⟨#[]⟩) ∧ u.cell? ⟨w3.heap.size, 2, none⟩ = some (.slice ab n cb) ∧ u.cell? ⟨w8.heap.size, 0, none⟩ = some (.int .i64 r.k) ∧ u.cell? ⟨w8.heap.size, 1, none⟩ = some (.string r.t) ∧ u.cell? ⟨w8.heap.size, 2, none⟩ = some (.slice sa nr sc) ∧ u.cell? ⟨w10.heap.size, 0, none⟩ = some (.int .i64 y.k) ∧ u.cell? ⟨w10.heap.size, 1, none⟩ = some (.string y.t) ∧ u.cell? ⟨w10.heap.size, 2, none⟩ = some (.slice ya ny yc) ∧ u.cell? ⟨w12.heap.size, 0, none⟩ = some (.int .i64 a.k) ∧ u.cell? ⟨w12.heap.size, 1, none⟩ = some (.string a.t) ∧ u.cell? ⟨w12.heap.size, 2, none⟩ = some (.slice aa na ac) ∧ u.cell? ⟨w14.heap.size, 0, none⟩ = some (.int .i64 a.k) ∧ u.cell? ⟨w14.heap.size, 1, none⟩ = some (.string a.t) ∧ u.cell? ⟨w14.heap.size, 2, none⟩ = some (.slice sb nb cbb) ∧ u.cell? ⟨w16.heap.size, 0, none⟩ = some (.int .i64 old.k) ∧ u.cell? ⟨w16.heap.size, 1, none⟩ = some (.string old.t) ∧ u.cell? ⟨w16.heap.size, 2, none⟩ = some (.slice oa no oc)) ∧ Below W17.heap.size W17 u) → Calls Tryd.prog 19 #[.agg #[.int .i64 a.k, .string a.t, .slice aa na ac], .agg #[.int .i64 a.k, .string a.t, .slice sb nb cbb]] u fun e w' => e = .returned (.bool true) ∧ Below u.heap.size u w' := fun u h => by
            have := same_ok a a u _ _ (HZ.out u h.2).2.2.2.2.1 ((HZ.out u h.2).2.2.2.2.2.1 rfl)
            rw [Nd.same_self] at this
            exact this
          have c1 : ∀ (u : World), ((u.cell? ⟨w1.heap.size, 0, none⟩ = some (.int .i64 10) ∧ u.cell? ⟨w1.heap.size, 1, none⟩ = some (.string ⟨#[]⟩) ∧ u.cell? ⟨w1.heap.size, 2, none⟩ = some (.slice ao m cap) ∧ u.cell? ⟨w3.heap.size, 0, none⟩ = some (.int .i64 10) ∧ u.cell? ⟨w3.heap.size, 1, none⟩ = some (.string ⟨#[]⟩) ∧ u.cell? ⟨w3.heap.size, 2, none⟩ = some (.slice ab n cb) ∧ u.cell? ⟨w8.heap.size, 0, none⟩ = some (.int .i64 r.k) ∧ u.cell? ⟨w8.heap.size, 1, none⟩ = some (.string r.t) ∧ u.cell? ⟨w8.heap.size, 2, none⟩ = some (.slice sa nr sc) ∧ u.cell? ⟨w10.heap.size, 0, none⟩ = some (.int .i64 y.k) ∧ u.cell? ⟨w10.heap.size, 1, none⟩ = some (.string y.t) ∧ u.cell? ⟨w10.heap.size, 2, none⟩ = some (.slice ya ny yc) ∧ u.cell? ⟨w12.heap.size, 0, none⟩ = some (.int .i64 a.k) ∧ u.cell? ⟨w12.heap.size, 1, none⟩ = some (.string a.t) ∧ u.cell? ⟨w12.heap.size, 2, none⟩ = some (.slice aa na ac) ∧ u.cell? ⟨w14.heap.size, 0, none⟩ = some (.int .i64 a.k) ∧ u.cell? ⟨w14.heap.size, 1, none⟩ = some (.string a.t) ∧ u.cell? ⟨w14.heap.size, 2, none⟩ = some (.slice sb nb cbb) ∧ u.cell? ⟨w16.heap.size, 0, none⟩ = some (.int .i64 old.k) ∧ u.cell? ⟨w16.heap.size, 1, none⟩ = some (.string old.t) ∧ u.cell? ⟨w16.heap.size, 2, none⟩ = some (.slice oa no oc)) ∧ Below W17.heap.size W17 u) → Calls Tryd.prog 20 #[.agg #[.int .i64 r.k, .string r.t, .slice sa nr sc]] u fun e w' => e = .returned (.int .i64 ((c : Int) - (co : Int) + (cy : Int))) ∧ Below u.heap.size u w' := fun _ h => by
            rw [← HCR.out]; exact count_calls r (by have := HRW.out; have := Nd.count_le r; omega) _ _ (HZ.out _ h.2).2.2.1
          have c2 : ∀ (u : World), ((u.cell? ⟨w1.heap.size, 0, none⟩ = some (.int .i64 10) ∧ u.cell? ⟨w1.heap.size, 1, none⟩ = some (.string ⟨#[]⟩) ∧ u.cell? ⟨w1.heap.size, 2, none⟩ = some (.slice ao m cap) ∧ u.cell? ⟨w3.heap.size, 0, none⟩ = some (.int .i64 10) ∧ u.cell? ⟨w3.heap.size, 1, none⟩ = some (.string ⟨#[]⟩) ∧ u.cell? ⟨w3.heap.size, 2, none⟩ = some (.slice ab n cb) ∧ u.cell? ⟨w8.heap.size, 0, none⟩ = some (.int .i64 r.k) ∧ u.cell? ⟨w8.heap.size, 1, none⟩ = some (.string r.t) ∧ u.cell? ⟨w8.heap.size, 2, none⟩ = some (.slice sa nr sc) ∧ u.cell? ⟨w10.heap.size, 0, none⟩ = some (.int .i64 y.k) ∧ u.cell? ⟨w10.heap.size, 1, none⟩ = some (.string y.t) ∧ u.cell? ⟨w10.heap.size, 2, none⟩ = some (.slice ya ny yc) ∧ u.cell? ⟨w12.heap.size, 0, none⟩ = some (.int .i64 a.k) ∧ u.cell? ⟨w12.heap.size, 1, none⟩ = some (.string a.t) ∧ u.cell? ⟨w12.heap.size, 2, none⟩ = some (.slice aa na ac) ∧ u.cell? ⟨w14.heap.size, 0, none⟩ = some (.int .i64 a.k) ∧ u.cell? ⟨w14.heap.size, 1, none⟩ = some (.string a.t) ∧ u.cell? ⟨w14.heap.size, 2, none⟩ = some (.slice sb nb cbb) ∧ u.cell? ⟨w16.heap.size, 0, none⟩ = some (.int .i64 old.k) ∧ u.cell? ⟨w16.heap.size, 1, none⟩ = some (.string old.t) ∧ u.cell? ⟨w16.heap.size, 2, none⟩ = some (.slice oa no oc)) ∧ Below W17.heap.size W17 u) → Calls Tryd.prog 20 #[.agg #[.int .i64 10, .string ⟨#[]⟩, .slice ao m cap]] u fun e w' => e = .returned (.int .i64 (c : Int)) ∧ Below u.heap.size u w' := fun _ h => by
            rw [← HC.out]; exact count_calls x (by rw [HC.out]; omega) _ _ (HZ.out _ h.2).1
          have c3 : ∀ (u : World), ((u.cell? ⟨w1.heap.size, 0, none⟩ = some (.int .i64 10) ∧ u.cell? ⟨w1.heap.size, 1, none⟩ = some (.string ⟨#[]⟩) ∧ u.cell? ⟨w1.heap.size, 2, none⟩ = some (.slice ao m cap) ∧ u.cell? ⟨w3.heap.size, 0, none⟩ = some (.int .i64 10) ∧ u.cell? ⟨w3.heap.size, 1, none⟩ = some (.string ⟨#[]⟩) ∧ u.cell? ⟨w3.heap.size, 2, none⟩ = some (.slice ab n cb) ∧ u.cell? ⟨w8.heap.size, 0, none⟩ = some (.int .i64 r.k) ∧ u.cell? ⟨w8.heap.size, 1, none⟩ = some (.string r.t) ∧ u.cell? ⟨w8.heap.size, 2, none⟩ = some (.slice sa nr sc) ∧ u.cell? ⟨w10.heap.size, 0, none⟩ = some (.int .i64 y.k) ∧ u.cell? ⟨w10.heap.size, 1, none⟩ = some (.string y.t) ∧ u.cell? ⟨w10.heap.size, 2, none⟩ = some (.slice ya ny yc) ∧ u.cell? ⟨w12.heap.size, 0, none⟩ = some (.int .i64 a.k) ∧ u.cell? ⟨w12.heap.size, 1, none⟩ = some (.string a.t) ∧ u.cell? ⟨w12.heap.size, 2, none⟩ = some (.slice aa na ac) ∧ u.cell? ⟨w14.heap.size, 0, none⟩ = some (.int .i64 a.k) ∧ u.cell? ⟨w14.heap.size, 1, none⟩ = some (.string a.t) ∧ u.cell? ⟨w14.heap.size, 2, none⟩ = some (.slice sb nb cbb) ∧ u.cell? ⟨w16.heap.size, 0, none⟩ = some (.int .i64 old.k) ∧ u.cell? ⟨w16.heap.size, 1, none⟩ = some (.string old.t) ∧ u.cell? ⟨w16.heap.size, 2, none⟩ = some (.slice oa no oc)) ∧ Below W17.heap.size W17 u) → Calls Tryd.prog 20 #[.agg #[.int .i64 old.k, .string old.t, .slice oa no oc]] u fun e w' => e = .returned (.int .i64 (co : Int)) ∧ Below u.heap.size u w' := fun _ h => by
            rw [← HCO.out]; exact count_calls old (by rw [HCO.out]; omega) _ _ (HZ.out _ h.2).2.2.2.2.2.2.1
          have c4 : ∀ (u : World), ((u.cell? ⟨w1.heap.size, 0, none⟩ = some (.int .i64 10) ∧ u.cell? ⟨w1.heap.size, 1, none⟩ = some (.string ⟨#[]⟩) ∧ u.cell? ⟨w1.heap.size, 2, none⟩ = some (.slice ao m cap) ∧ u.cell? ⟨w3.heap.size, 0, none⟩ = some (.int .i64 10) ∧ u.cell? ⟨w3.heap.size, 1, none⟩ = some (.string ⟨#[]⟩) ∧ u.cell? ⟨w3.heap.size, 2, none⟩ = some (.slice ab n cb) ∧ u.cell? ⟨w8.heap.size, 0, none⟩ = some (.int .i64 r.k) ∧ u.cell? ⟨w8.heap.size, 1, none⟩ = some (.string r.t) ∧ u.cell? ⟨w8.heap.size, 2, none⟩ = some (.slice sa nr sc) ∧ u.cell? ⟨w10.heap.size, 0, none⟩ = some (.int .i64 y.k) ∧ u.cell? ⟨w10.heap.size, 1, none⟩ = some (.string y.t) ∧ u.cell? ⟨w10.heap.size, 2, none⟩ = some (.slice ya ny yc) ∧ u.cell? ⟨w12.heap.size, 0, none⟩ = some (.int .i64 a.k) ∧ u.cell? ⟨w12.heap.size, 1, none⟩ = some (.string a.t) ∧ u.cell? ⟨w12.heap.size, 2, none⟩ = some (.slice aa na ac) ∧ u.cell? ⟨w14.heap.size, 0, none⟩ = some (.int .i64 a.k) ∧ u.cell? ⟨w14.heap.size, 1, none⟩ = some (.string a.t) ∧ u.cell? ⟨w14.heap.size, 2, none⟩ = some (.slice sb nb cbb) ∧ u.cell? ⟨w16.heap.size, 0, none⟩ = some (.int .i64 old.k) ∧ u.cell? ⟨w16.heap.size, 1, none⟩ = some (.string old.t) ∧ u.cell? ⟨w16.heap.size, 2, none⟩ = some (.slice oa no oc)) ∧ Below W17.heap.size W17 u) → Calls Tryd.prog 20 #[.agg #[.int .i64 10, .string ⟨#[]⟩, .slice ab n cb]] u fun e w' => e = .returned (.int .i64 (cy : Int)) ∧ Below u.heap.size u w' := fun _ h => by
            rw [← HCY.out]; exact count_calls y (by rw [HCY.out]; omega) _ _ (HZ.out _ h.2).2.1
          have tr : ∀ (u' : World), ((u'.cell? ⟨w1.heap.size, 0, none⟩ = some (.int .i64 10) ∧ u'.cell? ⟨w1.heap.size, 1, none⟩ = some (.string ⟨#[]⟩) ∧ u'.cell? ⟨w1.heap.size, 2, none⟩ = some (.slice ao m cap) ∧ u'.cell? ⟨w3.heap.size, 0, none⟩ = some (.int .i64 10) ∧ u'.cell? ⟨w3.heap.size, 1, none⟩ = some (.string ⟨#[]⟩) ∧ u'.cell? ⟨w3.heap.size, 2, none⟩ = some (.slice ab n cb) ∧ u'.cell? ⟨w8.heap.size, 0, none⟩ = some (.int .i64 r.k) ∧ u'.cell? ⟨w8.heap.size, 1, none⟩ = some (.string r.t) ∧ u'.cell? ⟨w8.heap.size, 2, none⟩ = some (.slice sa nr sc) ∧ u'.cell? ⟨w10.heap.size, 0, none⟩ = some (.int .i64 y.k) ∧ u'.cell? ⟨w10.heap.size, 1, none⟩ = some (.string y.t) ∧ u'.cell? ⟨w10.heap.size, 2, none⟩ = some (.slice ya ny yc) ∧ u'.cell? ⟨w12.heap.size, 0, none⟩ = some (.int .i64 a.k) ∧ u'.cell? ⟨w12.heap.size, 1, none⟩ = some (.string a.t) ∧ u'.cell? ⟨w12.heap.size, 2, none⟩ = some (.slice aa na ac) ∧ u'.cell? ⟨w14.heap.size, 0, none⟩ = some (.int .i64 a.k) ∧ u'.cell? ⟨w14.heap.size, 1, none⟩ = some (.string a.t) ∧ u'.cell? ⟨w14.heap.size, 2, none⟩ = some (.slice sb nb cbb) ∧ u'.cell? ⟨w16.heap.size, 0, none⟩ = some (.int .i64 old.k) ∧ u'.cell? ⟨w16.heap.size, 1, none⟩ = some (.string old.t) ∧ u'.cell? ⟨w16.heap.size, 2, none⟩ = some (.slice oa no oc)) ∧ Below W17.heap.size W17 u') → Calls Tryd.prog 11 #[u] u' fun e w' => ∃ v, e = .returned v ∧ NdAt (Lt w'.heap.size) w' x v ∧ Below u'.heap.size u' w' := fun u' h => by
            refine (HTREE.out u' (HZ.out u' h.2).2.2.2.2.2.2.2.2.1).mono ?_
            rintro e w' ⟨s, rfl, hbd, hb⟩
            exact ⟨_, rfl, by rw [← HXF.out]; exact NdAt.mk hbd.kids.toLt, hb⟩
          have sm3 : ∀ (u : World) (v : Value), ((u.cell? ⟨w1.heap.size, 0, none⟩ = some (.int .i64 10) ∧ u.cell? ⟨w1.heap.size, 1, none⟩ = some (.string ⟨#[]⟩) ∧ u.cell? ⟨w1.heap.size, 2, none⟩ = some (.slice ao m cap) ∧ u.cell? ⟨w3.heap.size, 0, none⟩ = some (.int .i64 10) ∧ u.cell? ⟨w3.heap.size, 1, none⟩ = some (.string ⟨#[]⟩) ∧ u.cell? ⟨w3.heap.size, 2, none⟩ = some (.slice ab n cb) ∧ u.cell? ⟨w8.heap.size, 0, none⟩ = some (.int .i64 r.k) ∧ u.cell? ⟨w8.heap.size, 1, none⟩ = some (.string r.t) ∧ u.cell? ⟨w8.heap.size, 2, none⟩ = some (.slice sa nr sc) ∧ u.cell? ⟨w10.heap.size, 0, none⟩ = some (.int .i64 y.k) ∧ u.cell? ⟨w10.heap.size, 1, none⟩ = some (.string y.t) ∧ u.cell? ⟨w10.heap.size, 2, none⟩ = some (.slice ya ny yc) ∧ u.cell? ⟨w12.heap.size, 0, none⟩ = some (.int .i64 a.k) ∧ u.cell? ⟨w12.heap.size, 1, none⟩ = some (.string a.t) ∧ u.cell? ⟨w12.heap.size, 2, none⟩ = some (.slice aa na ac) ∧ u.cell? ⟨w14.heap.size, 0, none⟩ = some (.int .i64 a.k) ∧ u.cell? ⟨w14.heap.size, 1, none⟩ = some (.string a.t) ∧ u.cell? ⟨w14.heap.size, 2, none⟩ = some (.slice sb nb cbb) ∧ u.cell? ⟨w16.heap.size, 0, none⟩ = some (.int .i64 old.k) ∧ u.cell? ⟨w16.heap.size, 1, none⟩ = some (.string old.t) ∧ u.cell? ⟨w16.heap.size, 2, none⟩ = some (.slice oa no oc)) ∧ Below W17.heap.size W17 u) → NdAt (Lt u.heap.size) u x v → Calls Tryd.prog 19 #[.agg #[.int .i64 10, .string ⟨#[]⟩, .slice ao m cap], v] u fun e w' => e = .returned (.bool true) ∧ Below u.heap.size u w' := fun u v h hv => by
            have := same_ok x x u _ v (HZ.out u h.2).1 hv
            rw [Nd.same_self] at this
            exact this
          have H_more := Lib.hid more
          have H_kn := Lib.hid kn
          have H_sm1 := Lib.hid sm1
          have H_sm2 := Lib.hid sm2
          have H_c1 := Lib.hid c1
          have H_c2 := Lib.hid c2
          have H_c3 := Lib.hid c3
          have H_c4 := Lib.hid c4
          have H_tr := Lib.hid tr
          have H_sm3 := Lib.hid sm3
          have H_S := Lib.hid hS
          obtain ⟨⟨e0, e1, e2, e3, e4, e5, e6, e7, e8, e9, e10, e11, e12, e13, e14, e15, e16, e17, e18, e19, e20⟩, _⟩ := id hS
          clear hS more kn sm1 sm2 c1 c2 c3 c4 tr sm3
          refine wp_region_held_drew (S := fun u => (u.cell? ⟨w1.heap.size, 0, none⟩ = some (.int .i64 10) ∧ u.cell? ⟨w1.heap.size, 1, none⟩ = some (.string ⟨#[]⟩) ∧ u.cell? ⟨w1.heap.size, 2, none⟩ = some (.slice ao m cap) ∧ u.cell? ⟨w3.heap.size, 0, none⟩ = some (.int .i64 10) ∧ u.cell? ⟨w3.heap.size, 1, none⟩ = some (.string ⟨#[]⟩) ∧ u.cell? ⟨w3.heap.size, 2, none⟩ = some (.slice ab n cb) ∧ u.cell? ⟨w8.heap.size, 0, none⟩ = some (.int .i64 r.k) ∧ u.cell? ⟨w8.heap.size, 1, none⟩ = some (.string r.t) ∧ u.cell? ⟨w8.heap.size, 2, none⟩ = some (.slice sa nr sc) ∧ u.cell? ⟨w10.heap.size, 0, none⟩ = some (.int .i64 y.k) ∧ u.cell? ⟨w10.heap.size, 1, none⟩ = some (.string y.t) ∧ u.cell? ⟨w10.heap.size, 2, none⟩ = some (.slice ya ny yc) ∧ u.cell? ⟨w12.heap.size, 0, none⟩ = some (.int .i64 a.k) ∧ u.cell? ⟨w12.heap.size, 1, none⟩ = some (.string a.t) ∧ u.cell? ⟨w12.heap.size, 2, none⟩ = some (.slice aa na ac) ∧ u.cell? ⟨w14.heap.size, 0, none⟩ = some (.int .i64 a.k) ∧ u.cell? ⟨w14.heap.size, 1, none⟩ = some (.string a.t) ∧ u.cell? ⟨w14.heap.size, 2, none⟩ = some (.slice sb nb cbb) ∧ u.cell? ⟨w16.heap.size, 0, none⟩ = some (.int .i64 old.k) ∧ u.cell? ⟨w16.heap.size, 1, none⟩ = some (.string old.t) ∧ u.cell? ⟨w16.heap.size, 2, none⟩ = some (.slice oa no oc)) ∧ Below W17.heap.size W17 u) (by kernel_rfl) ?_ (fun hHeld0 => ?_)
          · try dsimp only
            first | assumption | exact H_more.out _ _ H_S.out ((Below.refl _ _).drew) | exact H_more.out _ _ (by assumption) (by assumption)
          refine wpAnyH_ready (rs := [0]) (by kernel_rfl) (by simp) ?_
          refine AllReadyH.cons (o := { dst := some 106, op := Op.call _, type := _, pos := _, after := _, guard := none }) rfl (fun K hK => ?_) AllReadyH.nil
          go_simp
          go_at_call 10; with_reducible refine (H_kn.out _ (by assumption)).mono ?_; rintro _ u1 ⟨rfl, hbn⟩; have hcs := H_more.out _ _ (by assumption) hbn
          try go_wp2_with fail
          refine hK.out _ _ ?_ (fun hHeld1 => ?_)
          · try dsimp only
            first | assumption | exact H_more.out _ _ H_S.out ((Below.refl _ _).drew) | exact H_more.out _ _ (by assumption) (by assumption)
          clear hK K hHeld0
          try simp only [Act.put, List.setIfInBounds_toArray, List.set_cons_zero, List.set_cons_succ]
          refine wpAnyH_take (i := 1) (oi := { dst := some 107, op := Op.move (Operand.tmp 106), type := _, pos := _, after := _, guard := none }) (v := ?_) rfl (by kernel_rfl) (by kernel_rfl) (by kernel_rfl) (fun _ _ _ h => h) (Or.inl ⟨by rfl, ?_⟩) (by assumption) ?_
          rotate_left 1
          · ((intro w hSw; (try dsimp only at hSw); go_simp) <;> (try with_reducible rfl))
          try simp only [Act.put, List.setIfInBounds_toArray, List.set_cons_zero, List.set_cons_succ]
          refine wpAnyH_take (i := 2) (oi := { dst := some 108, op := Op.move (Operand.tmp 15), type := _, pos := _, after := _, guard := some (1, true) }) (v := ?_) rfl (by kernel_rfl) (by kernel_rfl) (by kernel_rfl) (fun _ _ _ h => h) (Or.inl ⟨by rfl, ?_⟩) (by assumption) ?_
          rotate_left 1
          · ((intro w hSw; (try dsimp only at hSw); go_simp) <;> (try with_reducible rfl))
          try simp only [Act.put, List.setIfInBounds_toArray, List.set_cons_zero, List.set_cons_succ]
          refine wpAnyH_take (i := 3) (oi := { dst := some 109, op := Op.pick (Operand.tmp 107) (Operand.tmp 108) (Operand.const (Value.bool false)), type := _, pos := _, after := _, guard := none }) (v := ?_) rfl (by kernel_rfl) (by kernel_rfl) (by kernel_rfl) (fun _ _ _ h => h) (Or.inl ⟨by rfl, ?_⟩) (by assumption) ?_
          rotate_left 1
          · ((intro w hSw; (try dsimp only at hSw); go_simp) <;> (try with_reducible rfl))
          try simp only [Act.put, List.setIfInBounds_toArray, List.set_cons_zero, List.set_cons_succ]
          refine wpAnyH_take (i := 4) (oi := { dst := some 110, op := Op.move (Operand.tmp 109), type := _, pos := _, after := _, guard := none }) (v := ?_) rfl (by kernel_rfl) (by kernel_rfl) (by kernel_rfl) (fun _ _ _ h => h) (Or.inl ⟨by rfl, ?_⟩) (by assumption) ?_
          rotate_left 1
          · ((intro w hSw; (try dsimp only at hSw); go_simp) <;> (try with_reducible rfl))
          try simp only [Act.put, List.setIfInBounds_toArray, List.set_cons_zero, List.set_cons_succ]
          refine wpAnyH_take (i := 5) (oi := { dst := some 111, op := Op.move (Operand.tmp 17), type := _, pos := _, after := _, guard := some (4, true) }) (v := ?_) rfl (by kernel_rfl) (by kernel_rfl) (by kernel_rfl) (fun _ _ _ h => h) (Or.inl ⟨by rfl, ?_⟩) (by assumption) ?_
          rotate_left 1
          · ((intro w hSw; (try dsimp only at hSw); go_simp) <;> (try with_reducible rfl))
          try simp only [Act.put, List.setIfInBounds_toArray, List.set_cons_zero, List.set_cons_succ]
          refine wpAnyH_take (i := 6) (oi := { dst := some 112, op := Op.pick (Operand.tmp 110) (Operand.tmp 111) (Operand.const (Value.bool false)), type := _, pos := _, after := _, guard := none }) (v := ?_) rfl (by kernel_rfl) (by kernel_rfl) (by kernel_rfl) (fun _ _ _ h => h) (Or.inl ⟨by rfl, ?_⟩) (by assumption) ?_
          rotate_left 1
          · ((intro w hSw; (try dsimp only at hSw); go_simp) <;> (try with_reducible rfl))
          try simp only [Act.put, List.setIfInBounds_toArray, List.set_cons_zero, List.set_cons_succ]
          refine wpAnyH_take (i := 7) (oi := { dst := some 113, op := Op.move (Operand.tmp 112), type := _, pos := _, after := _, guard := none }) (v := ?_) rfl (by kernel_rfl) (by kernel_rfl) (by kernel_rfl) (fun _ _ _ h => h) (Or.inl ⟨by rfl, ?_⟩) (by assumption) ?_
          rotate_left 1
          · ((intro w hSw; (try dsimp only at hSw); go_simp) <;> (try with_reducible rfl))
          try simp only [Act.put, List.setIfInBounds_toArray, List.set_cons_zero, List.set_cons_succ]
          refine wpAnyH_take (i := 8) (oi := { dst := some 114, op := Op.load _ (Operand.tmp 16), type := _, pos := _, after := _, guard := some (7, true) }) (v := ?_) rfl (by kernel_rfl) (by kernel_rfl) (by kernel_rfl) (fun _ _ _ h => h) (Or.inl ⟨by rfl, ?_⟩) (by assumption) ?_
          rotate_left 1
          · ((intro w hSw; (try dsimp only at hSw); go_simp) <;> (try with_reducible rfl))
          try simp only [Act.put, List.setIfInBounds_toArray, List.set_cons_zero, List.set_cons_succ]
          refine wpAnyH_take (i := 9) (oi := { dst := some 115, op := Op.load _ (Operand.tmp 10), type := _, pos := _, after := _, guard := some (7, true) }) (v := ?_) rfl (by kernel_rfl) (by kernel_rfl) (by kernel_rfl) (fun _ _ _ h => h) (Or.inl ⟨by rfl, ?_⟩) (by assumption) ?_
          rotate_left 1
          · ((intro w hSw; (try dsimp only at hSw); go_simp) <;> (try with_reducible rfl))
          try simp only [Act.put, List.setIfInBounds_toArray, List.set_cons_zero, List.set_cons_succ]
          refine wpAnyH_ready (rs := [10]) (by kernel_rfl) (by simp) ?_
          refine AllReadyH.cons (o := { dst := some 116, op := Op.call _, type := _, pos := _, after := _, guard := some (7, true) }) rfl (fun K hK => ?_) AllReadyH.nil
          go_simp
          go_at_call 19; with_reducible refine (H_sm1.out _ (by assumption)).mono ?_; rintro _ u1 ⟨rfl, hbn⟩; have hcs := H_more.out _ _ (by assumption) hbn
          try go_wp2_with fail
          refine hK.out _ _ ?_ (fun hHeld2 => ?_)
          · try dsimp only
            first | assumption | exact H_more.out _ _ H_S.out ((Below.refl _ _).drew) | exact H_more.out _ _ (by assumption) (by assumption)
          clear hK K hHeld1
          try simp only [Act.put, List.setIfInBounds_toArray, List.set_cons_zero, List.set_cons_succ]
          refine wpAnyH_take (i := 11) (oi := { dst := some 117, op := Op.pick (Operand.tmp 113) (Operand.tmp 116) (Operand.const (Value.bool false)), type := _, pos := _, after := _, guard := none }) (v := ?_) rfl (by kernel_rfl) (by kernel_rfl) (by kernel_rfl) (fun _ _ _ h => h) (Or.inl ⟨by rfl, ?_⟩) (by assumption) ?_
          rotate_left 1
          · ((intro w hSw; (try dsimp only at hSw); go_simp) <;> (try with_reducible rfl))
          try simp only [Act.put, List.setIfInBounds_toArray, List.set_cons_zero, List.set_cons_succ]
          refine wpAnyH_take (i := 12) (oi := { dst := some 118, op := Op.move (Operand.tmp 117), type := _, pos := _, after := _, guard := none }) (v := ?_) rfl (by kernel_rfl) (by kernel_rfl) (by kernel_rfl) (fun _ _ _ h => h) (Or.inl ⟨by rfl, ?_⟩) (by assumption) ?_
          rotate_left 1
          · ((intro w hSw; (try dsimp only at hSw); go_simp) <;> (try with_reducible rfl))
          try simp only [Act.put, List.setIfInBounds_toArray, List.set_cons_zero, List.set_cons_succ]
          refine wpAnyH_take (i := 13) (oi := { dst := some 119, op := Op.move (Operand.tmp 21), type := _, pos := _, after := _, guard := some (12, true) }) (v := ?_) rfl (by kernel_rfl) (by kernel_rfl) (by kernel_rfl) (fun _ _ _ h => h) (Or.inl ⟨by rfl, ?_⟩) (by assumption) ?_
          rotate_left 1
          · ((intro w hSw; (try dsimp only at hSw); go_simp) <;> (try with_reducible rfl))
          try simp only [Act.put, List.setIfInBounds_toArray, List.set_cons_zero, List.set_cons_succ]
          refine wpAnyH_take (i := 14) (oi := { dst := some 120, op := Op.pick (Operand.tmp 118) (Operand.tmp 119) (Operand.const (Value.bool false)), type := _, pos := _, after := _, guard := none }) (v := ?_) rfl (by kernel_rfl) (by kernel_rfl) (by kernel_rfl) (fun _ _ _ h => h) (Or.inl ⟨by rfl, ?_⟩) (by assumption) ?_
          rotate_left 1
          · ((intro w hSw; (try dsimp only at hSw); go_simp) <;> (try with_reducible rfl))
          try simp only [Act.put, List.setIfInBounds_toArray, List.set_cons_zero, List.set_cons_succ]
          refine wpAnyH_take (i := 15) (oi := { dst := some 121, op := Op.move (Operand.tmp 120), type := _, pos := _, after := _, guard := none }) (v := ?_) rfl (by kernel_rfl) (by kernel_rfl) (by kernel_rfl) (fun _ _ _ h => h) (Or.inl ⟨by rfl, ?_⟩) (by assumption) ?_
          rotate_left 1
          · ((intro w hSw; (try dsimp only at hSw); go_simp) <;> (try with_reducible rfl))
          try simp only [Act.put, List.setIfInBounds_toArray, List.set_cons_zero, List.set_cons_succ]
          refine wpAnyH_take (i := 16) (oi := { dst := some 122, op := Op.move (Operand.tmp 18), type := _, pos := _, after := _, guard := some (15, true) }) (v := ?_) rfl (by kernel_rfl) (by kernel_rfl) (by kernel_rfl) (fun _ _ _ h => h) (Or.inl ⟨by rfl, ?_⟩) (by assumption) ?_
          rotate_left 1
          · ((intro w hSw; (try dsimp only at hSw); go_simp) <;> (try with_reducible rfl))
          try simp only [Act.put, List.setIfInBounds_toArray, List.set_cons_zero, List.set_cons_succ]
          refine wpAnyH_take (i := 17) (oi := { dst := some 123, op := Op.unOp UnOp.not _ (Operand.tmp 122), type := _, pos := _, after := _, guard := some (15, true) }) (v := ?_) rfl (by kernel_rfl) (by kernel_rfl) (by kernel_rfl) (fun _ _ _ h => h) (Or.inl ⟨by rfl, ?_⟩) (by assumption) ?_
          rotate_left 1
          · ((intro w hSw; (try dsimp only at hSw); go_simp) <;> (try with_reducible rfl))
          try simp only [Act.put, List.setIfInBounds_toArray, List.set_cons_zero, List.set_cons_succ]
          refine wpAnyH_take (i := 18) (oi := { dst := some 124, op := Op.move (Operand.tmp 123), type := _, pos := _, after := _, guard := some (15, true) }) (v := ?_) rfl (by kernel_rfl) (by kernel_rfl) (by kernel_rfl) (fun _ _ _ h => h) (Or.inl ⟨by rfl, ?_⟩) (by assumption) ?_
          rotate_left 1
          · ((intro w hSw; (try dsimp only at hSw); go_simp) <;> (try with_reducible rfl))
          try simp only [Act.put, List.setIfInBounds_toArray, List.set_cons_zero, List.set_cons_succ]
          refine wpAnyH_take (i := 19) (oi := { dst := some 125, op := Op.move (Operand.tmp 23), type := _, pos := _, after := _, guard := some (18, false) }) (v := ?_) rfl (by kernel_rfl) (by kernel_rfl) (by kernel_rfl) (fun _ _ _ h => h) (Or.inl ⟨by rfl, ?_⟩) (by assumption) ?_
          rotate_left 1
          · ((intro w hSw; (try dsimp only at hSw); go_simp) <;> (try with_reducible rfl))
          try simp only [Act.put, List.setIfInBounds_toArray, List.set_cons_zero, List.set_cons_succ]
          refine wpAnyH_take (i := 20) (oi := { dst := some 126, op := Op.move (Operand.tmp 125), type := _, pos := _, after := _, guard := some (18, false) }) (v := ?_) rfl (by kernel_rfl) (by kernel_rfl) (by kernel_rfl) (fun _ _ _ h => h) (Or.inl ⟨by rfl, ?_⟩) (by assumption) ?_
          rotate_left 1
          · ((intro w hSw; (try dsimp only at hSw); go_simp) <;> (try with_reducible rfl))
          try simp only [Act.put, List.setIfInBounds_toArray, List.set_cons_zero, List.set_cons_succ]
          refine wpAnyH_take (i := 21) (oi := { dst := some 127, op := Op.load _ (Operand.tmp 20), type := _, pos := _, after := _, guard := some (20, true) }) (v := ?_) rfl (by kernel_rfl) (by kernel_rfl) (by kernel_rfl) (fun _ _ _ h => h) (Or.inl ⟨by rfl, ?_⟩) (by assumption) ?_
          rotate_left 1
          · ((intro w hSw; (try dsimp only at hSw); go_simp) <;> (try with_reducible rfl))
          try simp only [Act.put, List.setIfInBounds_toArray, List.set_cons_zero, List.set_cons_succ]
          refine wpAnyH_take (i := 22) (oi := { dst := some 128, op := Op.load _ (Operand.tmp 22), type := _, pos := _, after := _, guard := some (20, true) }) (v := ?_) rfl (by kernel_rfl) (by kernel_rfl) (by kernel_rfl) (fun _ _ _ h => h) (Or.inl ⟨by rfl, ?_⟩) (by assumption) ?_
          rotate_left 1
          · ((intro w hSw; (try dsimp only at hSw); go_simp) <;> (try with_reducible rfl))
          try simp only [Act.put, List.setIfInBounds_toArray, List.set_cons_zero, List.set_cons_succ]
          refine wpAnyH_ready (rs := [23]) (by kernel_rfl) (by simp) ?_
          refine AllReadyH.cons (o := { dst := some 129, op := Op.call _, type := _, pos := _, after := _, guard := some (20, true) }) rfl (fun K hK => ?_) AllReadyH.nil
          go_simp
          go_at_call 19; with_reducible refine (H_sm2.out _ (by assumption)).mono ?_; rintro _ u1 ⟨rfl, hbn⟩; have hcs := H_more.out _ _ (by assumption) hbn
          try go_wp2_with fail
          refine hK.out _ _ ?_ (fun hHeld3 => ?_)
          · try dsimp only
            first | assumption | exact H_more.out _ _ H_S.out ((Below.refl _ _).drew) | exact H_more.out _ _ (by assumption) (by assumption)
          clear hK K hHeld2
          try simp only [Act.put, List.setIfInBounds_toArray, List.set_cons_zero, List.set_cons_succ]
          refine wpAnyH_take (i := 24) (oi := { dst := some 130, op := Op.pick (Operand.tmp 126) (Operand.tmp 129) (Operand.const (Value.bool false)), type := _, pos := _, after := _, guard := some (18, false) }) (v := ?_) rfl (by kernel_rfl) (by kernel_rfl) (by kernel_rfl) (fun _ _ _ h => h) (Or.inl ⟨by rfl, ?_⟩) (by assumption) ?_
          rotate_left 1
          · ((intro w hSw; (try dsimp only at hSw); go_simp) <;> (try with_reducible rfl))
          try simp only [Act.put, List.setIfInBounds_toArray, List.set_cons_zero, List.set_cons_succ]
          refine wpAnyH_take (i := 25) (oi := { dst := some 131, op := Op.pick (Operand.tmp 124) (Operand.const (Value.bool true)) (Operand.tmp 130), type := _, pos := _, after := _, guard := some (15, true) }) (v := ?_) rfl (by kernel_rfl) (by kernel_rfl) (by kernel_rfl) (fun _ _ _ h => h) (Or.inl ⟨by rfl, ?_⟩) (by assumption) ?_
          rotate_left 1
          · ((intro w hSw; (try dsimp only at hSw); go_simp) <;> (try with_reducible rfl))
          try simp only [Act.put, List.setIfInBounds_toArray, List.set_cons_zero, List.set_cons_succ]
          refine wpAnyH_take (i := 26) (oi := { dst := some 132, op := Op.pick (Operand.tmp 121) (Operand.tmp 131) (Operand.const (Value.bool false)), type := _, pos := _, after := _, guard := none }) (v := ?_) rfl (by kernel_rfl) (by kernel_rfl) (by kernel_rfl) (fun _ _ _ h => h) (Or.inl ⟨by rfl, ?_⟩) (by assumption) ?_
          rotate_left 1
          · ((intro w hSw; (try dsimp only at hSw); go_simp) <;> (try with_reducible rfl))
          try simp only [Act.put, List.setIfInBounds_toArray, List.set_cons_zero, List.set_cons_succ]
          refine wpAnyH_take (i := 27) (oi := { dst := some 133, op := Op.move (Operand.tmp 132), type := _, pos := _, after := _, guard := none }) (v := ?_) rfl (by kernel_rfl) (by kernel_rfl) (by kernel_rfl) (fun _ _ _ h => h) (Or.inl ⟨by rfl, ?_⟩) (by assumption) ?_
          rotate_left 1
          · ((intro w hSw; (try dsimp only at hSw); go_simp) <;> (try with_reducible rfl))
          try simp only [Act.put, List.setIfInBounds_toArray, List.set_cons_zero, List.set_cons_succ]
          refine wpAnyH_take (i := 28) (oi := { dst := some 134, op := Op.load _ (Operand.tmp 14), type := _, pos := _, after := _, guard := some (27, true) }) (v := ?_) rfl (by kernel_rfl) (by kernel_rfl) (by kernel_rfl) (fun _ _ _ h => h) (Or.inl ⟨by rfl, ?_⟩) (by assumption) ?_
          rotate_left 1
          · ((intro w hSw; (try dsimp only at hSw); go_simp) <;> (try with_reducible rfl))
          try simp only [Act.put, List.setIfInBounds_toArray, List.set_cons_zero, List.set_cons_succ]
          refine wpAnyH_take (i := 30) (oi := { dst := some 136, op := Op.load _ (Operand.tmp 9), type := _, pos := _, after := _, guard := some (27, true) }) (v := ?_) rfl (by kernel_rfl) (by kernel_rfl) (by kernel_rfl) (fun _ _ _ h => h) (Or.inl ⟨by rfl, ?_⟩) (by assumption) ?_
          rotate_left 1
          · ((intro w hSw; (try dsimp only at hSw); go_simp) <;> (try with_reducible rfl))
          try simp only [Act.put, List.setIfInBounds_toArray, List.set_cons_zero, List.set_cons_succ]
          refine wpAnyH_take (i := 32) (oi := { dst := some 138, op := Op.load _ (Operand.tmp 24), type := _, pos := _, after := _, guard := some (27, true) }) (v := ?_) rfl (by kernel_rfl) (by kernel_rfl) (by kernel_rfl) (fun _ _ _ h => h) (Or.inl ⟨by rfl, ?_⟩) (by assumption) ?_
          rotate_left 1
          · ((intro w hSw; (try dsimp only at hSw); go_simp) <;> (try with_reducible rfl))
          try simp only [Act.put, List.setIfInBounds_toArray, List.set_cons_zero, List.set_cons_succ]
          refine wpAnyH_take (i := 35) (oi := { dst := some 141, op := Op.load _ (Operand.tmp 10), type := _, pos := _, after := _, guard := some (27, true) }) (v := ?_) rfl (by kernel_rfl) (by kernel_rfl) (by kernel_rfl) (fun _ _ _ h => h) (Or.inl ⟨by rfl, ?_⟩) (by assumption) ?_
          rotate_left 1
          · ((intro w hSw; (try dsimp only at hSw); go_simp) <;> (try with_reducible rfl))
          try simp only [Act.put, List.setIfInBounds_toArray, List.set_cons_zero, List.set_cons_succ]
          refine wpAnyH_ready (rs := [29]) (by kernel_rfl) (by simp) ?_
          refine AllReadyH.cons (o := { dst := some 135, op := Op.call _, type := _, pos := _, after := _, guard := some (27, true) }) rfl (fun K hK => ?_) AllReadyH.nil
          go_simp
          go_at_call 20; with_reducible refine (H_c1.out _ (by assumption)).mono ?_; rintro _ u1 ⟨rfl, hbn⟩; have hcs := H_more.out _ _ (by assumption) hbn
          try go_wp2_with fail
          refine hK.out _ _ ?_ (fun hHeld4 => ?_)
          · try dsimp only
            first | assumption | exact H_more.out _ _ H_S.out ((Below.refl _ _).drew) | exact H_more.out _ _ (by assumption) (by assumption)
          clear hK K hHeld3
          try simp only [Act.put, List.setIfInBounds_toArray, List.set_cons_zero, List.set_cons_succ]
          refine wpAnyH_ready (rs := [31]) (by kernel_rfl) (by simp) ?_
          refine AllReadyH.cons (o := { dst := some 137, op := Op.call _, type := _, pos := _, after := _, guard := some (27, true) }) rfl (fun K hK => ?_) AllReadyH.nil
          go_simp
          go_at_call 20; with_reducible refine (H_c2.out _ (by assumption)).mono ?_; rintro _ u1 ⟨rfl, hbn⟩; have hcs := H_more.out _ _ (by assumption) hbn
          try go_wp2_with fail
          refine hK.out _ _ ?_ (fun hHeld5 => ?_)
          · try dsimp only
            first | assumption | exact H_more.out _ _ H_S.out ((Below.refl _ _).drew) | exact H_more.out _ _ (by assumption) (by assumption)
          clear hK K hHeld4
          try simp only [Act.put, List.setIfInBounds_toArray, List.set_cons_zero, List.set_cons_succ]
          refine wpAnyH_ready (rs := [33]) (by kernel_rfl) (by simp) ?_
          refine AllReadyH.cons (o := { dst := some 139, op := Op.call _, type := _, pos := _, after := _, guard := some (27, true) }) rfl (fun K hK => ?_) AllReadyH.nil
          go_simp
          go_at_call 20; with_reducible refine (H_c3.out _ (by assumption)).mono ?_; rintro _ u1 ⟨rfl, hbn⟩; have hcs := H_more.out _ _ (by assumption) hbn
          try go_wp2_with fail
          refine hK.out _ _ ?_ (fun hHeld6 => ?_)
          · try dsimp only
            first | assumption | exact H_more.out _ _ H_S.out ((Below.refl _ _).drew) | exact H_more.out _ _ (by assumption) (by assumption)
          clear hK K hHeld5
          try simp only [Act.put, List.setIfInBounds_toArray, List.set_cons_zero, List.set_cons_succ]
          refine wpAnyH_take (i := 34) (oi := { dst := some 140, op := Op.binOp BinOp.sub _ (Operand.tmp 137) (Operand.tmp 139) _, type := _, pos := _, after := _, guard := some (27, true) }) (v := ?_) rfl (by kernel_rfl) (by kernel_rfl) (by kernel_rfl) (fun _ _ _ h => h) (Or.inl ⟨by rfl, ?_⟩) (by assumption) ?_
          rotate_left 1
          · ((intro w hSw; (try dsimp only at hSw); go_simp) <;> (try with_reducible rfl))
          try simp only [Act.put, List.setIfInBounds_toArray, List.set_cons_zero, List.set_cons_succ]
          refine wpAnyH_ready (rs := [36]) (by kernel_rfl) (by simp) ?_
          refine AllReadyH.cons (o := { dst := some 142, op := Op.call _, type := _, pos := _, after := _, guard := some (27, true) }) rfl (fun K hK => ?_) AllReadyH.nil
          go_simp
          go_at_call 20; with_reducible refine (H_c4.out _ (by assumption)).mono ?_; rintro _ u1 ⟨rfl, hbn⟩; have hcs := H_more.out _ _ (by assumption) hbn
          try go_wp2_with fail
          refine hK.out _ _ ?_ (fun hHeld7 => ?_)
          · try dsimp only
            first | assumption | exact H_more.out _ _ H_S.out ((Below.refl _ _).drew) | exact H_more.out _ _ (by assumption) (by assumption)
          clear hK K hHeld6
          try simp only [Act.put, List.setIfInBounds_toArray, List.set_cons_zero, List.set_cons_succ]
          refine wpAnyH_take (i := 37) (oi := { dst := some 143, op := Op.binOp BinOp.add _ (Operand.tmp 140) (Operand.tmp 142) _, type := _, pos := _, after := _, guard := some (27, true) }) (v := ?_) rfl (by kernel_rfl) (by kernel_rfl) (by kernel_rfl) (fun _ _ _ h => h) (Or.inl ⟨by rfl, ?_⟩) (by assumption) ?_
          rotate_left 1
          · ((intro w hSw; (try dsimp only at hSw); go_simp) <;> (try with_reducible rfl))
          try simp only [Act.put, List.setIfInBounds_toArray, List.set_cons_zero, List.set_cons_succ]
          refine wpAnyH_take (i := 38) (oi := { dst := some 144, op := Op.binOp BinOp.eql _ (Operand.tmp 135) (Operand.tmp 143) _, type := _, pos := _, after := _, guard := some (27, true) }) (v := ?_) rfl (by kernel_rfl) (by kernel_rfl) (by kernel_rfl) (fun _ _ _ h => h) (Or.inl ⟨by rfl, ?_⟩) (by assumption) ?_
          rotate_left 1
          · ((intro w hSw; (try dsimp only at hSw); go_simp) <;> (try with_reducible rfl))
          try simp only [Act.put, List.setIfInBounds_toArray, List.set_cons_zero, List.set_cons_succ]
          refine wpAnyH_take (i := 39) (oi := { dst := some 145, op := Op.pick (Operand.tmp 133) (Operand.tmp 144) (Operand.const (Value.bool false)), type := _, pos := _, after := _, guard := none }) (v := ?_) rfl (by kernel_rfl) (by kernel_rfl) (by kernel_rfl) (fun _ _ _ h => h) (Or.inl ⟨by rfl, ?_⟩) (by assumption) ?_
          rotate_left 1
          · ((intro w hSw; (try dsimp only at hSw); go_simp) <;> (try with_reducible rfl))
          try simp only [Act.put, List.setIfInBounds_toArray, List.set_cons_zero, List.set_cons_succ]
          refine wpAnyH_take (i := 40) (oi := { dst := some 146, op := Op.move (Operand.tmp 145), type := _, pos := _, after := _, guard := none }) (v := ?_) rfl (by kernel_rfl) (by kernel_rfl) (by kernel_rfl) (fun _ _ _ h => h) (Or.inl ⟨by rfl, ?_⟩) (by assumption) ?_
          rotate_left 1
          · ((intro w hSw; (try dsimp only at hSw); go_simp) <;> (try with_reducible rfl))
          try simp only [Act.put, List.setIfInBounds_toArray, List.set_cons_zero, List.set_cons_succ]
          refine wpAnyH_take (i := 41) (oi := { dst := some 147, op := Op.load _ (Operand.tmp 9), type := _, pos := _, after := _, guard := some (40, true) }) (v := ?_) rfl (by kernel_rfl) (by kernel_rfl) (by kernel_rfl) (fun _ _ _ h => h) (Or.inl ⟨by rfl, ?_⟩) (by assumption) ?_
          rotate_left 1
          · ((intro w hSw; (try dsimp only at hSw); go_simp) <;> (try with_reducible rfl))
          try simp only [Act.put, List.setIfInBounds_toArray, List.set_cons_zero, List.set_cons_succ]
          refine wpAnyH_take (i := 42) (oi := { dst := some 148, op := Op.move (Operand.tmp 0), type := _, pos := _, after := _, guard := some (40, true) }) (v := ?_) rfl (by kernel_rfl) (by kernel_rfl) (by kernel_rfl) (fun _ _ _ h => h) (Or.inl ⟨by rfl, ?_⟩) (by assumption) ?_
          rotate_left 1
          · ((intro w hSw; (try dsimp only at hSw); go_simp) <;> (try with_reducible rfl))
          try simp only [Act.put, List.setIfInBounds_toArray, List.set_cons_zero, List.set_cons_succ]
          refine wpAnyH_ready (rs := [43]) (by kernel_rfl) (by simp) ?_
          refine AllReadyH.cons (o := { dst := some 149, op := Op.call _, type := _, pos := _, after := _, guard := some (40, true) }) rfl (fun K hK => ?_) AllReadyH.nil
          go_simp
          go_at_call 11; with_reducible refine (H_tr.out _ (by assumption)).mono ?_; rintro _ u2 ⟨v2, rfl, hnd2, hbn2⟩; have hcs := H_more.out _ _ (by assumption) hbn2
          try go_wp2_with fail
          refine hK.out _ _ ?_ (fun hHeld8 => ?_)
          · try dsimp only
            first | assumption | exact H_more.out _ _ H_S.out ((Below.refl _ _).drew) | exact H_more.out _ _ (by assumption) (by assumption)
          clear hK K hHeld7
          try simp only [Act.put, List.setIfInBounds_toArray, List.set_cons_zero, List.set_cons_succ]
          refine wpAnyH_ready (rs := [44]) (by kernel_rfl) (by simp) ?_
          refine AllReadyH.cons (o := { dst := some 150, op := Op.call _, type := _, pos := _, after := _, guard := some (40, true) }) rfl (fun K hK => ?_) AllReadyH.nil
          go_simp
          go_at_call 19; with_reducible refine (H_sm3.out _ _ (by assumption) (by assumption)).mono ?_; rintro _ u3 ⟨rfl, hbn3⟩; have hcs := H_more.out _ _ (by assumption) hbn3
          try go_wp2_with fail
          refine hK.out _ _ ?_ (fun hHeld9 => ?_)
          · try dsimp only
            first | assumption | exact H_more.out _ _ H_S.out ((Below.refl _ _).drew) | exact H_more.out _ _ (by assumption) (by assumption)
          clear hK K hHeld8
          try simp only [Act.put, List.setIfInBounds_toArray, List.set_cons_zero, List.set_cons_succ]
          refine wpAnyH_take (i := 45) (oi := { dst := some 151, op := Op.pick (Operand.tmp 146) (Operand.tmp 150) (Operand.const (Value.bool false)), type := _, pos := _, after := _, guard := none }) (v := ?_) rfl (by kernel_rfl) (by kernel_rfl) (by kernel_rfl) (fun _ _ _ h => h) (Or.inl ⟨by rfl, ?_⟩) (by assumption) ?_
          rotate_left 1
          · ((intro w hSw; (try dsimp only at hSw); go_simp) <;> (try with_reducible rfl))
          try simp only [Act.put, List.setIfInBounds_toArray, List.set_cons_zero, List.set_cons_succ]
          refine wpAnyH_take (i := 46) (oi := { dst := some 8, op := Op.assign (Operand.tmp 151), type := _, pos := _, after := _, guard := none }) (v := ?_) rfl (by kernel_rfl) (by kernel_rfl) (by kernel_rfl) (fun _ _ _ h => h) (Or.inl ⟨by rfl, ?_⟩) (by assumption) ?_
          rotate_left 1
          · ((intro w hSw; (try dsimp only at hSw); go_simp) <;> (try with_reducible rfl))
          try simp only [Act.put, List.setIfInBounds_toArray, List.set_cons_zero, List.set_cons_succ]
          refine wpAnyH_done (by kernel_rfl) ?_ _
          have hHeld := hHeld9

          have hfin := (HZ.out _ hHeld.2).2.2.2.2.2.2.2.2.2
          go_wp2_with fail
          go_ret
          exact ⟨rfl, hfin⟩
        | false =>
          try rw [HD.out]
          have hS : (fun u : World => (u.cell? ⟨w1.heap.size, 0, none⟩ = some (.int .i64 10) ∧ u.cell? ⟨w1.heap.size, 1, none⟩ = some (.string ⟨#[]⟩) ∧ u.cell? ⟨w1.heap.size, 2, none⟩ = some (.slice ao m cap) ∧ u.cell? ⟨w3.heap.size, 0, none⟩ = some (.int .i64 10) ∧ u.cell? ⟨w3.heap.size, 1, none⟩ = some (.string ⟨#[]⟩) ∧ u.cell? ⟨w3.heap.size, 2, none⟩ = some (.slice ab n cb) ∧ u.cell? ⟨w8.heap.size, 0, none⟩ = some (.int .i64 r.k) ∧ u.cell? ⟨w8.heap.size, 1, none⟩ = some (.string r.t) ∧ u.cell? ⟨w8.heap.size, 2, none⟩ = some (.slice sa nr sc) ∧ u.cell? ⟨w10.heap.size, 0, none⟩ = some (.int .i64 y.k) ∧ u.cell? ⟨w10.heap.size, 1, none⟩ = some (.string y.t) ∧ u.cell? ⟨w10.heap.size, 2, none⟩ = some (.slice ya ny yc) ∧ u.cell? ⟨w12.heap.size, 0, none⟩ = some (.int .i64 a.k) ∧ u.cell? ⟨w12.heap.size, 1, none⟩ = some (.string a.t) ∧ u.cell? ⟨w12.heap.size, 2, none⟩ = some (.slice aa na ac) ∧ u.cell? ⟨w14.heap.size, 0, none⟩ = some (.int .i64 K) ∧ u.cell? ⟨w14.heap.size, 1, none⟩ = some (.string Tt) ∧ u.cell? ⟨w14.heap.size, 2, none⟩ = some (.slice sb nb cbb) ∧ u.cell? ⟨w16.heap.size, 0, none⟩ = some (.int .i64 old.k) ∧ u.cell? ⟨w16.heap.size, 1, none⟩ = some (.string old.t) ∧ u.cell? ⟨w16.heap.size, 2, none⟩ = some (.slice oa no oc)) ∧ Below W17.heap.size W17 u) W17 := by
            obtain ⟨⟨g1, g2⟩, _⟩ := HALL.out W17 (HBZ.out).1
            obtain ⟨⟨g3, g4⟩, _⟩ := HALL11.out W17 (HBZ.out).2
            exact ⟨⟨g1.cell 0, g1.cell 1, g1.cell 2, g2.cell 0, g2.cell 1, g2.cell 2, g3.cell 0, g3.cell 1, g3.cell 2, g4.cell 0, g4.cell 1, g4.cell 2, HA17.out.cell 0, HA17.out.cell 1, HA17.out.cell 2, HBB17.out.cell 0, HBB17.out.cell 1, HBB17.out.cell 2, HO17.out.cell 0, HO17.out.cell 1, HO17.out.cell 2⟩, Below.refl _ _⟩
          have more : ∀ (u v : World), ((u.cell? ⟨w1.heap.size, 0, none⟩ = some (.int .i64 10) ∧ u.cell? ⟨w1.heap.size, 1, none⟩ = some (.string ⟨#[]⟩) ∧ u.cell? ⟨w1.heap.size, 2, none⟩ = some (.slice ao m cap) ∧ u.cell? ⟨w3.heap.size, 0, none⟩ = some (.int .i64 10) ∧ u.cell? ⟨w3.heap.size, 1, none⟩ = some (.string ⟨#[]⟩) ∧ u.cell? ⟨w3.heap.size, 2, none⟩ = some (.slice ab n cb) ∧ u.cell? ⟨w8.heap.size, 0, none⟩ = some (.int .i64 r.k) ∧ u.cell? ⟨w8.heap.size, 1, none⟩ = some (.string r.t) ∧ u.cell? ⟨w8.heap.size, 2, none⟩ = some (.slice sa nr sc) ∧ u.cell? ⟨w10.heap.size, 0, none⟩ = some (.int .i64 y.k) ∧ u.cell? ⟨w10.heap.size, 1, none⟩ = some (.string y.t) ∧ u.cell? ⟨w10.heap.size, 2, none⟩ = some (.slice ya ny yc) ∧ u.cell? ⟨w12.heap.size, 0, none⟩ = some (.int .i64 a.k) ∧ u.cell? ⟨w12.heap.size, 1, none⟩ = some (.string a.t) ∧ u.cell? ⟨w12.heap.size, 2, none⟩ = some (.slice aa na ac) ∧ u.cell? ⟨w14.heap.size, 0, none⟩ = some (.int .i64 K) ∧ u.cell? ⟨w14.heap.size, 1, none⟩ = some (.string Tt) ∧ u.cell? ⟨w14.heap.size, 2, none⟩ = some (.slice sb nb cbb) ∧ u.cell? ⟨w16.heap.size, 0, none⟩ = some (.int .i64 old.k) ∧ u.cell? ⟨w16.heap.size, 1, none⟩ = some (.string old.t) ∧ u.cell? ⟨w16.heap.size, 2, none⟩ = some (.slice oa no oc)) ∧ Below W17.heap.size W17 u) → Below u.heap.size u v → ((v.cell? ⟨w1.heap.size, 0, none⟩ = some (.int .i64 10) ∧ v.cell? ⟨w1.heap.size, 1, none⟩ = some (.string ⟨#[]⟩) ∧ v.cell? ⟨w1.heap.size, 2, none⟩ = some (.slice ao m cap) ∧ v.cell? ⟨w3.heap.size, 0, none⟩ = some (.int .i64 10) ∧ v.cell? ⟨w3.heap.size, 1, none⟩ = some (.string ⟨#[]⟩) ∧ v.cell? ⟨w3.heap.size, 2, none⟩ = some (.slice ab n cb) ∧ v.cell? ⟨w8.heap.size, 0, none⟩ = some (.int .i64 r.k) ∧ v.cell? ⟨w8.heap.size, 1, none⟩ = some (.string r.t) ∧ v.cell? ⟨w8.heap.size, 2, none⟩ = some (.slice sa nr sc) ∧ v.cell? ⟨w10.heap.size, 0, none⟩ = some (.int .i64 y.k) ∧ v.cell? ⟨w10.heap.size, 1, none⟩ = some (.string y.t) ∧ v.cell? ⟨w10.heap.size, 2, none⟩ = some (.slice ya ny yc) ∧ v.cell? ⟨w12.heap.size, 0, none⟩ = some (.int .i64 a.k) ∧ v.cell? ⟨w12.heap.size, 1, none⟩ = some (.string a.t) ∧ v.cell? ⟨w12.heap.size, 2, none⟩ = some (.slice aa na ac) ∧ v.cell? ⟨w14.heap.size, 0, none⟩ = some (.int .i64 K) ∧ v.cell? ⟨w14.heap.size, 1, none⟩ = some (.string Tt) ∧ v.cell? ⟨w14.heap.size, 2, none⟩ = some (.slice sb nb cbb) ∧ v.cell? ⟨w16.heap.size, 0, none⟩ = some (.int .i64 old.k) ∧ v.cell? ⟨w16.heap.size, 1, none⟩ = some (.string old.t) ∧ v.cell? ⟨w16.heap.size, 2, none⟩ = some (.slice oa no oc)) ∧ Below W17.heap.size W17 v) := fun u v h hb => by
            obtain ⟨⟨h0, h1, h2, h3, h4, h5, h6, h7, h8, h9, h10, h11, h12, h13, h14, h15, h16, h17, h18, h19, h20⟩, hz⟩ := h
            have q : ∀ {p : Addr} {x : Value}, u.cell? p = some x → v.cell? p = some x := fun hp => (hb.cell (World.block_lt_of_cell? u _ hp)).trans hp
            exact ⟨⟨q h0, q h1, q h2, q h3, q h4, q h5, q h6, q h7, q h8, q h9, q h10, q h11, q h12, q h13, q h14, q h15, q h16, q h17, q h18, q h19, q h20⟩, hz.trans (hb.mono hz.size)⟩
          have kn : ∀ (u : World), ((u.cell? ⟨w1.heap.size, 0, none⟩ = some (.int .i64 10) ∧ u.cell? ⟨w1.heap.size, 1, none⟩ = some (.string ⟨#[]⟩) ∧ u.cell? ⟨w1.heap.size, 2, none⟩ = some (.slice ao m cap) ∧ u.cell? ⟨w3.heap.size, 0, none⟩ = some (.int .i64 10) ∧ u.cell? ⟨w3.heap.size, 1, none⟩ = some (.string ⟨#[]⟩) ∧ u.cell? ⟨w3.heap.size, 2, none⟩ = some (.slice ab n cb) ∧ u.cell? ⟨w8.heap.size, 0, none⟩ = some (.int .i64 r.k) ∧ u.cell? ⟨w8.heap.size, 1, none⟩ = some (.string r.t) ∧ u.cell? ⟨w8.heap.size, 2, none⟩ = some (.slice sa nr sc) ∧ u.cell? ⟨w10.heap.size, 0, none⟩ = some (.int .i64 y.k) ∧ u.cell? ⟨w10.heap.size, 1, none⟩ = some (.string y.t) ∧ u.cell? ⟨w10.heap.size, 2, none⟩ = some (.slice ya ny yc) ∧ u.cell? ⟨w12.heap.size, 0, none⟩ = some (.int .i64 a.k) ∧ u.cell? ⟨w12.heap.size, 1, none⟩ = some (.string a.t) ∧ u.cell? ⟨w12.heap.size, 2, none⟩ = some (.slice aa na ac) ∧ u.cell? ⟨w14.heap.size, 0, none⟩ = some (.int .i64 K) ∧ u.cell? ⟨w14.heap.size, 1, none⟩ = some (.string Tt) ∧ u.cell? ⟨w14.heap.size, 2, none⟩ = some (.slice sb nb cbb) ∧ u.cell? ⟨w16.heap.size, 0, none⟩ = some (.int .i64 old.k) ∧ u.cell? ⟨w16.heap.size, 1, none⟩ = some (.string old.t) ∧ u.cell? ⟨w16.heap.size, 2, none⟩ = some (.slice oa no oc)) ∧ Below W17.heap.size W17 u) → Calls Tryd.prog 10 #[] u fun e w' => e = .returned (.bool true) ∧ Below u.heap.size u w' := fun _ h => known_calls T _ (HZ.out _ h.2).2.2.2.2.2.2.2.1
          have sm1 : ∀ (u : World), ((u.cell? ⟨w1.heap.size, 0, none⟩ = some (.int .i64 10) ∧ u.cell? ⟨w1.heap.size, 1, none⟩ = some (.string ⟨#[]⟩) ∧ u.cell? ⟨w1.heap.size, 2, none⟩ = some (.slice ao m cap) ∧ u.cell? ⟨w3.heap.size, 0, none⟩ = some (.int .i64 10) ∧ u.cell? ⟨w3.heap.size, 1, none⟩ = some (.string ⟨#[]⟩) ∧ u.cell? ⟨w3.heap.size, 2, none⟩ = some (.slice ab n cb) ∧ u.cell? ⟨w8.heap.size, 0, none⟩ = some (.int .i64 r.k) ∧ u.cell? ⟨w8.heap.size, 1, none⟩ = some (.string r.t) ∧ u.cell? ⟨w8.heap.size, 2, none⟩ = some (.slice sa nr sc) ∧ u.cell? ⟨w10.heap.size, 0, none⟩ = some (.int .i64 y.k) ∧ u.cell? ⟨w10.heap.size, 1, none⟩ = some (.string y.t) ∧ u.cell? ⟨w10.heap.size, 2, none⟩ = some (.slice ya ny yc) ∧ u.cell? ⟨w12.heap.size, 0, none⟩ = some (.int .i64 a.k) ∧ u.cell? ⟨w12.heap.size, 1, none⟩ = some (.string a.t) ∧ u.cell? ⟨w12.heap.size, 2, none⟩ = some (.slice aa na ac) ∧ u.cell? ⟨w14.heap.size, 0, none⟩ = some (.int .i64 K) ∧ u.cell? ⟨w14.heap.size, 1, none⟩ = some (.string Tt) ∧ u.cell? ⟨w14.heap.size, 2, none⟩ = some (.slice sb nb cbb) ∧ u.cell? ⟨w16.heap.size, 0, none⟩ = some (.int .i64 old.k) ∧ u.cell? ⟨w16.heap.size, 1, none⟩ = some (.string old.t) ∧ u.cell? ⟨w16.heap.size, 2, none⟩ = some (.slice oa no oc)) ∧ Below W17.heap.size W17 u) → Calls Tryd.prog 19 #[.agg #[.int .i64 y.k, .string y.t, .slice ya ny yc], .agg #[.int .i64 10, .string ⟨#[]⟩, .slice ab n cb]] u fun e w' => e = .returned (.bool true) ∧ Below u.heap.size u w' := fun u h => by
            have := same_ok y y u _ _ (HZ.out u h.2).2.2.2.1 (HZ.out u h.2).2.1
            rw [Nd.same_self] at this
            exact this
          have c1 : ∀ (u : World), ((u.cell? ⟨w1.heap.size, 0, none⟩ = some (.int .i64 10) ∧ u.cell? ⟨w1.heap.size, 1, none⟩ = some (.string ⟨#[]⟩) ∧ u.cell? ⟨w1.heap.size, 2, none⟩ = some (.slice ao m cap) ∧ u.cell? ⟨w3.heap.size, 0, none⟩ = some (.int .i64 10) ∧ u.cell? ⟨w3.heap.size, 1, none⟩ = some (.string ⟨#[]⟩) ∧ u.cell? ⟨w3.heap.size, 2, none⟩ = some (.slice ab n cb) ∧ u.cell? ⟨w8.heap.size, 0, none⟩ = some (.int .i64 r.k) ∧ u.cell? ⟨w8.heap.size, 1, none⟩ = some (.string r.t) ∧ u.cell? ⟨w8.heap.size, 2, none⟩ = some (.slice sa nr sc) ∧ u.cell? ⟨w10.heap.size, 0, none⟩ = some (.int .i64 y.k) ∧ u.cell? ⟨w10.heap.size, 1, none⟩ = some (.string y.t) ∧ u.cell? ⟨w10.heap.size, 2, none⟩ = some (.slice ya ny yc) ∧ u.cell? ⟨w12.heap.size, 0, none⟩ = some (.int .i64 a.k) ∧ u.cell? ⟨w12.heap.size, 1, none⟩ = some (.string a.t) ∧ u.cell? ⟨w12.heap.size, 2, none⟩ = some (.slice aa na ac) ∧ u.cell? ⟨w14.heap.size, 0, none⟩ = some (.int .i64 K) ∧ u.cell? ⟨w14.heap.size, 1, none⟩ = some (.string Tt) ∧ u.cell? ⟨w14.heap.size, 2, none⟩ = some (.slice sb nb cbb) ∧ u.cell? ⟨w16.heap.size, 0, none⟩ = some (.int .i64 old.k) ∧ u.cell? ⟨w16.heap.size, 1, none⟩ = some (.string old.t) ∧ u.cell? ⟨w16.heap.size, 2, none⟩ = some (.slice oa no oc)) ∧ Below W17.heap.size W17 u) → Calls Tryd.prog 20 #[.agg #[.int .i64 r.k, .string r.t, .slice sa nr sc]] u fun e w' => e = .returned (.int .i64 ((c : Int) - (co : Int) + (cy : Int))) ∧ Below u.heap.size u w' := fun _ h => by
            rw [← HCR.out]; exact count_calls r (by have := HRW.out; have := Nd.count_le r; omega) _ _ (HZ.out _ h.2).2.2.1
          have c2 : ∀ (u : World), ((u.cell? ⟨w1.heap.size, 0, none⟩ = some (.int .i64 10) ∧ u.cell? ⟨w1.heap.size, 1, none⟩ = some (.string ⟨#[]⟩) ∧ u.cell? ⟨w1.heap.size, 2, none⟩ = some (.slice ao m cap) ∧ u.cell? ⟨w3.heap.size, 0, none⟩ = some (.int .i64 10) ∧ u.cell? ⟨w3.heap.size, 1, none⟩ = some (.string ⟨#[]⟩) ∧ u.cell? ⟨w3.heap.size, 2, none⟩ = some (.slice ab n cb) ∧ u.cell? ⟨w8.heap.size, 0, none⟩ = some (.int .i64 r.k) ∧ u.cell? ⟨w8.heap.size, 1, none⟩ = some (.string r.t) ∧ u.cell? ⟨w8.heap.size, 2, none⟩ = some (.slice sa nr sc) ∧ u.cell? ⟨w10.heap.size, 0, none⟩ = some (.int .i64 y.k) ∧ u.cell? ⟨w10.heap.size, 1, none⟩ = some (.string y.t) ∧ u.cell? ⟨w10.heap.size, 2, none⟩ = some (.slice ya ny yc) ∧ u.cell? ⟨w12.heap.size, 0, none⟩ = some (.int .i64 a.k) ∧ u.cell? ⟨w12.heap.size, 1, none⟩ = some (.string a.t) ∧ u.cell? ⟨w12.heap.size, 2, none⟩ = some (.slice aa na ac) ∧ u.cell? ⟨w14.heap.size, 0, none⟩ = some (.int .i64 K) ∧ u.cell? ⟨w14.heap.size, 1, none⟩ = some (.string Tt) ∧ u.cell? ⟨w14.heap.size, 2, none⟩ = some (.slice sb nb cbb) ∧ u.cell? ⟨w16.heap.size, 0, none⟩ = some (.int .i64 old.k) ∧ u.cell? ⟨w16.heap.size, 1, none⟩ = some (.string old.t) ∧ u.cell? ⟨w16.heap.size, 2, none⟩ = some (.slice oa no oc)) ∧ Below W17.heap.size W17 u) → Calls Tryd.prog 20 #[.agg #[.int .i64 10, .string ⟨#[]⟩, .slice ao m cap]] u fun e w' => e = .returned (.int .i64 (c : Int)) ∧ Below u.heap.size u w' := fun _ h => by
            rw [← HC.out]; exact count_calls x (by rw [HC.out]; omega) _ _ (HZ.out _ h.2).1
          have c3 : ∀ (u : World), ((u.cell? ⟨w1.heap.size, 0, none⟩ = some (.int .i64 10) ∧ u.cell? ⟨w1.heap.size, 1, none⟩ = some (.string ⟨#[]⟩) ∧ u.cell? ⟨w1.heap.size, 2, none⟩ = some (.slice ao m cap) ∧ u.cell? ⟨w3.heap.size, 0, none⟩ = some (.int .i64 10) ∧ u.cell? ⟨w3.heap.size, 1, none⟩ = some (.string ⟨#[]⟩) ∧ u.cell? ⟨w3.heap.size, 2, none⟩ = some (.slice ab n cb) ∧ u.cell? ⟨w8.heap.size, 0, none⟩ = some (.int .i64 r.k) ∧ u.cell? ⟨w8.heap.size, 1, none⟩ = some (.string r.t) ∧ u.cell? ⟨w8.heap.size, 2, none⟩ = some (.slice sa nr sc) ∧ u.cell? ⟨w10.heap.size, 0, none⟩ = some (.int .i64 y.k) ∧ u.cell? ⟨w10.heap.size, 1, none⟩ = some (.string y.t) ∧ u.cell? ⟨w10.heap.size, 2, none⟩ = some (.slice ya ny yc) ∧ u.cell? ⟨w12.heap.size, 0, none⟩ = some (.int .i64 a.k) ∧ u.cell? ⟨w12.heap.size, 1, none⟩ = some (.string a.t) ∧ u.cell? ⟨w12.heap.size, 2, none⟩ = some (.slice aa na ac) ∧ u.cell? ⟨w14.heap.size, 0, none⟩ = some (.int .i64 K) ∧ u.cell? ⟨w14.heap.size, 1, none⟩ = some (.string Tt) ∧ u.cell? ⟨w14.heap.size, 2, none⟩ = some (.slice sb nb cbb) ∧ u.cell? ⟨w16.heap.size, 0, none⟩ = some (.int .i64 old.k) ∧ u.cell? ⟨w16.heap.size, 1, none⟩ = some (.string old.t) ∧ u.cell? ⟨w16.heap.size, 2, none⟩ = some (.slice oa no oc)) ∧ Below W17.heap.size W17 u) → Calls Tryd.prog 20 #[.agg #[.int .i64 old.k, .string old.t, .slice oa no oc]] u fun e w' => e = .returned (.int .i64 (co : Int)) ∧ Below u.heap.size u w' := fun _ h => by
            rw [← HCO.out]; exact count_calls old (by rw [HCO.out]; omega) _ _ (HZ.out _ h.2).2.2.2.2.2.2.1
          have c4 : ∀ (u : World), ((u.cell? ⟨w1.heap.size, 0, none⟩ = some (.int .i64 10) ∧ u.cell? ⟨w1.heap.size, 1, none⟩ = some (.string ⟨#[]⟩) ∧ u.cell? ⟨w1.heap.size, 2, none⟩ = some (.slice ao m cap) ∧ u.cell? ⟨w3.heap.size, 0, none⟩ = some (.int .i64 10) ∧ u.cell? ⟨w3.heap.size, 1, none⟩ = some (.string ⟨#[]⟩) ∧ u.cell? ⟨w3.heap.size, 2, none⟩ = some (.slice ab n cb) ∧ u.cell? ⟨w8.heap.size, 0, none⟩ = some (.int .i64 r.k) ∧ u.cell? ⟨w8.heap.size, 1, none⟩ = some (.string r.t) ∧ u.cell? ⟨w8.heap.size, 2, none⟩ = some (.slice sa nr sc) ∧ u.cell? ⟨w10.heap.size, 0, none⟩ = some (.int .i64 y.k) ∧ u.cell? ⟨w10.heap.size, 1, none⟩ = some (.string y.t) ∧ u.cell? ⟨w10.heap.size, 2, none⟩ = some (.slice ya ny yc) ∧ u.cell? ⟨w12.heap.size, 0, none⟩ = some (.int .i64 a.k) ∧ u.cell? ⟨w12.heap.size, 1, none⟩ = some (.string a.t) ∧ u.cell? ⟨w12.heap.size, 2, none⟩ = some (.slice aa na ac) ∧ u.cell? ⟨w14.heap.size, 0, none⟩ = some (.int .i64 K) ∧ u.cell? ⟨w14.heap.size, 1, none⟩ = some (.string Tt) ∧ u.cell? ⟨w14.heap.size, 2, none⟩ = some (.slice sb nb cbb) ∧ u.cell? ⟨w16.heap.size, 0, none⟩ = some (.int .i64 old.k) ∧ u.cell? ⟨w16.heap.size, 1, none⟩ = some (.string old.t) ∧ u.cell? ⟨w16.heap.size, 2, none⟩ = some (.slice oa no oc)) ∧ Below W17.heap.size W17 u) → Calls Tryd.prog 20 #[.agg #[.int .i64 10, .string ⟨#[]⟩, .slice ab n cb]] u fun e w' => e = .returned (.int .i64 (cy : Int)) ∧ Below u.heap.size u w' := fun _ h => by
            rw [← HCY.out]; exact count_calls y (by rw [HCY.out]; omega) _ _ (HZ.out _ h.2).2.1
          have tr : ∀ (u' : World), ((u'.cell? ⟨w1.heap.size, 0, none⟩ = some (.int .i64 10) ∧ u'.cell? ⟨w1.heap.size, 1, none⟩ = some (.string ⟨#[]⟩) ∧ u'.cell? ⟨w1.heap.size, 2, none⟩ = some (.slice ao m cap) ∧ u'.cell? ⟨w3.heap.size, 0, none⟩ = some (.int .i64 10) ∧ u'.cell? ⟨w3.heap.size, 1, none⟩ = some (.string ⟨#[]⟩) ∧ u'.cell? ⟨w3.heap.size, 2, none⟩ = some (.slice ab n cb) ∧ u'.cell? ⟨w8.heap.size, 0, none⟩ = some (.int .i64 r.k) ∧ u'.cell? ⟨w8.heap.size, 1, none⟩ = some (.string r.t) ∧ u'.cell? ⟨w8.heap.size, 2, none⟩ = some (.slice sa nr sc) ∧ u'.cell? ⟨w10.heap.size, 0, none⟩ = some (.int .i64 y.k) ∧ u'.cell? ⟨w10.heap.size, 1, none⟩ = some (.string y.t) ∧ u'.cell? ⟨w10.heap.size, 2, none⟩ = some (.slice ya ny yc) ∧ u'.cell? ⟨w12.heap.size, 0, none⟩ = some (.int .i64 a.k) ∧ u'.cell? ⟨w12.heap.size, 1, none⟩ = some (.string a.t) ∧ u'.cell? ⟨w12.heap.size, 2, none⟩ = some (.slice aa na ac) ∧ u'.cell? ⟨w14.heap.size, 0, none⟩ = some (.int .i64 K) ∧ u'.cell? ⟨w14.heap.size, 1, none⟩ = some (.string Tt) ∧ u'.cell? ⟨w14.heap.size, 2, none⟩ = some (.slice sb nb cbb) ∧ u'.cell? ⟨w16.heap.size, 0, none⟩ = some (.int .i64 old.k) ∧ u'.cell? ⟨w16.heap.size, 1, none⟩ = some (.string old.t) ∧ u'.cell? ⟨w16.heap.size, 2, none⟩ = some (.slice oa no oc)) ∧ Below W17.heap.size W17 u') → Calls Tryd.prog 11 #[u] u' fun e w' => ∃ v, e = .returned v ∧ NdAt (Lt w'.heap.size) w' x v ∧ Below u'.heap.size u' w' := fun u' h => by
            refine (HTREE.out u' (HZ.out u' h.2).2.2.2.2.2.2.2.2.1).mono ?_
            rintro e w' ⟨s, rfl, hbd, hb⟩
            exact ⟨_, rfl, by rw [← HXF.out]; exact NdAt.mk hbd.kids.toLt, hb⟩
          have sm3 : ∀ (u : World) (v : Value), ((u.cell? ⟨w1.heap.size, 0, none⟩ = some (.int .i64 10) ∧ u.cell? ⟨w1.heap.size, 1, none⟩ = some (.string ⟨#[]⟩) ∧ u.cell? ⟨w1.heap.size, 2, none⟩ = some (.slice ao m cap) ∧ u.cell? ⟨w3.heap.size, 0, none⟩ = some (.int .i64 10) ∧ u.cell? ⟨w3.heap.size, 1, none⟩ = some (.string ⟨#[]⟩) ∧ u.cell? ⟨w3.heap.size, 2, none⟩ = some (.slice ab n cb) ∧ u.cell? ⟨w8.heap.size, 0, none⟩ = some (.int .i64 r.k) ∧ u.cell? ⟨w8.heap.size, 1, none⟩ = some (.string r.t) ∧ u.cell? ⟨w8.heap.size, 2, none⟩ = some (.slice sa nr sc) ∧ u.cell? ⟨w10.heap.size, 0, none⟩ = some (.int .i64 y.k) ∧ u.cell? ⟨w10.heap.size, 1, none⟩ = some (.string y.t) ∧ u.cell? ⟨w10.heap.size, 2, none⟩ = some (.slice ya ny yc) ∧ u.cell? ⟨w12.heap.size, 0, none⟩ = some (.int .i64 a.k) ∧ u.cell? ⟨w12.heap.size, 1, none⟩ = some (.string a.t) ∧ u.cell? ⟨w12.heap.size, 2, none⟩ = some (.slice aa na ac) ∧ u.cell? ⟨w14.heap.size, 0, none⟩ = some (.int .i64 K) ∧ u.cell? ⟨w14.heap.size, 1, none⟩ = some (.string Tt) ∧ u.cell? ⟨w14.heap.size, 2, none⟩ = some (.slice sb nb cbb) ∧ u.cell? ⟨w16.heap.size, 0, none⟩ = some (.int .i64 old.k) ∧ u.cell? ⟨w16.heap.size, 1, none⟩ = some (.string old.t) ∧ u.cell? ⟨w16.heap.size, 2, none⟩ = some (.slice oa no oc)) ∧ Below W17.heap.size W17 u) → NdAt (Lt u.heap.size) u x v → Calls Tryd.prog 19 #[.agg #[.int .i64 10, .string ⟨#[]⟩, .slice ao m cap], v] u fun e w' => e = .returned (.bool true) ∧ Below u.heap.size u w' := fun u v h hv => by
            have := same_ok x x u _ v (HZ.out u h.2).1 hv
            rw [Nd.same_self] at this
            exact this
          have H_more := Lib.hid more
          have H_kn := Lib.hid kn
          have H_sm1 := Lib.hid sm1
          have H_c1 := Lib.hid c1
          have H_c2 := Lib.hid c2
          have H_c3 := Lib.hid c3
          have H_c4 := Lib.hid c4
          have H_tr := Lib.hid tr
          have H_sm3 := Lib.hid sm3
          have H_S := Lib.hid hS
          obtain ⟨⟨e0, e1, e2, e3, e4, e5, e6, e7, e8, e9, e10, e11, e12, e13, e14, e15, e16, e17, e18, e19, e20⟩, _⟩ := id hS
          clear hS more kn sm1 c1 c2 c3 c4 tr sm3
          refine wp_region_held_drew (S := fun u => (u.cell? ⟨w1.heap.size, 0, none⟩ = some (.int .i64 10) ∧ u.cell? ⟨w1.heap.size, 1, none⟩ = some (.string ⟨#[]⟩) ∧ u.cell? ⟨w1.heap.size, 2, none⟩ = some (.slice ao m cap) ∧ u.cell? ⟨w3.heap.size, 0, none⟩ = some (.int .i64 10) ∧ u.cell? ⟨w3.heap.size, 1, none⟩ = some (.string ⟨#[]⟩) ∧ u.cell? ⟨w3.heap.size, 2, none⟩ = some (.slice ab n cb) ∧ u.cell? ⟨w8.heap.size, 0, none⟩ = some (.int .i64 r.k) ∧ u.cell? ⟨w8.heap.size, 1, none⟩ = some (.string r.t) ∧ u.cell? ⟨w8.heap.size, 2, none⟩ = some (.slice sa nr sc) ∧ u.cell? ⟨w10.heap.size, 0, none⟩ = some (.int .i64 y.k) ∧ u.cell? ⟨w10.heap.size, 1, none⟩ = some (.string y.t) ∧ u.cell? ⟨w10.heap.size, 2, none⟩ = some (.slice ya ny yc) ∧ u.cell? ⟨w12.heap.size, 0, none⟩ = some (.int .i64 a.k) ∧ u.cell? ⟨w12.heap.size, 1, none⟩ = some (.string a.t) ∧ u.cell? ⟨w12.heap.size, 2, none⟩ = some (.slice aa na ac) ∧ u.cell? ⟨w14.heap.size, 0, none⟩ = some (.int .i64 K) ∧ u.cell? ⟨w14.heap.size, 1, none⟩ = some (.string Tt) ∧ u.cell? ⟨w14.heap.size, 2, none⟩ = some (.slice sb nb cbb) ∧ u.cell? ⟨w16.heap.size, 0, none⟩ = some (.int .i64 old.k) ∧ u.cell? ⟨w16.heap.size, 1, none⟩ = some (.string old.t) ∧ u.cell? ⟨w16.heap.size, 2, none⟩ = some (.slice oa no oc)) ∧ Below W17.heap.size W17 u) (by kernel_rfl) ?_ (fun hHeld0 => ?_)
          · try dsimp only
            first | assumption | exact H_more.out _ _ H_S.out ((Below.refl _ _).drew) | exact H_more.out _ _ (by assumption) (by assumption)
          refine wpAnyH_ready (rs := [0]) (by kernel_rfl) (by simp) ?_
          refine AllReadyH.cons (o := { dst := some 106, op := Op.call _, type := _, pos := _, after := _, guard := none }) rfl (fun K hK => ?_) AllReadyH.nil
          go_simp
          go_at_call 10; with_reducible refine (H_kn.out _ (by assumption)).mono ?_; rintro _ u1 ⟨rfl, hbn⟩; have hcs := H_more.out _ _ (by assumption) hbn
          try go_wp2_with fail
          refine hK.out _ _ ?_ (fun hHeld1 => ?_)
          · try dsimp only
            first | assumption | exact H_more.out _ _ H_S.out ((Below.refl _ _).drew) | exact H_more.out _ _ (by assumption) (by assumption)
          clear hK K hHeld0
          try simp only [Act.put, List.setIfInBounds_toArray, List.set_cons_zero, List.set_cons_succ]
          refine wpAnyH_take (i := 1) (oi := { dst := some 107, op := Op.move (Operand.tmp 106), type := _, pos := _, after := _, guard := none }) (v := ?_) rfl (by kernel_rfl) (by kernel_rfl) (by kernel_rfl) (fun _ _ _ h => h) (Or.inl ⟨by rfl, ?_⟩) (by assumption) ?_
          rotate_left 1
          · ((intro w hSw; (try dsimp only at hSw); go_simp) <;> (try with_reducible rfl))
          try simp only [Act.put, List.setIfInBounds_toArray, List.set_cons_zero, List.set_cons_succ]
          refine wpAnyH_take (i := 2) (oi := { dst := some 108, op := Op.move (Operand.tmp 15), type := _, pos := _, after := _, guard := some (1, true) }) (v := ?_) rfl (by kernel_rfl) (by kernel_rfl) (by kernel_rfl) (fun _ _ _ h => h) (Or.inl ⟨by rfl, ?_⟩) (by assumption) ?_
          rotate_left 1
          · ((intro w hSw; (try dsimp only at hSw); go_simp) <;> (try with_reducible rfl))
          try simp only [Act.put, List.setIfInBounds_toArray, List.set_cons_zero, List.set_cons_succ]
          refine wpAnyH_take (i := 3) (oi := { dst := some 109, op := Op.pick (Operand.tmp 107) (Operand.tmp 108) (Operand.const (Value.bool false)), type := _, pos := _, after := _, guard := none }) (v := ?_) rfl (by kernel_rfl) (by kernel_rfl) (by kernel_rfl) (fun _ _ _ h => h) (Or.inl ⟨by rfl, ?_⟩) (by assumption) ?_
          rotate_left 1
          · ((intro w hSw; (try dsimp only at hSw); go_simp) <;> (try with_reducible rfl))
          try simp only [Act.put, List.setIfInBounds_toArray, List.set_cons_zero, List.set_cons_succ]
          refine wpAnyH_take (i := 4) (oi := { dst := some 110, op := Op.move (Operand.tmp 109), type := _, pos := _, after := _, guard := none }) (v := ?_) rfl (by kernel_rfl) (by kernel_rfl) (by kernel_rfl) (fun _ _ _ h => h) (Or.inl ⟨by rfl, ?_⟩) (by assumption) ?_
          rotate_left 1
          · ((intro w hSw; (try dsimp only at hSw); go_simp) <;> (try with_reducible rfl))
          try simp only [Act.put, List.setIfInBounds_toArray, List.set_cons_zero, List.set_cons_succ]
          refine wpAnyH_take (i := 5) (oi := { dst := some 111, op := Op.move (Operand.tmp 17), type := _, pos := _, after := _, guard := some (4, true) }) (v := ?_) rfl (by kernel_rfl) (by kernel_rfl) (by kernel_rfl) (fun _ _ _ h => h) (Or.inl ⟨by rfl, ?_⟩) (by assumption) ?_
          rotate_left 1
          · ((intro w hSw; (try dsimp only at hSw); go_simp) <;> (try with_reducible rfl))
          try simp only [Act.put, List.setIfInBounds_toArray, List.set_cons_zero, List.set_cons_succ]
          refine wpAnyH_take (i := 6) (oi := { dst := some 112, op := Op.pick (Operand.tmp 110) (Operand.tmp 111) (Operand.const (Value.bool false)), type := _, pos := _, after := _, guard := none }) (v := ?_) rfl (by kernel_rfl) (by kernel_rfl) (by kernel_rfl) (fun _ _ _ h => h) (Or.inl ⟨by rfl, ?_⟩) (by assumption) ?_
          rotate_left 1
          · ((intro w hSw; (try dsimp only at hSw); go_simp) <;> (try with_reducible rfl))
          try simp only [Act.put, List.setIfInBounds_toArray, List.set_cons_zero, List.set_cons_succ]
          refine wpAnyH_take (i := 7) (oi := { dst := some 113, op := Op.move (Operand.tmp 112), type := _, pos := _, after := _, guard := none }) (v := ?_) rfl (by kernel_rfl) (by kernel_rfl) (by kernel_rfl) (fun _ _ _ h => h) (Or.inl ⟨by rfl, ?_⟩) (by assumption) ?_
          rotate_left 1
          · ((intro w hSw; (try dsimp only at hSw); go_simp) <;> (try with_reducible rfl))
          try simp only [Act.put, List.setIfInBounds_toArray, List.set_cons_zero, List.set_cons_succ]
          refine wpAnyH_take (i := 8) (oi := { dst := some 114, op := Op.load _ (Operand.tmp 16), type := _, pos := _, after := _, guard := some (7, true) }) (v := ?_) rfl (by kernel_rfl) (by kernel_rfl) (by kernel_rfl) (fun _ _ _ h => h) (Or.inl ⟨by rfl, ?_⟩) (by assumption) ?_
          rotate_left 1
          · ((intro w hSw; (try dsimp only at hSw); go_simp) <;> (try with_reducible rfl))
          try simp only [Act.put, List.setIfInBounds_toArray, List.set_cons_zero, List.set_cons_succ]
          refine wpAnyH_take (i := 9) (oi := { dst := some 115, op := Op.load _ (Operand.tmp 10), type := _, pos := _, after := _, guard := some (7, true) }) (v := ?_) rfl (by kernel_rfl) (by kernel_rfl) (by kernel_rfl) (fun _ _ _ h => h) (Or.inl ⟨by rfl, ?_⟩) (by assumption) ?_
          rotate_left 1
          · ((intro w hSw; (try dsimp only at hSw); go_simp) <;> (try with_reducible rfl))
          try simp only [Act.put, List.setIfInBounds_toArray, List.set_cons_zero, List.set_cons_succ]
          refine wpAnyH_ready (rs := [10]) (by kernel_rfl) (by simp) ?_
          refine AllReadyH.cons (o := { dst := some 116, op := Op.call _, type := _, pos := _, after := _, guard := some (7, true) }) rfl (fun K hK => ?_) AllReadyH.nil
          go_simp
          go_at_call 19; with_reducible refine (H_sm1.out _ (by assumption)).mono ?_; rintro _ u1 ⟨rfl, hbn⟩; have hcs := H_more.out _ _ (by assumption) hbn
          try go_wp2_with fail
          refine hK.out _ _ ?_ (fun hHeld2 => ?_)
          · try dsimp only
            first | assumption | exact H_more.out _ _ H_S.out ((Below.refl _ _).drew) | exact H_more.out _ _ (by assumption) (by assumption)
          clear hK K hHeld1
          try simp only [Act.put, List.setIfInBounds_toArray, List.set_cons_zero, List.set_cons_succ]
          refine wpAnyH_take (i := 11) (oi := { dst := some 117, op := Op.pick (Operand.tmp 113) (Operand.tmp 116) (Operand.const (Value.bool false)), type := _, pos := _, after := _, guard := none }) (v := ?_) rfl (by kernel_rfl) (by kernel_rfl) (by kernel_rfl) (fun _ _ _ h => h) (Or.inl ⟨by rfl, ?_⟩) (by assumption) ?_
          rotate_left 1
          · ((intro w hSw; (try dsimp only at hSw); go_simp) <;> (try with_reducible rfl))
          try simp only [Act.put, List.setIfInBounds_toArray, List.set_cons_zero, List.set_cons_succ]
          refine wpAnyH_take (i := 12) (oi := { dst := some 118, op := Op.move (Operand.tmp 117), type := _, pos := _, after := _, guard := none }) (v := ?_) rfl (by kernel_rfl) (by kernel_rfl) (by kernel_rfl) (fun _ _ _ h => h) (Or.inl ⟨by rfl, ?_⟩) (by assumption) ?_
          rotate_left 1
          · ((intro w hSw; (try dsimp only at hSw); go_simp) <;> (try with_reducible rfl))
          try simp only [Act.put, List.setIfInBounds_toArray, List.set_cons_zero, List.set_cons_succ]
          refine wpAnyH_take (i := 13) (oi := { dst := some 119, op := Op.move (Operand.tmp 21), type := _, pos := _, after := _, guard := some (12, true) }) (v := ?_) rfl (by kernel_rfl) (by kernel_rfl) (by kernel_rfl) (fun _ _ _ h => h) (Or.inl ⟨by rfl, ?_⟩) (by assumption) ?_
          rotate_left 1
          · ((intro w hSw; (try dsimp only at hSw); go_simp) <;> (try with_reducible rfl))
          try simp only [Act.put, List.setIfInBounds_toArray, List.set_cons_zero, List.set_cons_succ]
          refine wpAnyH_take (i := 14) (oi := { dst := some 120, op := Op.pick (Operand.tmp 118) (Operand.tmp 119) (Operand.const (Value.bool false)), type := _, pos := _, after := _, guard := none }) (v := ?_) rfl (by kernel_rfl) (by kernel_rfl) (by kernel_rfl) (fun _ _ _ h => h) (Or.inl ⟨by rfl, ?_⟩) (by assumption) ?_
          rotate_left 1
          · ((intro w hSw; (try dsimp only at hSw); go_simp) <;> (try with_reducible rfl))
          try simp only [Act.put, List.setIfInBounds_toArray, List.set_cons_zero, List.set_cons_succ]
          refine wpAnyH_take (i := 15) (oi := { dst := some 121, op := Op.move (Operand.tmp 120), type := _, pos := _, after := _, guard := none }) (v := ?_) rfl (by kernel_rfl) (by kernel_rfl) (by kernel_rfl) (fun _ _ _ h => h) (Or.inl ⟨by rfl, ?_⟩) (by assumption) ?_
          rotate_left 1
          · ((intro w hSw; (try dsimp only at hSw); go_simp) <;> (try with_reducible rfl))
          try simp only [Act.put, List.setIfInBounds_toArray, List.set_cons_zero, List.set_cons_succ]
          refine wpAnyH_take (i := 16) (oi := { dst := some 122, op := Op.move (Operand.tmp 18), type := _, pos := _, after := _, guard := some (15, true) }) (v := ?_) rfl (by kernel_rfl) (by kernel_rfl) (by kernel_rfl) (fun _ _ _ h => h) (Or.inl ⟨by rfl, ?_⟩) (by assumption) ?_
          rotate_left 1
          · ((intro w hSw; (try dsimp only at hSw); go_simp) <;> (try with_reducible rfl))
          try simp only [Act.put, List.setIfInBounds_toArray, List.set_cons_zero, List.set_cons_succ]
          refine wpAnyH_take (i := 17) (oi := { dst := some 123, op := Op.unOp UnOp.not _ (Operand.tmp 122), type := _, pos := _, after := _, guard := some (15, true) }) (v := ?_) rfl (by kernel_rfl) (by kernel_rfl) (by kernel_rfl) (fun _ _ _ h => h) (Or.inl ⟨by rfl, ?_⟩) (by assumption) ?_
          rotate_left 1
          · ((intro w hSw; (try dsimp only at hSw); go_simp) <;> (try with_reducible rfl))
          try simp only [Act.put, List.setIfInBounds_toArray, List.set_cons_zero, List.set_cons_succ]
          refine wpAnyH_take (i := 18) (oi := { dst := some 124, op := Op.move (Operand.tmp 123), type := _, pos := _, after := _, guard := some (15, true) }) (v := ?_) rfl (by kernel_rfl) (by kernel_rfl) (by kernel_rfl) (fun _ _ _ h => h) (Or.inl ⟨by rfl, ?_⟩) (by assumption) ?_
          rotate_left 1
          · ((intro w hSw; (try dsimp only at hSw); go_simp) <;> (try with_reducible rfl))
          try simp only [Act.put, List.setIfInBounds_toArray, List.set_cons_zero, List.set_cons_succ]
          refine wpAnyH_take (i := 19) (oi := { dst := some 125, op := Op.move (Operand.tmp 23), type := _, pos := _, after := _, guard := some (18, false) }) (v := undef) rfl (by kernel_rfl) (by kernel_rfl) (by kernel_rfl) (fun _ _ _ h => h) (Or.inr ⟨by rfl, rfl⟩) (by assumption) ?_
          try simp only [Act.put, List.setIfInBounds_toArray, List.set_cons_zero, List.set_cons_succ]
          refine wpAnyH_take (i := 20) (oi := { dst := some 126, op := Op.move (Operand.tmp 125), type := _, pos := _, after := _, guard := some (18, false) }) (v := undef) rfl (by kernel_rfl) (by kernel_rfl) (by kernel_rfl) (fun _ _ _ h => h) (Or.inr ⟨by rfl, rfl⟩) (by assumption) ?_
          try simp only [Act.put, List.setIfInBounds_toArray, List.set_cons_zero, List.set_cons_succ]
          refine wpAnyH_take (i := 21) (oi := { dst := some 127, op := Op.load _ (Operand.tmp 20), type := _, pos := _, after := _, guard := some (20, true) }) (v := undef) rfl (by kernel_rfl) (by kernel_rfl) (by kernel_rfl) (fun _ _ _ h => h) (Or.inr ⟨by rfl, rfl⟩) (by assumption) ?_
          try simp only [Act.put, List.setIfInBounds_toArray, List.set_cons_zero, List.set_cons_succ]
          refine wpAnyH_take (i := 22) (oi := { dst := some 128, op := Op.load _ (Operand.tmp 22), type := _, pos := _, after := _, guard := some (20, true) }) (v := undef) rfl (by kernel_rfl) (by kernel_rfl) (by kernel_rfl) (fun _ _ _ h => h) (Or.inr ⟨by rfl, rfl⟩) (by assumption) ?_
          try simp only [Act.put, List.setIfInBounds_toArray, List.set_cons_zero, List.set_cons_succ]
          refine wpAnyH_take (i := 23) (oi := { dst := some 129, op := Op.call _, type := _, pos := _, after := _, guard := some (20, true) }) (v := undef) rfl (by kernel_rfl) (by kernel_rfl) (by kernel_rfl) (fun _ _ _ h => h) (Or.inr ⟨by rfl, rfl⟩) (by assumption) ?_
          try simp only [Act.put, List.setIfInBounds_toArray, List.set_cons_zero, List.set_cons_succ]
          refine wpAnyH_take (i := 24) (oi := { dst := some 130, op := Op.pick (Operand.tmp 126) (Operand.tmp 129) (Operand.const (Value.bool false)), type := _, pos := _, after := _, guard := some (18, false) }) (v := undef) rfl (by kernel_rfl) (by kernel_rfl) (by kernel_rfl) (fun _ _ _ h => h) (Or.inr ⟨by rfl, rfl⟩) (by assumption) ?_
          try simp only [Act.put, List.setIfInBounds_toArray, List.set_cons_zero, List.set_cons_succ]
          refine wpAnyH_take (i := 25) (oi := { dst := some 131, op := Op.pick (Operand.tmp 124) (Operand.const (Value.bool true)) (Operand.tmp 130), type := _, pos := _, after := _, guard := some (15, true) }) (v := ?_) rfl (by kernel_rfl) (by kernel_rfl) (by kernel_rfl) (fun _ _ _ h => h) (Or.inl ⟨by rfl, ?_⟩) (by assumption) ?_
          rotate_left 1
          · ((intro w hSw; (try dsimp only at hSw); go_simp) <;> (try with_reducible rfl))
          try simp only [Act.put, List.setIfInBounds_toArray, List.set_cons_zero, List.set_cons_succ]
          refine wpAnyH_take (i := 26) (oi := { dst := some 132, op := Op.pick (Operand.tmp 121) (Operand.tmp 131) (Operand.const (Value.bool false)), type := _, pos := _, after := _, guard := none }) (v := ?_) rfl (by kernel_rfl) (by kernel_rfl) (by kernel_rfl) (fun _ _ _ h => h) (Or.inl ⟨by rfl, ?_⟩) (by assumption) ?_
          rotate_left 1
          · ((intro w hSw; (try dsimp only at hSw); go_simp) <;> (try with_reducible rfl))
          try simp only [Act.put, List.setIfInBounds_toArray, List.set_cons_zero, List.set_cons_succ]
          refine wpAnyH_take (i := 27) (oi := { dst := some 133, op := Op.move (Operand.tmp 132), type := _, pos := _, after := _, guard := none }) (v := ?_) rfl (by kernel_rfl) (by kernel_rfl) (by kernel_rfl) (fun _ _ _ h => h) (Or.inl ⟨by rfl, ?_⟩) (by assumption) ?_
          rotate_left 1
          · ((intro w hSw; (try dsimp only at hSw); go_simp) <;> (try with_reducible rfl))
          try simp only [Act.put, List.setIfInBounds_toArray, List.set_cons_zero, List.set_cons_succ]
          refine wpAnyH_take (i := 28) (oi := { dst := some 134, op := Op.load _ (Operand.tmp 14), type := _, pos := _, after := _, guard := some (27, true) }) (v := ?_) rfl (by kernel_rfl) (by kernel_rfl) (by kernel_rfl) (fun _ _ _ h => h) (Or.inl ⟨by rfl, ?_⟩) (by assumption) ?_
          rotate_left 1
          · ((intro w hSw; (try dsimp only at hSw); go_simp) <;> (try with_reducible rfl))
          try simp only [Act.put, List.setIfInBounds_toArray, List.set_cons_zero, List.set_cons_succ]
          refine wpAnyH_take (i := 30) (oi := { dst := some 136, op := Op.load _ (Operand.tmp 9), type := _, pos := _, after := _, guard := some (27, true) }) (v := ?_) rfl (by kernel_rfl) (by kernel_rfl) (by kernel_rfl) (fun _ _ _ h => h) (Or.inl ⟨by rfl, ?_⟩) (by assumption) ?_
          rotate_left 1
          · ((intro w hSw; (try dsimp only at hSw); go_simp) <;> (try with_reducible rfl))
          try simp only [Act.put, List.setIfInBounds_toArray, List.set_cons_zero, List.set_cons_succ]
          refine wpAnyH_take (i := 32) (oi := { dst := some 138, op := Op.load _ (Operand.tmp 24), type := _, pos := _, after := _, guard := some (27, true) }) (v := ?_) rfl (by kernel_rfl) (by kernel_rfl) (by kernel_rfl) (fun _ _ _ h => h) (Or.inl ⟨by rfl, ?_⟩) (by assumption) ?_
          rotate_left 1
          · ((intro w hSw; (try dsimp only at hSw); go_simp) <;> (try with_reducible rfl))
          try simp only [Act.put, List.setIfInBounds_toArray, List.set_cons_zero, List.set_cons_succ]
          refine wpAnyH_take (i := 35) (oi := { dst := some 141, op := Op.load _ (Operand.tmp 10), type := _, pos := _, after := _, guard := some (27, true) }) (v := ?_) rfl (by kernel_rfl) (by kernel_rfl) (by kernel_rfl) (fun _ _ _ h => h) (Or.inl ⟨by rfl, ?_⟩) (by assumption) ?_
          rotate_left 1
          · ((intro w hSw; (try dsimp only at hSw); go_simp) <;> (try with_reducible rfl))
          try simp only [Act.put, List.setIfInBounds_toArray, List.set_cons_zero, List.set_cons_succ]
          refine wpAnyH_ready (rs := [29]) (by kernel_rfl) (by simp) ?_
          refine AllReadyH.cons (o := { dst := some 135, op := Op.call _, type := _, pos := _, after := _, guard := some (27, true) }) rfl (fun K hK => ?_) AllReadyH.nil
          go_simp
          go_at_call 20; with_reducible refine (H_c1.out _ (by assumption)).mono ?_; rintro _ u1 ⟨rfl, hbn⟩; have hcs := H_more.out _ _ (by assumption) hbn
          try go_wp2_with fail
          refine hK.out _ _ ?_ (fun hHeld3 => ?_)
          · try dsimp only
            first | assumption | exact H_more.out _ _ H_S.out ((Below.refl _ _).drew) | exact H_more.out _ _ (by assumption) (by assumption)
          clear hK K hHeld2
          try simp only [Act.put, List.setIfInBounds_toArray, List.set_cons_zero, List.set_cons_succ]
          refine wpAnyH_ready (rs := [31]) (by kernel_rfl) (by simp) ?_
          refine AllReadyH.cons (o := { dst := some 137, op := Op.call _, type := _, pos := _, after := _, guard := some (27, true) }) rfl (fun K hK => ?_) AllReadyH.nil
          go_simp
          go_at_call 20; with_reducible refine (H_c2.out _ (by assumption)).mono ?_; rintro _ u1 ⟨rfl, hbn⟩; have hcs := H_more.out _ _ (by assumption) hbn
          try go_wp2_with fail
          refine hK.out _ _ ?_ (fun hHeld4 => ?_)
          · try dsimp only
            first | assumption | exact H_more.out _ _ H_S.out ((Below.refl _ _).drew) | exact H_more.out _ _ (by assumption) (by assumption)
          clear hK K hHeld3
          try simp only [Act.put, List.setIfInBounds_toArray, List.set_cons_zero, List.set_cons_succ]
          refine wpAnyH_ready (rs := [33]) (by kernel_rfl) (by simp) ?_
          refine AllReadyH.cons (o := { dst := some 139, op := Op.call _, type := _, pos := _, after := _, guard := some (27, true) }) rfl (fun K hK => ?_) AllReadyH.nil
          go_simp
          go_at_call 20; with_reducible refine (H_c3.out _ (by assumption)).mono ?_; rintro _ u1 ⟨rfl, hbn⟩; have hcs := H_more.out _ _ (by assumption) hbn
          try go_wp2_with fail
          refine hK.out _ _ ?_ (fun hHeld5 => ?_)
          · try dsimp only
            first | assumption | exact H_more.out _ _ H_S.out ((Below.refl _ _).drew) | exact H_more.out _ _ (by assumption) (by assumption)
          clear hK K hHeld4
          try simp only [Act.put, List.setIfInBounds_toArray, List.set_cons_zero, List.set_cons_succ]
          refine wpAnyH_take (i := 34) (oi := { dst := some 140, op := Op.binOp BinOp.sub _ (Operand.tmp 137) (Operand.tmp 139) _, type := _, pos := _, after := _, guard := some (27, true) }) (v := ?_) rfl (by kernel_rfl) (by kernel_rfl) (by kernel_rfl) (fun _ _ _ h => h) (Or.inl ⟨by rfl, ?_⟩) (by assumption) ?_
          rotate_left 1
          · ((intro w hSw; (try dsimp only at hSw); go_simp) <;> (try with_reducible rfl))
          try simp only [Act.put, List.setIfInBounds_toArray, List.set_cons_zero, List.set_cons_succ]
          refine wpAnyH_ready (rs := [36]) (by kernel_rfl) (by simp) ?_
          refine AllReadyH.cons (o := { dst := some 142, op := Op.call _, type := _, pos := _, after := _, guard := some (27, true) }) rfl (fun K hK => ?_) AllReadyH.nil
          go_simp
          go_at_call 20; with_reducible refine (H_c4.out _ (by assumption)).mono ?_; rintro _ u1 ⟨rfl, hbn⟩; have hcs := H_more.out _ _ (by assumption) hbn
          try go_wp2_with fail
          refine hK.out _ _ ?_ (fun hHeld6 => ?_)
          · try dsimp only
            first | assumption | exact H_more.out _ _ H_S.out ((Below.refl _ _).drew) | exact H_more.out _ _ (by assumption) (by assumption)
          clear hK K hHeld5
          try simp only [Act.put, List.setIfInBounds_toArray, List.set_cons_zero, List.set_cons_succ]
          refine wpAnyH_take (i := 37) (oi := { dst := some 143, op := Op.binOp BinOp.add _ (Operand.tmp 140) (Operand.tmp 142) _, type := _, pos := _, after := _, guard := some (27, true) }) (v := ?_) rfl (by kernel_rfl) (by kernel_rfl) (by kernel_rfl) (fun _ _ _ h => h) (Or.inl ⟨by rfl, ?_⟩) (by assumption) ?_
          rotate_left 1
          · ((intro w hSw; (try dsimp only at hSw); go_simp) <;> (try with_reducible rfl))
          try simp only [Act.put, List.setIfInBounds_toArray, List.set_cons_zero, List.set_cons_succ]
          refine wpAnyH_take (i := 38) (oi := { dst := some 144, op := Op.binOp BinOp.eql _ (Operand.tmp 135) (Operand.tmp 143) _, type := _, pos := _, after := _, guard := some (27, true) }) (v := ?_) rfl (by kernel_rfl) (by kernel_rfl) (by kernel_rfl) (fun _ _ _ h => h) (Or.inl ⟨by rfl, ?_⟩) (by assumption) ?_
          rotate_left 1
          · ((intro w hSw; (try dsimp only at hSw); go_simp) <;> (try with_reducible rfl))
          try simp only [Act.put, List.setIfInBounds_toArray, List.set_cons_zero, List.set_cons_succ]
          refine wpAnyH_take (i := 39) (oi := { dst := some 145, op := Op.pick (Operand.tmp 133) (Operand.tmp 144) (Operand.const (Value.bool false)), type := _, pos := _, after := _, guard := none }) (v := ?_) rfl (by kernel_rfl) (by kernel_rfl) (by kernel_rfl) (fun _ _ _ h => h) (Or.inl ⟨by rfl, ?_⟩) (by assumption) ?_
          rotate_left 1
          · ((intro w hSw; (try dsimp only at hSw); go_simp) <;> (try with_reducible rfl))
          try simp only [Act.put, List.setIfInBounds_toArray, List.set_cons_zero, List.set_cons_succ]
          refine wpAnyH_take (i := 40) (oi := { dst := some 146, op := Op.move (Operand.tmp 145), type := _, pos := _, after := _, guard := none }) (v := ?_) rfl (by kernel_rfl) (by kernel_rfl) (by kernel_rfl) (fun _ _ _ h => h) (Or.inl ⟨by rfl, ?_⟩) (by assumption) ?_
          rotate_left 1
          · ((intro w hSw; (try dsimp only at hSw); go_simp) <;> (try with_reducible rfl))
          try simp only [Act.put, List.setIfInBounds_toArray, List.set_cons_zero, List.set_cons_succ]
          refine wpAnyH_take (i := 41) (oi := { dst := some 147, op := Op.load _ (Operand.tmp 9), type := _, pos := _, after := _, guard := some (40, true) }) (v := ?_) rfl (by kernel_rfl) (by kernel_rfl) (by kernel_rfl) (fun _ _ _ h => h) (Or.inl ⟨by rfl, ?_⟩) (by assumption) ?_
          rotate_left 1
          · ((intro w hSw; (try dsimp only at hSw); go_simp) <;> (try with_reducible rfl))
          try simp only [Act.put, List.setIfInBounds_toArray, List.set_cons_zero, List.set_cons_succ]
          refine wpAnyH_take (i := 42) (oi := { dst := some 148, op := Op.move (Operand.tmp 0), type := _, pos := _, after := _, guard := some (40, true) }) (v := ?_) rfl (by kernel_rfl) (by kernel_rfl) (by kernel_rfl) (fun _ _ _ h => h) (Or.inl ⟨by rfl, ?_⟩) (by assumption) ?_
          rotate_left 1
          · ((intro w hSw; (try dsimp only at hSw); go_simp) <;> (try with_reducible rfl))
          try simp only [Act.put, List.setIfInBounds_toArray, List.set_cons_zero, List.set_cons_succ]
          refine wpAnyH_ready (rs := [43]) (by kernel_rfl) (by simp) ?_
          refine AllReadyH.cons (o := { dst := some 149, op := Op.call _, type := _, pos := _, after := _, guard := some (40, true) }) rfl (fun K hK => ?_) AllReadyH.nil
          go_simp
          go_at_call 11; with_reducible refine (H_tr.out _ (by assumption)).mono ?_; rintro _ u2 ⟨v2, rfl, hnd2, hbn2⟩; have hcs := H_more.out _ _ (by assumption) hbn2
          try go_wp2_with fail
          refine hK.out _ _ ?_ (fun hHeld7 => ?_)
          · try dsimp only
            first | assumption | exact H_more.out _ _ H_S.out ((Below.refl _ _).drew) | exact H_more.out _ _ (by assumption) (by assumption)
          clear hK K hHeld6
          try simp only [Act.put, List.setIfInBounds_toArray, List.set_cons_zero, List.set_cons_succ]
          refine wpAnyH_ready (rs := [44]) (by kernel_rfl) (by simp) ?_
          refine AllReadyH.cons (o := { dst := some 150, op := Op.call _, type := _, pos := _, after := _, guard := some (40, true) }) rfl (fun K hK => ?_) AllReadyH.nil
          go_simp
          go_at_call 19; with_reducible refine (H_sm3.out _ _ (by assumption) (by assumption)).mono ?_; rintro _ u3 ⟨rfl, hbn3⟩; have hcs := H_more.out _ _ (by assumption) hbn3
          try go_wp2_with fail
          refine hK.out _ _ ?_ (fun hHeld8 => ?_)
          · try dsimp only
            first | assumption | exact H_more.out _ _ H_S.out ((Below.refl _ _).drew) | exact H_more.out _ _ (by assumption) (by assumption)
          clear hK K hHeld7
          try simp only [Act.put, List.setIfInBounds_toArray, List.set_cons_zero, List.set_cons_succ]
          refine wpAnyH_take (i := 45) (oi := { dst := some 151, op := Op.pick (Operand.tmp 146) (Operand.tmp 150) (Operand.const (Value.bool false)), type := _, pos := _, after := _, guard := none }) (v := ?_) rfl (by kernel_rfl) (by kernel_rfl) (by kernel_rfl) (fun _ _ _ h => h) (Or.inl ⟨by rfl, ?_⟩) (by assumption) ?_
          rotate_left 1
          · ((intro w hSw; (try dsimp only at hSw); go_simp) <;> (try with_reducible rfl))
          try simp only [Act.put, List.setIfInBounds_toArray, List.set_cons_zero, List.set_cons_succ]
          refine wpAnyH_take (i := 46) (oi := { dst := some 8, op := Op.assign (Operand.tmp 151), type := _, pos := _, after := _, guard := none }) (v := ?_) rfl (by kernel_rfl) (by kernel_rfl) (by kernel_rfl) (fun _ _ _ h => h) (Or.inl ⟨by rfl, ?_⟩) (by assumption) ?_
          rotate_left 1
          · ((intro w hSw; (try dsimp only at hSw); go_simp) <;> (try with_reducible rfl))
          try simp only [Act.put, List.setIfInBounds_toArray, List.set_cons_zero, List.set_cons_succ]
          refine wpAnyH_done (by kernel_rfl) ?_ _
          have hHeld := hHeld8

          have hfin := (HZ.out _ hHeld.2).2.2.2.2.2.2.2.2.2
          go_wp2_with fail
          go_ret
          exact ⟨rfl, hfin⟩
      · have t1 : decide ((k : Int) < (lp : Int)) = false := by simp; omega
        go_upto_region 15 with fail
        obtain ⟨D, hD⟩ : ∃ D, parts (ints p) (ints q) = D := ⟨_, rfl⟩
        rw [hD]
        have h7 := (HALL11.out _ hb).2.2.2
        have h6 := HALL7.out _ h7
        obtain ⟨⟨hbx, _⟩, hndx, _⟩ := HALL.out _ h6
        have x0 := hbx.cell 0; have x1 := hbx.cell 1; have x2 := hbx.cell 2
        have hat := at_calls x (by have := HNA.out.2; omega) (ints q) _ _ _ hndx (HQI.out _ h7)
        rw [show x.at (ints q) = some a from HA.out] at hat
        have HAT2 := Lib.hid hat; have HB := Lib.hid hb; have HD := Lib.hid hD
        clear hat hb hD h7 h6 hbx hndx hpa2
        go_wp2_with fail
        refine HAT2.out.mono ?_
        rintro e w12 h12
        obtain ⟨v12, rfl, s12, rfl, hbd12, hb12⟩ : AtRes wr (some a) e w12 := h12
        obtain ⟨aa, ac, rfl⟩ := hbd12.slice
        obtain ⟨na, hna2⟩ : ∃ na, a.kids.len = na := ⟨_, rfl⟩
        have hk12 := hbd12.kids.toLt
        rw [hna2] at hk12 ⊢
        have HB12 := Lib.hid hb12; have HK12 := Lib.hid hk12
        clear hbd12 hb12 hk12 x0 x1 x2 hna2
        go_upto_region 16 with fail
        obtain ⟨W13, hW13⟩ : ∃ W13, w12.alloc (.cells #[.int .i64 a.k, .string a.t, .slice aa na ac] 24) = W13 := ⟨_, rfl⟩
        rw [hW13]
        have hb1213 : Below w12.heap.size w12 W13 := by rw [← hW13]; exact (Below.refl _ w12).alloc (Nat.le_refl _) _
        have ha13 : Blk W13 w12.heap.size 24 #[.int .i64 a.k, .string a.t, .slice aa na ac] := by rw [← hW13]; exact Blk.new w12 _ _
        have hnda : NdAt (Lt W13.heap.size) W13 a (.agg #[.int .i64 a.k, .string a.t, .slice aa na ac]) := (NdAt.mk (HK12.out.below hb1213 (Nat.le_refl _))).mono hb1213.size
        have hb13 : Below W11.heap.size W11 W13 := HB.out.trans ((HB12.out.trans (hb1213.mono HB12.out.size)).mono HB.out.size)
        obtain ⟨⟨hbm, _⟩, hndr, _, h7⟩ := HALL11.out W13 hb13
        have z0 := hbm.cell 0; have z1 := hbm.cell 1; have z2 := hbm.cell 2
        have hatb : Calls Tryd.prog 18 #[.agg #[.int .i64 r.k, .string r.t, .slice sa nr sc], .slice qa lq qc] W13 fun e w' => ∃ (K : Int) (Tt : ByteArray) (sb : Option Addr) (nb cbb : Nat) (f : Bool), e = .returned (.tuple #[.agg #[.int .i64 K, .string Tt, .slice sb nb cbb], .bool f]) ∧ Below W13.heap.size W13 w' ∧ (D = true → f = true ∧ K = a.k ∧ Tt = a.t ∧ KidsAt (Lt w'.heap.size) w' a.kids (.slice sb nb cbb)) := by
          refine (at_calls r (by have := HRW.out; omega) (ints q) W13 _ _ hndr (HQI.out W13 h7)).mono fun e w' h => ?_
          cases hra : r.at (ints q) with
          | none =>
            rw [hra] at h
            obtain ⟨rfl, hb⟩ := h
            refine ⟨0, ⟨#[]⟩, none, 0, 0, false, rfl, hb, fun hd => ?_⟩
            have := HRQ.out (ints q) (HD.out.trans hd)
            rw [hra, show x.at (ints q) = some a from HA.out] at this
            cases this
          | some b =>
            rw [hra] at h
            obtain ⟨v, rfl, s, rfl, hbd, hb⟩ := h
            obtain ⟨sb, cbb, rfl⟩ := hbd.slice
            refine ⟨_, _, sb, _, cbb, true, rfl, hb, fun hd => ?_⟩
            have := HRQ.out (ints q) (HD.out.trans hd)
            rw [hra, show x.at (ints q) = some a from HA.out] at this
            cases this
            exact ⟨rfl, rfl, rfl, hbd.kids.toLt⟩
        have HA13 := Lib.hid ha13; have HNDA := Lib.hid hnda; have HB13 := Lib.hid hb13; have HATB := Lib.hid hatb
        clear hW13 hb1213 ha13 hnda hb13 hbm hndr h7 hatb
        go_wp2_with fail
        refine HATB.out.mono ?_
        rintro e w14 ⟨K, Tt, sb, nb, cbb, f, rfl, hb14, hf⟩
        have HB14 := Lib.hid hb14; have HF := Lib.hid hf
        clear hb14 hf z0 z1 z2
        go_upto_region 17 with fail
        obtain ⟨W15, hW15⟩ : ∃ W15, w14.alloc (.cells #[.int .i64 K, .string Tt, .slice sb nb cbb] 24) = W15 := ⟨_, rfl⟩
        rw [hW15]
        have hb1415 : Below w14.heap.size w14 W15 := by rw [← hW15]; exact (Below.refl _ w14).alloc (Nat.le_refl _) _
        have hb1315 : Below W13.heap.size W13 W15 := HB14.out.trans (hb1415.mono HB14.out.size)
        have hbb15 : Blk W15 w14.heap.size 24 #[.int .i64 K, .string Tt, .slice sb nb cbb] := by rw [← hW15]; exact Blk.new w14 _ _
        have hndb : D = true → NdAt (Lt W15.heap.size) W15 a (.agg #[.int .i64 K, .string Tt, .slice sb nb cbb]) := fun hd => by
          obtain ⟨_, rfl, rfl, hk⟩ := HF.out hd
          exact (NdAt.mk (hk.below hb1415 (Nat.le_refl _))).mono hb1415.size
        have hb15 : Below W11.heap.size W11 W15 := HB13.out.trans (hb1315.mono HB13.out.size)
        have ha15 := HA13.out.own hb1315
        have hnda15 := (HNDA.out.below hb1315 (Nat.le_refl _)).mono hb1315.size
        have h7 := (HALL11.out W15 hb15).2.2.2
        have h6 := HALL7.out W15 h7
        obtain ⟨⟨hbx, _⟩, hndx, _⟩ := HALL.out W15 h6
        have x0 := hbx.cell 0; have x1 := hbx.cell 1; have x2 := hbx.cell 2
        have hat := at_calls x (by have := HNA.out.2; omega) (ints p) W15 _ _ hndx (HPI.out W15 h7)
        rw [show x.at (ints p) = some old from HOLD.out] at hat
        have HAT3 := Lib.hid hat; have HB15 := Lib.hid hb15; have HA15 := Lib.hid ha15; have HNDA15 := Lib.hid hnda15; have HBB15 := Lib.hid hbb15; have HNDB := Lib.hid hndb
        clear hW15 hb1415 hb1315 hbb15 hndb hb15 ha15 hnda15 h7 h6 hbx hndx hat
        go_wp2_with fail
        refine HAT3.out.mono ?_
        rintro e w16 h16
        obtain ⟨v16, rfl, s16, rfl, hbd16, hb16⟩ : AtRes W15 (some old) e w16 := h16
        obtain ⟨oa, oc, rfl⟩ := hbd16.slice
        obtain ⟨no, hno⟩ : ∃ no, old.kids.len = no := ⟨_, rfl⟩
        have hk16 := hbd16.kids.toLt
        rw [hno] at hk16 ⊢
        have HB16 := Lib.hid hb16; have HK16 := Lib.hid hk16
        clear hbd16 hb16 hk16 x0 x1 x2 hno
        go_upto_region 18 with fail
        obtain ⟨W17, hW17⟩ : ∃ W17, w16.alloc (.cells #[.int .i64 old.k, .string old.t, .slice oa no oc] 24) = W17 := ⟨_, rfl⟩
        rw [hW17]
        have hb1617 : Below w16.heap.size w16 W17 := by rw [← hW17]; exact (Below.refl _ w16).alloc (Nat.le_refl _) _
        have hb1517 : Below W15.heap.size W15 W17 := HB16.out.trans (hb1617.mono HB16.out.size)
        have ho17 : Blk W17 w16.heap.size 24 #[.int .i64 old.k, .string old.t, .slice oa no oc] := by rw [← hW17]; exact Blk.new w16 _ _
        have ha17 := HA15.out.own hb1517
        have hbb17 := HBB15.out.own hb1517
        have hb17 : Below W11.heap.size W11 W17 := HB15.out.trans (hb1517.mono HB15.out.size)
        have hz : ∀ W, Below W17.heap.size W17 W → NdAt (Lt W.heap.size) W x (.agg #[.int .i64 10, .string ⟨#[]⟩, .slice ao m cap]) ∧ NdAt (Lt W.heap.size) W y (.agg #[.int .i64 10, .string ⟨#[]⟩, .slice ab n cb]) ∧ NdAt (Lt W.heap.size) W r (.agg #[.int .i64 r.k, .string r.t, .slice sa nr sc]) ∧ NdAt (Lt W.heap.size) W y (.agg #[.int .i64 y.k, .string y.t, .slice ya ny yc]) ∧ NdAt (Lt W.heap.size) W a (.agg #[.int .i64 a.k, .string a.t, .slice aa na ac]) ∧ (D = true → NdAt (Lt W.heap.size) W a (.agg #[.int .i64 K, .string Tt, .slice sb nb cbb])) ∧ NdAt (Lt W.heap.size) W old (.agg #[.int .i64 old.k, .string old.t, .slice oa no oc]) ∧ Tabs T W ∧ BytesAt W u bs ∧ Below w.heap.size w W := fun W hW => by
          have hA := hb17.trans (hW.mono hb17.size)
          have hA7 := (HALL11.out W hA).2.2.2
          obtain ⟨_, g1, g2, g3, g4, g5⟩ := HALL.out W (HALL7.out W hA7)
          have h15 := hb1517.trans (hW.mono hb1517.size)
          exact ⟨g1, g2, (HALL11.out W hA).2.1, (HALL11.out W hA).2.2.1, (HNDA15.out.below h15 (Nat.le_refl _)).mono h15.size, fun hd => ((HNDB.out hd).below h15 (Nat.le_refl _)).mono h15.size, (NdAt.mk (HK16.out.below (hb1617.trans (hW.mono hb1617.size)) (Nat.le_refl _))).mono (hb1617.trans (hW.mono hb1617.size)).size, g3, g4, g5⟩
        have hbz : Below W6.heap.size W6 W17 ∧ Below W11.heap.size W11 W17 := ⟨HALL7.out W17 (HALL11.out W17 hb17).2.2.2, hb17⟩
        obtain ⟨co, hco⟩ : ∃ co, old.count = co := ⟨_, rfl⟩
        obtain ⟨cy, hcy⟩ : ∃ cy, y.count = cy := ⟨_, rfl⟩
        have hcr : (r.count : Int) = (c : Int) - (co : Int) + (cy : Int) := by have := HRC.out; have := HC.out; omega
        have hco2 : co ≤ 400 := by have := at_weight (ints p) (show x.at (ints p) = some old from HOLD.out); have := Nd.count_le old; have := HNA.out.2; omega
        have hcy2 : cy ≤ 200 := by have := Nd.count_le y; have := HNB.out.2; omega
        have i64w : ∀ z : Int, -9223372036854775808 ≤ z → z ≤ 9223372036854775807 → IntKind.i64.wrap z = z := fun z h1 h2 => by
          simp [IntKind.wrap, IntKind.bits, IntKind.signed]; omega
        have r1' : IntKind.i64.wrap ((c : Int) - (co : Int)) = (c : Int) - (co : Int) := i64w _ (by omega) (by omega)
        have r2' : IntKind.i64.wrap ((c : Int) - (co : Int) + (cy : Int)) = (c : Int) - (co : Int) + (cy : Int) := i64w _ (by omega) (by omega)
        have HO17 := Lib.hid ho17; have HA17 := Lib.hid ha17; have HBB17 := Lib.hid hbb17; have HZ := Lib.hid hz; have HBZ := Lib.hid hbz; have HCO := Lib.hid hco; have HCY := Lib.hid hcy; have HCR := Lib.hid hcr
        clear hW17 hb1617 hb1517 ho17 ha17 hbb17 hb17 hz hbz hco hcy hcr i64w
        cases D with
        | true =>
          try rw [HD.out]
          obtain ⟨rfl, rfl, rfl, _⟩ := HF.out rfl
          have hS : (fun u : World => (u.cell? ⟨w1.heap.size, 0, none⟩ = some (.int .i64 10) ∧ u.cell? ⟨w1.heap.size, 1, none⟩ = some (.string ⟨#[]⟩) ∧ u.cell? ⟨w1.heap.size, 2, none⟩ = some (.slice ao m cap) ∧ u.cell? ⟨w3.heap.size, 0, none⟩ = some (.int .i64 10) ∧ u.cell? ⟨w3.heap.size, 1, none⟩ = some (.string ⟨#[]⟩) ∧ u.cell? ⟨w3.heap.size, 2, none⟩ = some (.slice ab n cb) ∧ u.cell? ⟨w8.heap.size, 0, none⟩ = some (.int .i64 r.k) ∧ u.cell? ⟨w8.heap.size, 1, none⟩ = some (.string r.t) ∧ u.cell? ⟨w8.heap.size, 2, none⟩ = some (.slice sa nr sc) ∧ u.cell? ⟨w10.heap.size, 0, none⟩ = some (.int .i64 y.k) ∧ u.cell? ⟨w10.heap.size, 1, none⟩ = some (.string y.t) ∧ u.cell? ⟨w10.heap.size, 2, none⟩ = some (.slice ya ny yc) ∧ u.cell? ⟨w12.heap.size, 0, none⟩ = some (.int .i64 a.k) ∧ u.cell? ⟨w12.heap.size, 1, none⟩ = some (.string a.t) ∧ u.cell? ⟨w12.heap.size, 2, none⟩ = some (.slice aa na ac) ∧ u.cell? ⟨w14.heap.size, 0, none⟩ = some (.int .i64 a.k) ∧ u.cell? ⟨w14.heap.size, 1, none⟩ = some (.string a.t) ∧ u.cell? ⟨w14.heap.size, 2, none⟩ = some (.slice sb nb cbb) ∧ u.cell? ⟨w16.heap.size, 0, none⟩ = some (.int .i64 old.k) ∧ u.cell? ⟨w16.heap.size, 1, none⟩ = some (.string old.t) ∧ u.cell? ⟨w16.heap.size, 2, none⟩ = some (.slice oa no oc)) ∧ Below W17.heap.size W17 u) W17 := by
            obtain ⟨⟨g1, g2⟩, _⟩ := HALL.out W17 (HBZ.out).1
            obtain ⟨⟨g3, g4⟩, _⟩ := HALL11.out W17 (HBZ.out).2
            exact ⟨⟨g1.cell 0, g1.cell 1, g1.cell 2, g2.cell 0, g2.cell 1, g2.cell 2, g3.cell 0, g3.cell 1, g3.cell 2, g4.cell 0, g4.cell 1, g4.cell 2, HA17.out.cell 0, HA17.out.cell 1, HA17.out.cell 2, HBB17.out.cell 0, HBB17.out.cell 1, HBB17.out.cell 2, HO17.out.cell 0, HO17.out.cell 1, HO17.out.cell 2⟩, Below.refl _ _⟩
          have more : ∀ (u v : World), ((u.cell? ⟨w1.heap.size, 0, none⟩ = some (.int .i64 10) ∧ u.cell? ⟨w1.heap.size, 1, none⟩ = some (.string ⟨#[]⟩) ∧ u.cell? ⟨w1.heap.size, 2, none⟩ = some (.slice ao m cap) ∧ u.cell? ⟨w3.heap.size, 0, none⟩ = some (.int .i64 10) ∧ u.cell? ⟨w3.heap.size, 1, none⟩ = some (.string ⟨#[]⟩) ∧ u.cell? ⟨w3.heap.size, 2, none⟩ = some (.slice ab n cb) ∧ u.cell? ⟨w8.heap.size, 0, none⟩ = some (.int .i64 r.k) ∧ u.cell? ⟨w8.heap.size, 1, none⟩ = some (.string r.t) ∧ u.cell? ⟨w8.heap.size, 2, none⟩ = some (.slice sa nr sc) ∧ u.cell? ⟨w10.heap.size, 0, none⟩ = some (.int .i64 y.k) ∧ u.cell? ⟨w10.heap.size, 1, none⟩ = some (.string y.t) ∧ u.cell? ⟨w10.heap.size, 2, none⟩ = some (.slice ya ny yc) ∧ u.cell? ⟨w12.heap.size, 0, none⟩ = some (.int .i64 a.k) ∧ u.cell? ⟨w12.heap.size, 1, none⟩ = some (.string a.t) ∧ u.cell? ⟨w12.heap.size, 2, none⟩ = some (.slice aa na ac) ∧ u.cell? ⟨w14.heap.size, 0, none⟩ = some (.int .i64 a.k) ∧ u.cell? ⟨w14.heap.size, 1, none⟩ = some (.string a.t) ∧ u.cell? ⟨w14.heap.size, 2, none⟩ = some (.slice sb nb cbb) ∧ u.cell? ⟨w16.heap.size, 0, none⟩ = some (.int .i64 old.k) ∧ u.cell? ⟨w16.heap.size, 1, none⟩ = some (.string old.t) ∧ u.cell? ⟨w16.heap.size, 2, none⟩ = some (.slice oa no oc)) ∧ Below W17.heap.size W17 u) → Below u.heap.size u v → ((v.cell? ⟨w1.heap.size, 0, none⟩ = some (.int .i64 10) ∧ v.cell? ⟨w1.heap.size, 1, none⟩ = some (.string ⟨#[]⟩) ∧ v.cell? ⟨w1.heap.size, 2, none⟩ = some (.slice ao m cap) ∧ v.cell? ⟨w3.heap.size, 0, none⟩ = some (.int .i64 10) ∧ v.cell? ⟨w3.heap.size, 1, none⟩ = some (.string ⟨#[]⟩) ∧ v.cell? ⟨w3.heap.size, 2, none⟩ = some (.slice ab n cb) ∧ v.cell? ⟨w8.heap.size, 0, none⟩ = some (.int .i64 r.k) ∧ v.cell? ⟨w8.heap.size, 1, none⟩ = some (.string r.t) ∧ v.cell? ⟨w8.heap.size, 2, none⟩ = some (.slice sa nr sc) ∧ v.cell? ⟨w10.heap.size, 0, none⟩ = some (.int .i64 y.k) ∧ v.cell? ⟨w10.heap.size, 1, none⟩ = some (.string y.t) ∧ v.cell? ⟨w10.heap.size, 2, none⟩ = some (.slice ya ny yc) ∧ v.cell? ⟨w12.heap.size, 0, none⟩ = some (.int .i64 a.k) ∧ v.cell? ⟨w12.heap.size, 1, none⟩ = some (.string a.t) ∧ v.cell? ⟨w12.heap.size, 2, none⟩ = some (.slice aa na ac) ∧ v.cell? ⟨w14.heap.size, 0, none⟩ = some (.int .i64 a.k) ∧ v.cell? ⟨w14.heap.size, 1, none⟩ = some (.string a.t) ∧ v.cell? ⟨w14.heap.size, 2, none⟩ = some (.slice sb nb cbb) ∧ v.cell? ⟨w16.heap.size, 0, none⟩ = some (.int .i64 old.k) ∧ v.cell? ⟨w16.heap.size, 1, none⟩ = some (.string old.t) ∧ v.cell? ⟨w16.heap.size, 2, none⟩ = some (.slice oa no oc)) ∧ Below W17.heap.size W17 v) := fun u v h hb => by
            obtain ⟨⟨h0, h1, h2, h3, h4, h5, h6, h7, h8, h9, h10, h11, h12, h13, h14, h15, h16, h17, h18, h19, h20⟩, hz⟩ := h
            have q : ∀ {p : Addr} {x : Value}, u.cell? p = some x → v.cell? p = some x := fun hp => (hb.cell (World.block_lt_of_cell? u _ hp)).trans hp
            exact ⟨⟨q h0, q h1, q h2, q h3, q h4, q h5, q h6, q h7, q h8, q h9, q h10, q h11, q h12, q h13, q h14, q h15, q h16, q h17, q h18, q h19, q h20⟩, hz.trans (hb.mono hz.size)⟩
          have kn : ∀ (u : World), ((u.cell? ⟨w1.heap.size, 0, none⟩ = some (.int .i64 10) ∧ u.cell? ⟨w1.heap.size, 1, none⟩ = some (.string ⟨#[]⟩) ∧ u.cell? ⟨w1.heap.size, 2, none⟩ = some (.slice ao m cap) ∧ u.cell? ⟨w3.heap.size, 0, none⟩ = some (.int .i64 10) ∧ u.cell? ⟨w3.heap.size, 1, none⟩ = some (.string ⟨#[]⟩) ∧ u.cell? ⟨w3.heap.size, 2, none⟩ = some (.slice ab n cb) ∧ u.cell? ⟨w8.heap.size, 0, none⟩ = some (.int .i64 r.k) ∧ u.cell? ⟨w8.heap.size, 1, none⟩ = some (.string r.t) ∧ u.cell? ⟨w8.heap.size, 2, none⟩ = some (.slice sa nr sc) ∧ u.cell? ⟨w10.heap.size, 0, none⟩ = some (.int .i64 y.k) ∧ u.cell? ⟨w10.heap.size, 1, none⟩ = some (.string y.t) ∧ u.cell? ⟨w10.heap.size, 2, none⟩ = some (.slice ya ny yc) ∧ u.cell? ⟨w12.heap.size, 0, none⟩ = some (.int .i64 a.k) ∧ u.cell? ⟨w12.heap.size, 1, none⟩ = some (.string a.t) ∧ u.cell? ⟨w12.heap.size, 2, none⟩ = some (.slice aa na ac) ∧ u.cell? ⟨w14.heap.size, 0, none⟩ = some (.int .i64 a.k) ∧ u.cell? ⟨w14.heap.size, 1, none⟩ = some (.string a.t) ∧ u.cell? ⟨w14.heap.size, 2, none⟩ = some (.slice sb nb cbb) ∧ u.cell? ⟨w16.heap.size, 0, none⟩ = some (.int .i64 old.k) ∧ u.cell? ⟨w16.heap.size, 1, none⟩ = some (.string old.t) ∧ u.cell? ⟨w16.heap.size, 2, none⟩ = some (.slice oa no oc)) ∧ Below W17.heap.size W17 u) → Calls Tryd.prog 10 #[] u fun e w' => e = .returned (.bool true) ∧ Below u.heap.size u w' := fun _ h => known_calls T _ (HZ.out _ h.2).2.2.2.2.2.2.2.1
          have sm1 : ∀ (u : World), ((u.cell? ⟨w1.heap.size, 0, none⟩ = some (.int .i64 10) ∧ u.cell? ⟨w1.heap.size, 1, none⟩ = some (.string ⟨#[]⟩) ∧ u.cell? ⟨w1.heap.size, 2, none⟩ = some (.slice ao m cap) ∧ u.cell? ⟨w3.heap.size, 0, none⟩ = some (.int .i64 10) ∧ u.cell? ⟨w3.heap.size, 1, none⟩ = some (.string ⟨#[]⟩) ∧ u.cell? ⟨w3.heap.size, 2, none⟩ = some (.slice ab n cb) ∧ u.cell? ⟨w8.heap.size, 0, none⟩ = some (.int .i64 r.k) ∧ u.cell? ⟨w8.heap.size, 1, none⟩ = some (.string r.t) ∧ u.cell? ⟨w8.heap.size, 2, none⟩ = some (.slice sa nr sc) ∧ u.cell? ⟨w10.heap.size, 0, none⟩ = some (.int .i64 y.k) ∧ u.cell? ⟨w10.heap.size, 1, none⟩ = some (.string y.t) ∧ u.cell? ⟨w10.heap.size, 2, none⟩ = some (.slice ya ny yc) ∧ u.cell? ⟨w12.heap.size, 0, none⟩ = some (.int .i64 a.k) ∧ u.cell? ⟨w12.heap.size, 1, none⟩ = some (.string a.t) ∧ u.cell? ⟨w12.heap.size, 2, none⟩ = some (.slice aa na ac) ∧ u.cell? ⟨w14.heap.size, 0, none⟩ = some (.int .i64 a.k) ∧ u.cell? ⟨w14.heap.size, 1, none⟩ = some (.string a.t) ∧ u.cell? ⟨w14.heap.size, 2, none⟩ = some (.slice sb nb cbb) ∧ u.cell? ⟨w16.heap.size, 0, none⟩ = some (.int .i64 old.k) ∧ u.cell? ⟨w16.heap.size, 1, none⟩ = some (.string old.t) ∧ u.cell? ⟨w16.heap.size, 2, none⟩ = some (.slice oa no oc)) ∧ Below W17.heap.size W17 u) → Calls Tryd.prog 19 #[.agg #[.int .i64 y.k, .string y.t, .slice ya ny yc], .agg #[.int .i64 10, .string ⟨#[]⟩, .slice ab n cb]] u fun e w' => e = .returned (.bool true) ∧ Below u.heap.size u w' := fun u h => by
            have := same_ok y y u _ _ (HZ.out u h.2).2.2.2.1 (HZ.out u h.2).2.1
            rw [Nd.same_self] at this
            exact this
          have sm2 : ∀ (u : World), ((u.cell? ⟨w1.heap.size, 0, none⟩ = some (.int .i64 10) ∧ u.cell? ⟨w1.heap.size, 1, none⟩ = some (.string ⟨#[]⟩) ∧ u.cell? ⟨w1.heap.size, 2, none⟩ = some (.slice ao m cap) ∧ u.cell? ⟨w3.heap.size, 0, none⟩ = some (.int .i64 10) ∧ u.cell? ⟨w3.heap.size, 1, none⟩ = some (.string ⟨#[]⟩) ∧ u.cell? ⟨w3.heap.size, 2, none⟩ = some (.slice ab n cb) ∧ u.cell? ⟨w8.heap.size, 0, none⟩ = some (.int .i64 r.k) ∧ u.cell? ⟨w8.heap.size, 1, none⟩ = some (.string r.t) ∧ u.cell? ⟨w8.heap.size, 2, none⟩ = some (.slice sa nr sc) ∧ u.cell? ⟨w10.heap.size, 0, none⟩ = some (.int .i64 y.k) ∧ u.cell? ⟨w10.heap.size, 1, none⟩ = some (.string y.t) ∧ u.cell? ⟨w10.heap.size, 2, none⟩ = some (.slice ya ny yc) ∧ u.cell? ⟨w12.heap.size, 0, none⟩ = some (.int .i64 a.k) ∧ u.cell? ⟨w12.heap.size, 1, none⟩ = some (.string a.t) ∧ u.cell? ⟨w12.heap.size, 2, none⟩ = some (.slice aa na ac) ∧ u.cell? ⟨w14.heap.size, 0, none⟩ = some (.int .i64 a.k) ∧ u.cell? ⟨w14.heap.size, 1, none⟩ = some (.string a.t) ∧ u.cell? ⟨w14.heap.size, 2, none⟩ = some (.slice sb nb cbb) ∧ u.cell? ⟨w16.heap.size, 0, none⟩ = some (.int .i64 old.k) ∧ u.cell? ⟨w16.heap.size, 1, none⟩ = some (.string old.t) ∧ u.cell? ⟨w16.heap.size, 2, none⟩ = some (.slice oa no oc)) ∧ Below W17.heap.size W17 u) → Calls Tryd.prog 19 #[.agg #[.int .i64 a.k, .string a.t, .slice aa na ac], .agg #[.int .i64 a.k, .string a.t, .slice sb nb cbb]] u fun e w' => e = .returned (.bool true) ∧ Below u.heap.size u w' := fun u h => by
            have := same_ok a a u _ _ (HZ.out u h.2).2.2.2.2.1 ((HZ.out u h.2).2.2.2.2.2.1 rfl)
            rw [Nd.same_self] at this
            exact this
          have c1 : ∀ (u : World), ((u.cell? ⟨w1.heap.size, 0, none⟩ = some (.int .i64 10) ∧ u.cell? ⟨w1.heap.size, 1, none⟩ = some (.string ⟨#[]⟩) ∧ u.cell? ⟨w1.heap.size, 2, none⟩ = some (.slice ao m cap) ∧ u.cell? ⟨w3.heap.size, 0, none⟩ = some (.int .i64 10) ∧ u.cell? ⟨w3.heap.size, 1, none⟩ = some (.string ⟨#[]⟩) ∧ u.cell? ⟨w3.heap.size, 2, none⟩ = some (.slice ab n cb) ∧ u.cell? ⟨w8.heap.size, 0, none⟩ = some (.int .i64 r.k) ∧ u.cell? ⟨w8.heap.size, 1, none⟩ = some (.string r.t) ∧ u.cell? ⟨w8.heap.size, 2, none⟩ = some (.slice sa nr sc) ∧ u.cell? ⟨w10.heap.size, 0, none⟩ = some (.int .i64 y.k) ∧ u.cell? ⟨w10.heap.size, 1, none⟩ = some (.string y.t) ∧ u.cell? ⟨w10.heap.size, 2, none⟩ = some (.slice ya ny yc) ∧ u.cell? ⟨w12.heap.size, 0, none⟩ = some (.int .i64 a.k) ∧ u.cell? ⟨w12.heap.size, 1, none⟩ = some (.string a.t) ∧ u.cell? ⟨w12.heap.size, 2, none⟩ = some (.slice aa na ac) ∧ u.cell? ⟨w14.heap.size, 0, none⟩ = some (.int .i64 a.k) ∧ u.cell? ⟨w14.heap.size, 1, none⟩ = some (.string a.t) ∧ u.cell? ⟨w14.heap.size, 2, none⟩ = some (.slice sb nb cbb) ∧ u.cell? ⟨w16.heap.size, 0, none⟩ = some (.int .i64 old.k) ∧ u.cell? ⟨w16.heap.size, 1, none⟩ = some (.string old.t) ∧ u.cell? ⟨w16.heap.size, 2, none⟩ = some (.slice oa no oc)) ∧ Below W17.heap.size W17 u) → Calls Tryd.prog 20 #[.agg #[.int .i64 r.k, .string r.t, .slice sa nr sc]] u fun e w' => e = .returned (.int .i64 ((c : Int) - (co : Int) + (cy : Int))) ∧ Below u.heap.size u w' := fun _ h => by
            rw [← HCR.out]; exact count_calls r (by have := HRW.out; have := Nd.count_le r; omega) _ _ (HZ.out _ h.2).2.2.1
          have c2 : ∀ (u : World), ((u.cell? ⟨w1.heap.size, 0, none⟩ = some (.int .i64 10) ∧ u.cell? ⟨w1.heap.size, 1, none⟩ = some (.string ⟨#[]⟩) ∧ u.cell? ⟨w1.heap.size, 2, none⟩ = some (.slice ao m cap) ∧ u.cell? ⟨w3.heap.size, 0, none⟩ = some (.int .i64 10) ∧ u.cell? ⟨w3.heap.size, 1, none⟩ = some (.string ⟨#[]⟩) ∧ u.cell? ⟨w3.heap.size, 2, none⟩ = some (.slice ab n cb) ∧ u.cell? ⟨w8.heap.size, 0, none⟩ = some (.int .i64 r.k) ∧ u.cell? ⟨w8.heap.size, 1, none⟩ = some (.string r.t) ∧ u.cell? ⟨w8.heap.size, 2, none⟩ = some (.slice sa nr sc) ∧ u.cell? ⟨w10.heap.size, 0, none⟩ = some (.int .i64 y.k) ∧ u.cell? ⟨w10.heap.size, 1, none⟩ = some (.string y.t) ∧ u.cell? ⟨w10.heap.size, 2, none⟩ = some (.slice ya ny yc) ∧ u.cell? ⟨w12.heap.size, 0, none⟩ = some (.int .i64 a.k) ∧ u.cell? ⟨w12.heap.size, 1, none⟩ = some (.string a.t) ∧ u.cell? ⟨w12.heap.size, 2, none⟩ = some (.slice aa na ac) ∧ u.cell? ⟨w14.heap.size, 0, none⟩ = some (.int .i64 a.k) ∧ u.cell? ⟨w14.heap.size, 1, none⟩ = some (.string a.t) ∧ u.cell? ⟨w14.heap.size, 2, none⟩ = some (.slice sb nb cbb) ∧ u.cell? ⟨w16.heap.size, 0, none⟩ = some (.int .i64 old.k) ∧ u.cell? ⟨w16.heap.size, 1, none⟩ = some (.string old.t) ∧ u.cell? ⟨w16.heap.size, 2, none⟩ = some (.slice oa no oc)) ∧ Below W17.heap.size W17 u) → Calls Tryd.prog 20 #[.agg #[.int .i64 10, .string ⟨#[]⟩, .slice ao m cap]] u fun e w' => e = .returned (.int .i64 (c : Int)) ∧ Below u.heap.size u w' := fun _ h => by
            rw [← HC.out]; exact count_calls x (by rw [HC.out]; omega) _ _ (HZ.out _ h.2).1
          have c3 : ∀ (u : World), ((u.cell? ⟨w1.heap.size, 0, none⟩ = some (.int .i64 10) ∧ u.cell? ⟨w1.heap.size, 1, none⟩ = some (.string ⟨#[]⟩) ∧ u.cell? ⟨w1.heap.size, 2, none⟩ = some (.slice ao m cap) ∧ u.cell? ⟨w3.heap.size, 0, none⟩ = some (.int .i64 10) ∧ u.cell? ⟨w3.heap.size, 1, none⟩ = some (.string ⟨#[]⟩) ∧ u.cell? ⟨w3.heap.size, 2, none⟩ = some (.slice ab n cb) ∧ u.cell? ⟨w8.heap.size, 0, none⟩ = some (.int .i64 r.k) ∧ u.cell? ⟨w8.heap.size, 1, none⟩ = some (.string r.t) ∧ u.cell? ⟨w8.heap.size, 2, none⟩ = some (.slice sa nr sc) ∧ u.cell? ⟨w10.heap.size, 0, none⟩ = some (.int .i64 y.k) ∧ u.cell? ⟨w10.heap.size, 1, none⟩ = some (.string y.t) ∧ u.cell? ⟨w10.heap.size, 2, none⟩ = some (.slice ya ny yc) ∧ u.cell? ⟨w12.heap.size, 0, none⟩ = some (.int .i64 a.k) ∧ u.cell? ⟨w12.heap.size, 1, none⟩ = some (.string a.t) ∧ u.cell? ⟨w12.heap.size, 2, none⟩ = some (.slice aa na ac) ∧ u.cell? ⟨w14.heap.size, 0, none⟩ = some (.int .i64 a.k) ∧ u.cell? ⟨w14.heap.size, 1, none⟩ = some (.string a.t) ∧ u.cell? ⟨w14.heap.size, 2, none⟩ = some (.slice sb nb cbb) ∧ u.cell? ⟨w16.heap.size, 0, none⟩ = some (.int .i64 old.k) ∧ u.cell? ⟨w16.heap.size, 1, none⟩ = some (.string old.t) ∧ u.cell? ⟨w16.heap.size, 2, none⟩ = some (.slice oa no oc)) ∧ Below W17.heap.size W17 u) → Calls Tryd.prog 20 #[.agg #[.int .i64 old.k, .string old.t, .slice oa no oc]] u fun e w' => e = .returned (.int .i64 (co : Int)) ∧ Below u.heap.size u w' := fun _ h => by
            rw [← HCO.out]; exact count_calls old (by rw [HCO.out]; omega) _ _ (HZ.out _ h.2).2.2.2.2.2.2.1
          have c4 : ∀ (u : World), ((u.cell? ⟨w1.heap.size, 0, none⟩ = some (.int .i64 10) ∧ u.cell? ⟨w1.heap.size, 1, none⟩ = some (.string ⟨#[]⟩) ∧ u.cell? ⟨w1.heap.size, 2, none⟩ = some (.slice ao m cap) ∧ u.cell? ⟨w3.heap.size, 0, none⟩ = some (.int .i64 10) ∧ u.cell? ⟨w3.heap.size, 1, none⟩ = some (.string ⟨#[]⟩) ∧ u.cell? ⟨w3.heap.size, 2, none⟩ = some (.slice ab n cb) ∧ u.cell? ⟨w8.heap.size, 0, none⟩ = some (.int .i64 r.k) ∧ u.cell? ⟨w8.heap.size, 1, none⟩ = some (.string r.t) ∧ u.cell? ⟨w8.heap.size, 2, none⟩ = some (.slice sa nr sc) ∧ u.cell? ⟨w10.heap.size, 0, none⟩ = some (.int .i64 y.k) ∧ u.cell? ⟨w10.heap.size, 1, none⟩ = some (.string y.t) ∧ u.cell? ⟨w10.heap.size, 2, none⟩ = some (.slice ya ny yc) ∧ u.cell? ⟨w12.heap.size, 0, none⟩ = some (.int .i64 a.k) ∧ u.cell? ⟨w12.heap.size, 1, none⟩ = some (.string a.t) ∧ u.cell? ⟨w12.heap.size, 2, none⟩ = some (.slice aa na ac) ∧ u.cell? ⟨w14.heap.size, 0, none⟩ = some (.int .i64 a.k) ∧ u.cell? ⟨w14.heap.size, 1, none⟩ = some (.string a.t) ∧ u.cell? ⟨w14.heap.size, 2, none⟩ = some (.slice sb nb cbb) ∧ u.cell? ⟨w16.heap.size, 0, none⟩ = some (.int .i64 old.k) ∧ u.cell? ⟨w16.heap.size, 1, none⟩ = some (.string old.t) ∧ u.cell? ⟨w16.heap.size, 2, none⟩ = some (.slice oa no oc)) ∧ Below W17.heap.size W17 u) → Calls Tryd.prog 20 #[.agg #[.int .i64 10, .string ⟨#[]⟩, .slice ab n cb]] u fun e w' => e = .returned (.int .i64 (cy : Int)) ∧ Below u.heap.size u w' := fun _ h => by
            rw [← HCY.out]; exact count_calls y (by rw [HCY.out]; omega) _ _ (HZ.out _ h.2).2.1
          have tr : ∀ (u' : World), ((u'.cell? ⟨w1.heap.size, 0, none⟩ = some (.int .i64 10) ∧ u'.cell? ⟨w1.heap.size, 1, none⟩ = some (.string ⟨#[]⟩) ∧ u'.cell? ⟨w1.heap.size, 2, none⟩ = some (.slice ao m cap) ∧ u'.cell? ⟨w3.heap.size, 0, none⟩ = some (.int .i64 10) ∧ u'.cell? ⟨w3.heap.size, 1, none⟩ = some (.string ⟨#[]⟩) ∧ u'.cell? ⟨w3.heap.size, 2, none⟩ = some (.slice ab n cb) ∧ u'.cell? ⟨w8.heap.size, 0, none⟩ = some (.int .i64 r.k) ∧ u'.cell? ⟨w8.heap.size, 1, none⟩ = some (.string r.t) ∧ u'.cell? ⟨w8.heap.size, 2, none⟩ = some (.slice sa nr sc) ∧ u'.cell? ⟨w10.heap.size, 0, none⟩ = some (.int .i64 y.k) ∧ u'.cell? ⟨w10.heap.size, 1, none⟩ = some (.string y.t) ∧ u'.cell? ⟨w10.heap.size, 2, none⟩ = some (.slice ya ny yc) ∧ u'.cell? ⟨w12.heap.size, 0, none⟩ = some (.int .i64 a.k) ∧ u'.cell? ⟨w12.heap.size, 1, none⟩ = some (.string a.t) ∧ u'.cell? ⟨w12.heap.size, 2, none⟩ = some (.slice aa na ac) ∧ u'.cell? ⟨w14.heap.size, 0, none⟩ = some (.int .i64 a.k) ∧ u'.cell? ⟨w14.heap.size, 1, none⟩ = some (.string a.t) ∧ u'.cell? ⟨w14.heap.size, 2, none⟩ = some (.slice sb nb cbb) ∧ u'.cell? ⟨w16.heap.size, 0, none⟩ = some (.int .i64 old.k) ∧ u'.cell? ⟨w16.heap.size, 1, none⟩ = some (.string old.t) ∧ u'.cell? ⟨w16.heap.size, 2, none⟩ = some (.slice oa no oc)) ∧ Below W17.heap.size W17 u') → Calls Tryd.prog 11 #[u] u' fun e w' => ∃ v, e = .returned v ∧ NdAt (Lt w'.heap.size) w' x v ∧ Below u'.heap.size u' w' := fun u' h => by
            refine (HTREE.out u' (HZ.out u' h.2).2.2.2.2.2.2.2.2.1).mono ?_
            rintro e w' ⟨s, rfl, hbd, hb⟩
            exact ⟨_, rfl, by rw [← HXF.out]; exact NdAt.mk hbd.kids.toLt, hb⟩
          have sm3 : ∀ (u : World) (v : Value), ((u.cell? ⟨w1.heap.size, 0, none⟩ = some (.int .i64 10) ∧ u.cell? ⟨w1.heap.size, 1, none⟩ = some (.string ⟨#[]⟩) ∧ u.cell? ⟨w1.heap.size, 2, none⟩ = some (.slice ao m cap) ∧ u.cell? ⟨w3.heap.size, 0, none⟩ = some (.int .i64 10) ∧ u.cell? ⟨w3.heap.size, 1, none⟩ = some (.string ⟨#[]⟩) ∧ u.cell? ⟨w3.heap.size, 2, none⟩ = some (.slice ab n cb) ∧ u.cell? ⟨w8.heap.size, 0, none⟩ = some (.int .i64 r.k) ∧ u.cell? ⟨w8.heap.size, 1, none⟩ = some (.string r.t) ∧ u.cell? ⟨w8.heap.size, 2, none⟩ = some (.slice sa nr sc) ∧ u.cell? ⟨w10.heap.size, 0, none⟩ = some (.int .i64 y.k) ∧ u.cell? ⟨w10.heap.size, 1, none⟩ = some (.string y.t) ∧ u.cell? ⟨w10.heap.size, 2, none⟩ = some (.slice ya ny yc) ∧ u.cell? ⟨w12.heap.size, 0, none⟩ = some (.int .i64 a.k) ∧ u.cell? ⟨w12.heap.size, 1, none⟩ = some (.string a.t) ∧ u.cell? ⟨w12.heap.size, 2, none⟩ = some (.slice aa na ac) ∧ u.cell? ⟨w14.heap.size, 0, none⟩ = some (.int .i64 a.k) ∧ u.cell? ⟨w14.heap.size, 1, none⟩ = some (.string a.t) ∧ u.cell? ⟨w14.heap.size, 2, none⟩ = some (.slice sb nb cbb) ∧ u.cell? ⟨w16.heap.size, 0, none⟩ = some (.int .i64 old.k) ∧ u.cell? ⟨w16.heap.size, 1, none⟩ = some (.string old.t) ∧ u.cell? ⟨w16.heap.size, 2, none⟩ = some (.slice oa no oc)) ∧ Below W17.heap.size W17 u) → NdAt (Lt u.heap.size) u x v → Calls Tryd.prog 19 #[.agg #[.int .i64 10, .string ⟨#[]⟩, .slice ao m cap], v] u fun e w' => e = .returned (.bool true) ∧ Below u.heap.size u w' := fun u v h hv => by
            have := same_ok x x u _ v (HZ.out u h.2).1 hv
            rw [Nd.same_self] at this
            exact this
          have H_more := Lib.hid more
          have H_kn := Lib.hid kn
          have H_sm1 := Lib.hid sm1
          have H_sm2 := Lib.hid sm2
          have H_c1 := Lib.hid c1
          have H_c2 := Lib.hid c2
          have H_c3 := Lib.hid c3
          have H_c4 := Lib.hid c4
          have H_tr := Lib.hid tr
          have H_sm3 := Lib.hid sm3
          have H_S := Lib.hid hS
          obtain ⟨⟨e0, e1, e2, e3, e4, e5, e6, e7, e8, e9, e10, e11, e12, e13, e14, e15, e16, e17, e18, e19, e20⟩, _⟩ := id hS
          clear hS more kn sm1 sm2 c1 c2 c3 c4 tr sm3
          refine wp_region_held_drew (S := fun u => (u.cell? ⟨w1.heap.size, 0, none⟩ = some (.int .i64 10) ∧ u.cell? ⟨w1.heap.size, 1, none⟩ = some (.string ⟨#[]⟩) ∧ u.cell? ⟨w1.heap.size, 2, none⟩ = some (.slice ao m cap) ∧ u.cell? ⟨w3.heap.size, 0, none⟩ = some (.int .i64 10) ∧ u.cell? ⟨w3.heap.size, 1, none⟩ = some (.string ⟨#[]⟩) ∧ u.cell? ⟨w3.heap.size, 2, none⟩ = some (.slice ab n cb) ∧ u.cell? ⟨w8.heap.size, 0, none⟩ = some (.int .i64 r.k) ∧ u.cell? ⟨w8.heap.size, 1, none⟩ = some (.string r.t) ∧ u.cell? ⟨w8.heap.size, 2, none⟩ = some (.slice sa nr sc) ∧ u.cell? ⟨w10.heap.size, 0, none⟩ = some (.int .i64 y.k) ∧ u.cell? ⟨w10.heap.size, 1, none⟩ = some (.string y.t) ∧ u.cell? ⟨w10.heap.size, 2, none⟩ = some (.slice ya ny yc) ∧ u.cell? ⟨w12.heap.size, 0, none⟩ = some (.int .i64 a.k) ∧ u.cell? ⟨w12.heap.size, 1, none⟩ = some (.string a.t) ∧ u.cell? ⟨w12.heap.size, 2, none⟩ = some (.slice aa na ac) ∧ u.cell? ⟨w14.heap.size, 0, none⟩ = some (.int .i64 a.k) ∧ u.cell? ⟨w14.heap.size, 1, none⟩ = some (.string a.t) ∧ u.cell? ⟨w14.heap.size, 2, none⟩ = some (.slice sb nb cbb) ∧ u.cell? ⟨w16.heap.size, 0, none⟩ = some (.int .i64 old.k) ∧ u.cell? ⟨w16.heap.size, 1, none⟩ = some (.string old.t) ∧ u.cell? ⟨w16.heap.size, 2, none⟩ = some (.slice oa no oc)) ∧ Below W17.heap.size W17 u) (by kernel_rfl) ?_ (fun hHeld0 => ?_)
          · try dsimp only
            first | assumption | exact H_more.out _ _ H_S.out ((Below.refl _ _).drew) | exact H_more.out _ _ (by assumption) (by assumption)
          refine wpAnyH_ready (rs := [0]) (by kernel_rfl) (by simp) ?_
          refine AllReadyH.cons (o := { dst := some 106, op := Op.call _, type := _, pos := _, after := _, guard := none }) rfl (fun K hK => ?_) AllReadyH.nil
          go_simp
          go_at_call 10; with_reducible refine (H_kn.out _ (by assumption)).mono ?_; rintro _ u1 ⟨rfl, hbn⟩; have hcs := H_more.out _ _ (by assumption) hbn
          try go_wp2_with fail
          refine hK.out _ _ ?_ (fun hHeld1 => ?_)
          · try dsimp only
            first | assumption | exact H_more.out _ _ H_S.out ((Below.refl _ _).drew) | exact H_more.out _ _ (by assumption) (by assumption)
          clear hK K hHeld0
          try simp only [Act.put, List.setIfInBounds_toArray, List.set_cons_zero, List.set_cons_succ]
          refine wpAnyH_take (i := 1) (oi := { dst := some 107, op := Op.move (Operand.tmp 106), type := _, pos := _, after := _, guard := none }) (v := ?_) rfl (by kernel_rfl) (by kernel_rfl) (by kernel_rfl) (fun _ _ _ h => h) (Or.inl ⟨by rfl, ?_⟩) (by assumption) ?_
          rotate_left 1
          · ((intro w hSw; (try dsimp only at hSw); go_simp) <;> (try with_reducible rfl))
          try simp only [Act.put, List.setIfInBounds_toArray, List.set_cons_zero, List.set_cons_succ]
          refine wpAnyH_take (i := 2) (oi := { dst := some 108, op := Op.move (Operand.tmp 15), type := _, pos := _, after := _, guard := some (1, true) }) (v := ?_) rfl (by kernel_rfl) (by kernel_rfl) (by kernel_rfl) (fun _ _ _ h => h) (Or.inl ⟨by rfl, ?_⟩) (by assumption) ?_
          rotate_left 1
          · ((intro w hSw; (try dsimp only at hSw); go_simp) <;> (try with_reducible rfl))
          try simp only [Act.put, List.setIfInBounds_toArray, List.set_cons_zero, List.set_cons_succ]
          refine wpAnyH_take (i := 3) (oi := { dst := some 109, op := Op.pick (Operand.tmp 107) (Operand.tmp 108) (Operand.const (Value.bool false)), type := _, pos := _, after := _, guard := none }) (v := ?_) rfl (by kernel_rfl) (by kernel_rfl) (by kernel_rfl) (fun _ _ _ h => h) (Or.inl ⟨by rfl, ?_⟩) (by assumption) ?_
          rotate_left 1
          · ((intro w hSw; (try dsimp only at hSw); go_simp) <;> (try with_reducible rfl))
          try simp only [Act.put, List.setIfInBounds_toArray, List.set_cons_zero, List.set_cons_succ]
          refine wpAnyH_take (i := 4) (oi := { dst := some 110, op := Op.move (Operand.tmp 109), type := _, pos := _, after := _, guard := none }) (v := ?_) rfl (by kernel_rfl) (by kernel_rfl) (by kernel_rfl) (fun _ _ _ h => h) (Or.inl ⟨by rfl, ?_⟩) (by assumption) ?_
          rotate_left 1
          · ((intro w hSw; (try dsimp only at hSw); go_simp) <;> (try with_reducible rfl))
          try simp only [Act.put, List.setIfInBounds_toArray, List.set_cons_zero, List.set_cons_succ]
          refine wpAnyH_take (i := 5) (oi := { dst := some 111, op := Op.move (Operand.tmp 17), type := _, pos := _, after := _, guard := some (4, true) }) (v := ?_) rfl (by kernel_rfl) (by kernel_rfl) (by kernel_rfl) (fun _ _ _ h => h) (Or.inl ⟨by rfl, ?_⟩) (by assumption) ?_
          rotate_left 1
          · ((intro w hSw; (try dsimp only at hSw); go_simp) <;> (try with_reducible rfl))
          try simp only [Act.put, List.setIfInBounds_toArray, List.set_cons_zero, List.set_cons_succ]
          refine wpAnyH_take (i := 6) (oi := { dst := some 112, op := Op.pick (Operand.tmp 110) (Operand.tmp 111) (Operand.const (Value.bool false)), type := _, pos := _, after := _, guard := none }) (v := ?_) rfl (by kernel_rfl) (by kernel_rfl) (by kernel_rfl) (fun _ _ _ h => h) (Or.inl ⟨by rfl, ?_⟩) (by assumption) ?_
          rotate_left 1
          · ((intro w hSw; (try dsimp only at hSw); go_simp) <;> (try with_reducible rfl))
          try simp only [Act.put, List.setIfInBounds_toArray, List.set_cons_zero, List.set_cons_succ]
          refine wpAnyH_take (i := 7) (oi := { dst := some 113, op := Op.move (Operand.tmp 112), type := _, pos := _, after := _, guard := none }) (v := ?_) rfl (by kernel_rfl) (by kernel_rfl) (by kernel_rfl) (fun _ _ _ h => h) (Or.inl ⟨by rfl, ?_⟩) (by assumption) ?_
          rotate_left 1
          · ((intro w hSw; (try dsimp only at hSw); go_simp) <;> (try with_reducible rfl))
          try simp only [Act.put, List.setIfInBounds_toArray, List.set_cons_zero, List.set_cons_succ]
          refine wpAnyH_take (i := 8) (oi := { dst := some 114, op := Op.load _ (Operand.tmp 16), type := _, pos := _, after := _, guard := some (7, true) }) (v := ?_) rfl (by kernel_rfl) (by kernel_rfl) (by kernel_rfl) (fun _ _ _ h => h) (Or.inl ⟨by rfl, ?_⟩) (by assumption) ?_
          rotate_left 1
          · ((intro w hSw; (try dsimp only at hSw); go_simp) <;> (try with_reducible rfl))
          try simp only [Act.put, List.setIfInBounds_toArray, List.set_cons_zero, List.set_cons_succ]
          refine wpAnyH_take (i := 9) (oi := { dst := some 115, op := Op.load _ (Operand.tmp 10), type := _, pos := _, after := _, guard := some (7, true) }) (v := ?_) rfl (by kernel_rfl) (by kernel_rfl) (by kernel_rfl) (fun _ _ _ h => h) (Or.inl ⟨by rfl, ?_⟩) (by assumption) ?_
          rotate_left 1
          · ((intro w hSw; (try dsimp only at hSw); go_simp) <;> (try with_reducible rfl))
          try simp only [Act.put, List.setIfInBounds_toArray, List.set_cons_zero, List.set_cons_succ]
          refine wpAnyH_ready (rs := [10]) (by kernel_rfl) (by simp) ?_
          refine AllReadyH.cons (o := { dst := some 116, op := Op.call _, type := _, pos := _, after := _, guard := some (7, true) }) rfl (fun K hK => ?_) AllReadyH.nil
          go_simp
          go_at_call 19; with_reducible refine (H_sm1.out _ (by assumption)).mono ?_; rintro _ u1 ⟨rfl, hbn⟩; have hcs := H_more.out _ _ (by assumption) hbn
          try go_wp2_with fail
          refine hK.out _ _ ?_ (fun hHeld2 => ?_)
          · try dsimp only
            first | assumption | exact H_more.out _ _ H_S.out ((Below.refl _ _).drew) | exact H_more.out _ _ (by assumption) (by assumption)
          clear hK K hHeld1
          try simp only [Act.put, List.setIfInBounds_toArray, List.set_cons_zero, List.set_cons_succ]
          refine wpAnyH_take (i := 11) (oi := { dst := some 117, op := Op.pick (Operand.tmp 113) (Operand.tmp 116) (Operand.const (Value.bool false)), type := _, pos := _, after := _, guard := none }) (v := ?_) rfl (by kernel_rfl) (by kernel_rfl) (by kernel_rfl) (fun _ _ _ h => h) (Or.inl ⟨by rfl, ?_⟩) (by assumption) ?_
          rotate_left 1
          · ((intro w hSw; (try dsimp only at hSw); go_simp) <;> (try with_reducible rfl))
          try simp only [Act.put, List.setIfInBounds_toArray, List.set_cons_zero, List.set_cons_succ]
          refine wpAnyH_take (i := 12) (oi := { dst := some 118, op := Op.move (Operand.tmp 117), type := _, pos := _, after := _, guard := none }) (v := ?_) rfl (by kernel_rfl) (by kernel_rfl) (by kernel_rfl) (fun _ _ _ h => h) (Or.inl ⟨by rfl, ?_⟩) (by assumption) ?_
          rotate_left 1
          · ((intro w hSw; (try dsimp only at hSw); go_simp) <;> (try with_reducible rfl))
          try simp only [Act.put, List.setIfInBounds_toArray, List.set_cons_zero, List.set_cons_succ]
          refine wpAnyH_take (i := 13) (oi := { dst := some 119, op := Op.move (Operand.tmp 21), type := _, pos := _, after := _, guard := some (12, true) }) (v := ?_) rfl (by kernel_rfl) (by kernel_rfl) (by kernel_rfl) (fun _ _ _ h => h) (Or.inl ⟨by rfl, ?_⟩) (by assumption) ?_
          rotate_left 1
          · ((intro w hSw; (try dsimp only at hSw); go_simp) <;> (try with_reducible rfl))
          try simp only [Act.put, List.setIfInBounds_toArray, List.set_cons_zero, List.set_cons_succ]
          refine wpAnyH_take (i := 14) (oi := { dst := some 120, op := Op.pick (Operand.tmp 118) (Operand.tmp 119) (Operand.const (Value.bool false)), type := _, pos := _, after := _, guard := none }) (v := ?_) rfl (by kernel_rfl) (by kernel_rfl) (by kernel_rfl) (fun _ _ _ h => h) (Or.inl ⟨by rfl, ?_⟩) (by assumption) ?_
          rotate_left 1
          · ((intro w hSw; (try dsimp only at hSw); go_simp) <;> (try with_reducible rfl))
          try simp only [Act.put, List.setIfInBounds_toArray, List.set_cons_zero, List.set_cons_succ]
          refine wpAnyH_take (i := 15) (oi := { dst := some 121, op := Op.move (Operand.tmp 120), type := _, pos := _, after := _, guard := none }) (v := ?_) rfl (by kernel_rfl) (by kernel_rfl) (by kernel_rfl) (fun _ _ _ h => h) (Or.inl ⟨by rfl, ?_⟩) (by assumption) ?_
          rotate_left 1
          · ((intro w hSw; (try dsimp only at hSw); go_simp) <;> (try with_reducible rfl))
          try simp only [Act.put, List.setIfInBounds_toArray, List.set_cons_zero, List.set_cons_succ]
          refine wpAnyH_take (i := 16) (oi := { dst := some 122, op := Op.move (Operand.tmp 18), type := _, pos := _, after := _, guard := some (15, true) }) (v := ?_) rfl (by kernel_rfl) (by kernel_rfl) (by kernel_rfl) (fun _ _ _ h => h) (Or.inl ⟨by rfl, ?_⟩) (by assumption) ?_
          rotate_left 1
          · ((intro w hSw; (try dsimp only at hSw); go_simp) <;> (try with_reducible rfl))
          try simp only [Act.put, List.setIfInBounds_toArray, List.set_cons_zero, List.set_cons_succ]
          refine wpAnyH_take (i := 17) (oi := { dst := some 123, op := Op.unOp UnOp.not _ (Operand.tmp 122), type := _, pos := _, after := _, guard := some (15, true) }) (v := ?_) rfl (by kernel_rfl) (by kernel_rfl) (by kernel_rfl) (fun _ _ _ h => h) (Or.inl ⟨by rfl, ?_⟩) (by assumption) ?_
          rotate_left 1
          · ((intro w hSw; (try dsimp only at hSw); go_simp) <;> (try with_reducible rfl))
          try simp only [Act.put, List.setIfInBounds_toArray, List.set_cons_zero, List.set_cons_succ]
          refine wpAnyH_take (i := 18) (oi := { dst := some 124, op := Op.move (Operand.tmp 123), type := _, pos := _, after := _, guard := some (15, true) }) (v := ?_) rfl (by kernel_rfl) (by kernel_rfl) (by kernel_rfl) (fun _ _ _ h => h) (Or.inl ⟨by rfl, ?_⟩) (by assumption) ?_
          rotate_left 1
          · ((intro w hSw; (try dsimp only at hSw); go_simp) <;> (try with_reducible rfl))
          try simp only [Act.put, List.setIfInBounds_toArray, List.set_cons_zero, List.set_cons_succ]
          refine wpAnyH_take (i := 19) (oi := { dst := some 125, op := Op.move (Operand.tmp 23), type := _, pos := _, after := _, guard := some (18, false) }) (v := ?_) rfl (by kernel_rfl) (by kernel_rfl) (by kernel_rfl) (fun _ _ _ h => h) (Or.inl ⟨by rfl, ?_⟩) (by assumption) ?_
          rotate_left 1
          · ((intro w hSw; (try dsimp only at hSw); go_simp) <;> (try with_reducible rfl))
          try simp only [Act.put, List.setIfInBounds_toArray, List.set_cons_zero, List.set_cons_succ]
          refine wpAnyH_take (i := 20) (oi := { dst := some 126, op := Op.move (Operand.tmp 125), type := _, pos := _, after := _, guard := some (18, false) }) (v := ?_) rfl (by kernel_rfl) (by kernel_rfl) (by kernel_rfl) (fun _ _ _ h => h) (Or.inl ⟨by rfl, ?_⟩) (by assumption) ?_
          rotate_left 1
          · ((intro w hSw; (try dsimp only at hSw); go_simp) <;> (try with_reducible rfl))
          try simp only [Act.put, List.setIfInBounds_toArray, List.set_cons_zero, List.set_cons_succ]
          refine wpAnyH_take (i := 21) (oi := { dst := some 127, op := Op.load _ (Operand.tmp 20), type := _, pos := _, after := _, guard := some (20, true) }) (v := ?_) rfl (by kernel_rfl) (by kernel_rfl) (by kernel_rfl) (fun _ _ _ h => h) (Or.inl ⟨by rfl, ?_⟩) (by assumption) ?_
          rotate_left 1
          · ((intro w hSw; (try dsimp only at hSw); go_simp) <;> (try with_reducible rfl))
          try simp only [Act.put, List.setIfInBounds_toArray, List.set_cons_zero, List.set_cons_succ]
          refine wpAnyH_take (i := 22) (oi := { dst := some 128, op := Op.load _ (Operand.tmp 22), type := _, pos := _, after := _, guard := some (20, true) }) (v := ?_) rfl (by kernel_rfl) (by kernel_rfl) (by kernel_rfl) (fun _ _ _ h => h) (Or.inl ⟨by rfl, ?_⟩) (by assumption) ?_
          rotate_left 1
          · ((intro w hSw; (try dsimp only at hSw); go_simp) <;> (try with_reducible rfl))
          try simp only [Act.put, List.setIfInBounds_toArray, List.set_cons_zero, List.set_cons_succ]
          refine wpAnyH_ready (rs := [23]) (by kernel_rfl) (by simp) ?_
          refine AllReadyH.cons (o := { dst := some 129, op := Op.call _, type := _, pos := _, after := _, guard := some (20, true) }) rfl (fun K hK => ?_) AllReadyH.nil
          go_simp
          go_at_call 19; with_reducible refine (H_sm2.out _ (by assumption)).mono ?_; rintro _ u1 ⟨rfl, hbn⟩; have hcs := H_more.out _ _ (by assumption) hbn
          try go_wp2_with fail
          refine hK.out _ _ ?_ (fun hHeld3 => ?_)
          · try dsimp only
            first | assumption | exact H_more.out _ _ H_S.out ((Below.refl _ _).drew) | exact H_more.out _ _ (by assumption) (by assumption)
          clear hK K hHeld2
          try simp only [Act.put, List.setIfInBounds_toArray, List.set_cons_zero, List.set_cons_succ]
          refine wpAnyH_take (i := 24) (oi := { dst := some 130, op := Op.pick (Operand.tmp 126) (Operand.tmp 129) (Operand.const (Value.bool false)), type := _, pos := _, after := _, guard := some (18, false) }) (v := ?_) rfl (by kernel_rfl) (by kernel_rfl) (by kernel_rfl) (fun _ _ _ h => h) (Or.inl ⟨by rfl, ?_⟩) (by assumption) ?_
          rotate_left 1
          · ((intro w hSw; (try dsimp only at hSw); go_simp) <;> (try with_reducible rfl))
          try simp only [Act.put, List.setIfInBounds_toArray, List.set_cons_zero, List.set_cons_succ]
          refine wpAnyH_take (i := 25) (oi := { dst := some 131, op := Op.pick (Operand.tmp 124) (Operand.const (Value.bool true)) (Operand.tmp 130), type := _, pos := _, after := _, guard := some (15, true) }) (v := ?_) rfl (by kernel_rfl) (by kernel_rfl) (by kernel_rfl) (fun _ _ _ h => h) (Or.inl ⟨by rfl, ?_⟩) (by assumption) ?_
          rotate_left 1
          · ((intro w hSw; (try dsimp only at hSw); go_simp) <;> (try with_reducible rfl))
          try simp only [Act.put, List.setIfInBounds_toArray, List.set_cons_zero, List.set_cons_succ]
          refine wpAnyH_take (i := 26) (oi := { dst := some 132, op := Op.pick (Operand.tmp 121) (Operand.tmp 131) (Operand.const (Value.bool false)), type := _, pos := _, after := _, guard := none }) (v := ?_) rfl (by kernel_rfl) (by kernel_rfl) (by kernel_rfl) (fun _ _ _ h => h) (Or.inl ⟨by rfl, ?_⟩) (by assumption) ?_
          rotate_left 1
          · ((intro w hSw; (try dsimp only at hSw); go_simp) <;> (try with_reducible rfl))
          try simp only [Act.put, List.setIfInBounds_toArray, List.set_cons_zero, List.set_cons_succ]
          refine wpAnyH_take (i := 27) (oi := { dst := some 133, op := Op.move (Operand.tmp 132), type := _, pos := _, after := _, guard := none }) (v := ?_) rfl (by kernel_rfl) (by kernel_rfl) (by kernel_rfl) (fun _ _ _ h => h) (Or.inl ⟨by rfl, ?_⟩) (by assumption) ?_
          rotate_left 1
          · ((intro w hSw; (try dsimp only at hSw); go_simp) <;> (try with_reducible rfl))
          try simp only [Act.put, List.setIfInBounds_toArray, List.set_cons_zero, List.set_cons_succ]
          refine wpAnyH_take (i := 28) (oi := { dst := some 134, op := Op.load _ (Operand.tmp 14), type := _, pos := _, after := _, guard := some (27, true) }) (v := ?_) rfl (by kernel_rfl) (by kernel_rfl) (by kernel_rfl) (fun _ _ _ h => h) (Or.inl ⟨by rfl, ?_⟩) (by assumption) ?_
          rotate_left 1
          · ((intro w hSw; (try dsimp only at hSw); go_simp) <;> (try with_reducible rfl))
          try simp only [Act.put, List.setIfInBounds_toArray, List.set_cons_zero, List.set_cons_succ]
          refine wpAnyH_take (i := 30) (oi := { dst := some 136, op := Op.load _ (Operand.tmp 9), type := _, pos := _, after := _, guard := some (27, true) }) (v := ?_) rfl (by kernel_rfl) (by kernel_rfl) (by kernel_rfl) (fun _ _ _ h => h) (Or.inl ⟨by rfl, ?_⟩) (by assumption) ?_
          rotate_left 1
          · ((intro w hSw; (try dsimp only at hSw); go_simp) <;> (try with_reducible rfl))
          try simp only [Act.put, List.setIfInBounds_toArray, List.set_cons_zero, List.set_cons_succ]
          refine wpAnyH_take (i := 32) (oi := { dst := some 138, op := Op.load _ (Operand.tmp 24), type := _, pos := _, after := _, guard := some (27, true) }) (v := ?_) rfl (by kernel_rfl) (by kernel_rfl) (by kernel_rfl) (fun _ _ _ h => h) (Or.inl ⟨by rfl, ?_⟩) (by assumption) ?_
          rotate_left 1
          · ((intro w hSw; (try dsimp only at hSw); go_simp) <;> (try with_reducible rfl))
          try simp only [Act.put, List.setIfInBounds_toArray, List.set_cons_zero, List.set_cons_succ]
          refine wpAnyH_take (i := 35) (oi := { dst := some 141, op := Op.load _ (Operand.tmp 10), type := _, pos := _, after := _, guard := some (27, true) }) (v := ?_) rfl (by kernel_rfl) (by kernel_rfl) (by kernel_rfl) (fun _ _ _ h => h) (Or.inl ⟨by rfl, ?_⟩) (by assumption) ?_
          rotate_left 1
          · ((intro w hSw; (try dsimp only at hSw); go_simp) <;> (try with_reducible rfl))
          try simp only [Act.put, List.setIfInBounds_toArray, List.set_cons_zero, List.set_cons_succ]
          refine wpAnyH_ready (rs := [29]) (by kernel_rfl) (by simp) ?_
          refine AllReadyH.cons (o := { dst := some 135, op := Op.call _, type := _, pos := _, after := _, guard := some (27, true) }) rfl (fun K hK => ?_) AllReadyH.nil
          go_simp
          go_at_call 20; with_reducible refine (H_c1.out _ (by assumption)).mono ?_; rintro _ u1 ⟨rfl, hbn⟩; have hcs := H_more.out _ _ (by assumption) hbn
          try go_wp2_with fail
          refine hK.out _ _ ?_ (fun hHeld4 => ?_)
          · try dsimp only
            first | assumption | exact H_more.out _ _ H_S.out ((Below.refl _ _).drew) | exact H_more.out _ _ (by assumption) (by assumption)
          clear hK K hHeld3
          try simp only [Act.put, List.setIfInBounds_toArray, List.set_cons_zero, List.set_cons_succ]
          refine wpAnyH_ready (rs := [31]) (by kernel_rfl) (by simp) ?_
          refine AllReadyH.cons (o := { dst := some 137, op := Op.call _, type := _, pos := _, after := _, guard := some (27, true) }) rfl (fun K hK => ?_) AllReadyH.nil
          go_simp
          go_at_call 20; with_reducible refine (H_c2.out _ (by assumption)).mono ?_; rintro _ u1 ⟨rfl, hbn⟩; have hcs := H_more.out _ _ (by assumption) hbn
          try go_wp2_with fail
          refine hK.out _ _ ?_ (fun hHeld5 => ?_)
          · try dsimp only
            first | assumption | exact H_more.out _ _ H_S.out ((Below.refl _ _).drew) | exact H_more.out _ _ (by assumption) (by assumption)
          clear hK K hHeld4
          try simp only [Act.put, List.setIfInBounds_toArray, List.set_cons_zero, List.set_cons_succ]
          refine wpAnyH_ready (rs := [33]) (by kernel_rfl) (by simp) ?_
          refine AllReadyH.cons (o := { dst := some 139, op := Op.call _, type := _, pos := _, after := _, guard := some (27, true) }) rfl (fun K hK => ?_) AllReadyH.nil
          go_simp
          go_at_call 20; with_reducible refine (H_c3.out _ (by assumption)).mono ?_; rintro _ u1 ⟨rfl, hbn⟩; have hcs := H_more.out _ _ (by assumption) hbn
          try go_wp2_with fail
          refine hK.out _ _ ?_ (fun hHeld6 => ?_)
          · try dsimp only
            first | assumption | exact H_more.out _ _ H_S.out ((Below.refl _ _).drew) | exact H_more.out _ _ (by assumption) (by assumption)
          clear hK K hHeld5
          try simp only [Act.put, List.setIfInBounds_toArray, List.set_cons_zero, List.set_cons_succ]
          refine wpAnyH_take (i := 34) (oi := { dst := some 140, op := Op.binOp BinOp.sub _ (Operand.tmp 137) (Operand.tmp 139) _, type := _, pos := _, after := _, guard := some (27, true) }) (v := ?_) rfl (by kernel_rfl) (by kernel_rfl) (by kernel_rfl) (fun _ _ _ h => h) (Or.inl ⟨by rfl, ?_⟩) (by assumption) ?_
          rotate_left 1
          · ((intro w hSw; (try dsimp only at hSw); go_simp) <;> (try with_reducible rfl))
          try simp only [Act.put, List.setIfInBounds_toArray, List.set_cons_zero, List.set_cons_succ]
          refine wpAnyH_ready (rs := [36]) (by kernel_rfl) (by simp) ?_
          refine AllReadyH.cons (o := { dst := some 142, op := Op.call _, type := _, pos := _, after := _, guard := some (27, true) }) rfl (fun K hK => ?_) AllReadyH.nil
          go_simp
          go_at_call 20; with_reducible refine (H_c4.out _ (by assumption)).mono ?_; rintro _ u1 ⟨rfl, hbn⟩; have hcs := H_more.out _ _ (by assumption) hbn
          try go_wp2_with fail
          refine hK.out _ _ ?_ (fun hHeld7 => ?_)
          · try dsimp only
            first | assumption | exact H_more.out _ _ H_S.out ((Below.refl _ _).drew) | exact H_more.out _ _ (by assumption) (by assumption)
          clear hK K hHeld6
          try simp only [Act.put, List.setIfInBounds_toArray, List.set_cons_zero, List.set_cons_succ]
          refine wpAnyH_take (i := 37) (oi := { dst := some 143, op := Op.binOp BinOp.add _ (Operand.tmp 140) (Operand.tmp 142) _, type := _, pos := _, after := _, guard := some (27, true) }) (v := ?_) rfl (by kernel_rfl) (by kernel_rfl) (by kernel_rfl) (fun _ _ _ h => h) (Or.inl ⟨by rfl, ?_⟩) (by assumption) ?_
          rotate_left 1
          · ((intro w hSw; (try dsimp only at hSw); go_simp) <;> (try with_reducible rfl))
          try simp only [Act.put, List.setIfInBounds_toArray, List.set_cons_zero, List.set_cons_succ]
          refine wpAnyH_take (i := 38) (oi := { dst := some 144, op := Op.binOp BinOp.eql _ (Operand.tmp 135) (Operand.tmp 143) _, type := _, pos := _, after := _, guard := some (27, true) }) (v := ?_) rfl (by kernel_rfl) (by kernel_rfl) (by kernel_rfl) (fun _ _ _ h => h) (Or.inl ⟨by rfl, ?_⟩) (by assumption) ?_
          rotate_left 1
          · ((intro w hSw; (try dsimp only at hSw); go_simp) <;> (try with_reducible rfl))
          try simp only [Act.put, List.setIfInBounds_toArray, List.set_cons_zero, List.set_cons_succ]
          refine wpAnyH_take (i := 39) (oi := { dst := some 145, op := Op.pick (Operand.tmp 133) (Operand.tmp 144) (Operand.const (Value.bool false)), type := _, pos := _, after := _, guard := none }) (v := ?_) rfl (by kernel_rfl) (by kernel_rfl) (by kernel_rfl) (fun _ _ _ h => h) (Or.inl ⟨by rfl, ?_⟩) (by assumption) ?_
          rotate_left 1
          · ((intro w hSw; (try dsimp only at hSw); go_simp) <;> (try with_reducible rfl))
          try simp only [Act.put, List.setIfInBounds_toArray, List.set_cons_zero, List.set_cons_succ]
          refine wpAnyH_take (i := 40) (oi := { dst := some 146, op := Op.move (Operand.tmp 145), type := _, pos := _, after := _, guard := none }) (v := ?_) rfl (by kernel_rfl) (by kernel_rfl) (by kernel_rfl) (fun _ _ _ h => h) (Or.inl ⟨by rfl, ?_⟩) (by assumption) ?_
          rotate_left 1
          · ((intro w hSw; (try dsimp only at hSw); go_simp) <;> (try with_reducible rfl))
          try simp only [Act.put, List.setIfInBounds_toArray, List.set_cons_zero, List.set_cons_succ]
          refine wpAnyH_take (i := 41) (oi := { dst := some 147, op := Op.load _ (Operand.tmp 9), type := _, pos := _, after := _, guard := some (40, true) }) (v := ?_) rfl (by kernel_rfl) (by kernel_rfl) (by kernel_rfl) (fun _ _ _ h => h) (Or.inl ⟨by rfl, ?_⟩) (by assumption) ?_
          rotate_left 1
          · ((intro w hSw; (try dsimp only at hSw); go_simp) <;> (try with_reducible rfl))
          try simp only [Act.put, List.setIfInBounds_toArray, List.set_cons_zero, List.set_cons_succ]
          refine wpAnyH_take (i := 42) (oi := { dst := some 148, op := Op.move (Operand.tmp 0), type := _, pos := _, after := _, guard := some (40, true) }) (v := ?_) rfl (by kernel_rfl) (by kernel_rfl) (by kernel_rfl) (fun _ _ _ h => h) (Or.inl ⟨by rfl, ?_⟩) (by assumption) ?_
          rotate_left 1
          · ((intro w hSw; (try dsimp only at hSw); go_simp) <;> (try with_reducible rfl))
          try simp only [Act.put, List.setIfInBounds_toArray, List.set_cons_zero, List.set_cons_succ]
          refine wpAnyH_ready (rs := [43]) (by kernel_rfl) (by simp) ?_
          refine AllReadyH.cons (o := { dst := some 149, op := Op.call _, type := _, pos := _, after := _, guard := some (40, true) }) rfl (fun K hK => ?_) AllReadyH.nil
          go_simp
          go_at_call 11; with_reducible refine (H_tr.out _ (by assumption)).mono ?_; rintro _ u2 ⟨v2, rfl, hnd2, hbn2⟩; have hcs := H_more.out _ _ (by assumption) hbn2
          try go_wp2_with fail
          refine hK.out _ _ ?_ (fun hHeld8 => ?_)
          · try dsimp only
            first | assumption | exact H_more.out _ _ H_S.out ((Below.refl _ _).drew) | exact H_more.out _ _ (by assumption) (by assumption)
          clear hK K hHeld7
          try simp only [Act.put, List.setIfInBounds_toArray, List.set_cons_zero, List.set_cons_succ]
          refine wpAnyH_ready (rs := [44]) (by kernel_rfl) (by simp) ?_
          refine AllReadyH.cons (o := { dst := some 150, op := Op.call _, type := _, pos := _, after := _, guard := some (40, true) }) rfl (fun K hK => ?_) AllReadyH.nil
          go_simp
          go_at_call 19; with_reducible refine (H_sm3.out _ _ (by assumption) (by assumption)).mono ?_; rintro _ u3 ⟨rfl, hbn3⟩; have hcs := H_more.out _ _ (by assumption) hbn3
          try go_wp2_with fail
          refine hK.out _ _ ?_ (fun hHeld9 => ?_)
          · try dsimp only
            first | assumption | exact H_more.out _ _ H_S.out ((Below.refl _ _).drew) | exact H_more.out _ _ (by assumption) (by assumption)
          clear hK K hHeld8
          try simp only [Act.put, List.setIfInBounds_toArray, List.set_cons_zero, List.set_cons_succ]
          refine wpAnyH_take (i := 45) (oi := { dst := some 151, op := Op.pick (Operand.tmp 146) (Operand.tmp 150) (Operand.const (Value.bool false)), type := _, pos := _, after := _, guard := none }) (v := ?_) rfl (by kernel_rfl) (by kernel_rfl) (by kernel_rfl) (fun _ _ _ h => h) (Or.inl ⟨by rfl, ?_⟩) (by assumption) ?_
          rotate_left 1
          · ((intro w hSw; (try dsimp only at hSw); go_simp) <;> (try with_reducible rfl))
          try simp only [Act.put, List.setIfInBounds_toArray, List.set_cons_zero, List.set_cons_succ]
          refine wpAnyH_take (i := 46) (oi := { dst := some 8, op := Op.assign (Operand.tmp 151), type := _, pos := _, after := _, guard := none }) (v := ?_) rfl (by kernel_rfl) (by kernel_rfl) (by kernel_rfl) (fun _ _ _ h => h) (Or.inl ⟨by rfl, ?_⟩) (by assumption) ?_
          rotate_left 1
          · ((intro w hSw; (try dsimp only at hSw); go_simp) <;> (try with_reducible rfl))
          try simp only [Act.put, List.setIfInBounds_toArray, List.set_cons_zero, List.set_cons_succ]
          refine wpAnyH_done (by kernel_rfl) ?_ _
          have hHeld := hHeld9

          have hfin := (HZ.out _ hHeld.2).2.2.2.2.2.2.2.2.2
          go_wp2_with fail
          go_ret
          exact ⟨rfl, hfin⟩
        | false =>
          try rw [HD.out]
          have hS : (fun u : World => (u.cell? ⟨w1.heap.size, 0, none⟩ = some (.int .i64 10) ∧ u.cell? ⟨w1.heap.size, 1, none⟩ = some (.string ⟨#[]⟩) ∧ u.cell? ⟨w1.heap.size, 2, none⟩ = some (.slice ao m cap) ∧ u.cell? ⟨w3.heap.size, 0, none⟩ = some (.int .i64 10) ∧ u.cell? ⟨w3.heap.size, 1, none⟩ = some (.string ⟨#[]⟩) ∧ u.cell? ⟨w3.heap.size, 2, none⟩ = some (.slice ab n cb) ∧ u.cell? ⟨w8.heap.size, 0, none⟩ = some (.int .i64 r.k) ∧ u.cell? ⟨w8.heap.size, 1, none⟩ = some (.string r.t) ∧ u.cell? ⟨w8.heap.size, 2, none⟩ = some (.slice sa nr sc) ∧ u.cell? ⟨w10.heap.size, 0, none⟩ = some (.int .i64 y.k) ∧ u.cell? ⟨w10.heap.size, 1, none⟩ = some (.string y.t) ∧ u.cell? ⟨w10.heap.size, 2, none⟩ = some (.slice ya ny yc) ∧ u.cell? ⟨w12.heap.size, 0, none⟩ = some (.int .i64 a.k) ∧ u.cell? ⟨w12.heap.size, 1, none⟩ = some (.string a.t) ∧ u.cell? ⟨w12.heap.size, 2, none⟩ = some (.slice aa na ac) ∧ u.cell? ⟨w14.heap.size, 0, none⟩ = some (.int .i64 K) ∧ u.cell? ⟨w14.heap.size, 1, none⟩ = some (.string Tt) ∧ u.cell? ⟨w14.heap.size, 2, none⟩ = some (.slice sb nb cbb) ∧ u.cell? ⟨w16.heap.size, 0, none⟩ = some (.int .i64 old.k) ∧ u.cell? ⟨w16.heap.size, 1, none⟩ = some (.string old.t) ∧ u.cell? ⟨w16.heap.size, 2, none⟩ = some (.slice oa no oc)) ∧ Below W17.heap.size W17 u) W17 := by
            obtain ⟨⟨g1, g2⟩, _⟩ := HALL.out W17 (HBZ.out).1
            obtain ⟨⟨g3, g4⟩, _⟩ := HALL11.out W17 (HBZ.out).2
            exact ⟨⟨g1.cell 0, g1.cell 1, g1.cell 2, g2.cell 0, g2.cell 1, g2.cell 2, g3.cell 0, g3.cell 1, g3.cell 2, g4.cell 0, g4.cell 1, g4.cell 2, HA17.out.cell 0, HA17.out.cell 1, HA17.out.cell 2, HBB17.out.cell 0, HBB17.out.cell 1, HBB17.out.cell 2, HO17.out.cell 0, HO17.out.cell 1, HO17.out.cell 2⟩, Below.refl _ _⟩
          have more : ∀ (u v : World), ((u.cell? ⟨w1.heap.size, 0, none⟩ = some (.int .i64 10) ∧ u.cell? ⟨w1.heap.size, 1, none⟩ = some (.string ⟨#[]⟩) ∧ u.cell? ⟨w1.heap.size, 2, none⟩ = some (.slice ao m cap) ∧ u.cell? ⟨w3.heap.size, 0, none⟩ = some (.int .i64 10) ∧ u.cell? ⟨w3.heap.size, 1, none⟩ = some (.string ⟨#[]⟩) ∧ u.cell? ⟨w3.heap.size, 2, none⟩ = some (.slice ab n cb) ∧ u.cell? ⟨w8.heap.size, 0, none⟩ = some (.int .i64 r.k) ∧ u.cell? ⟨w8.heap.size, 1, none⟩ = some (.string r.t) ∧ u.cell? ⟨w8.heap.size, 2, none⟩ = some (.slice sa nr sc) ∧ u.cell? ⟨w10.heap.size, 0, none⟩ = some (.int .i64 y.k) ∧ u.cell? ⟨w10.heap.size, 1, none⟩ = some (.string y.t) ∧ u.cell? ⟨w10.heap.size, 2, none⟩ = some (.slice ya ny yc) ∧ u.cell? ⟨w12.heap.size, 0, none⟩ = some (.int .i64 a.k) ∧ u.cell? ⟨w12.heap.size, 1, none⟩ = some (.string a.t) ∧ u.cell? ⟨w12.heap.size, 2, none⟩ = some (.slice aa na ac) ∧ u.cell? ⟨w14.heap.size, 0, none⟩ = some (.int .i64 K) ∧ u.cell? ⟨w14.heap.size, 1, none⟩ = some (.string Tt) ∧ u.cell? ⟨w14.heap.size, 2, none⟩ = some (.slice sb nb cbb) ∧ u.cell? ⟨w16.heap.size, 0, none⟩ = some (.int .i64 old.k) ∧ u.cell? ⟨w16.heap.size, 1, none⟩ = some (.string old.t) ∧ u.cell? ⟨w16.heap.size, 2, none⟩ = some (.slice oa no oc)) ∧ Below W17.heap.size W17 u) → Below u.heap.size u v → ((v.cell? ⟨w1.heap.size, 0, none⟩ = some (.int .i64 10) ∧ v.cell? ⟨w1.heap.size, 1, none⟩ = some (.string ⟨#[]⟩) ∧ v.cell? ⟨w1.heap.size, 2, none⟩ = some (.slice ao m cap) ∧ v.cell? ⟨w3.heap.size, 0, none⟩ = some (.int .i64 10) ∧ v.cell? ⟨w3.heap.size, 1, none⟩ = some (.string ⟨#[]⟩) ∧ v.cell? ⟨w3.heap.size, 2, none⟩ = some (.slice ab n cb) ∧ v.cell? ⟨w8.heap.size, 0, none⟩ = some (.int .i64 r.k) ∧ v.cell? ⟨w8.heap.size, 1, none⟩ = some (.string r.t) ∧ v.cell? ⟨w8.heap.size, 2, none⟩ = some (.slice sa nr sc) ∧ v.cell? ⟨w10.heap.size, 0, none⟩ = some (.int .i64 y.k) ∧ v.cell? ⟨w10.heap.size, 1, none⟩ = some (.string y.t) ∧ v.cell? ⟨w10.heap.size, 2, none⟩ = some (.slice ya ny yc) ∧ v.cell? ⟨w12.heap.size, 0, none⟩ = some (.int .i64 a.k) ∧ v.cell? ⟨w12.heap.size, 1, none⟩ = some (.string a.t) ∧ v.cell? ⟨w12.heap.size, 2, none⟩ = some (.slice aa na ac) ∧ v.cell? ⟨w14.heap.size, 0, none⟩ = some (.int .i64 K) ∧ v.cell? ⟨w14.heap.size, 1, none⟩ = some (.string Tt) ∧ v.cell? ⟨w14.heap.size, 2, none⟩ = some (.slice sb nb cbb) ∧ v.cell? ⟨w16.heap.size, 0, none⟩ = some (.int .i64 old.k) ∧ v.cell? ⟨w16.heap.size, 1, none⟩ = some (.string old.t) ∧ v.cell? ⟨w16.heap.size, 2, none⟩ = some (.slice oa no oc)) ∧ Below W17.heap.size W17 v) := fun u v h hb => by
            obtain ⟨⟨h0, h1, h2, h3, h4, h5, h6, h7, h8, h9, h10, h11, h12, h13, h14, h15, h16, h17, h18, h19, h20⟩, hz⟩ := h
            have q : ∀ {p : Addr} {x : Value}, u.cell? p = some x → v.cell? p = some x := fun hp => (hb.cell (World.block_lt_of_cell? u _ hp)).trans hp
            exact ⟨⟨q h0, q h1, q h2, q h3, q h4, q h5, q h6, q h7, q h8, q h9, q h10, q h11, q h12, q h13, q h14, q h15, q h16, q h17, q h18, q h19, q h20⟩, hz.trans (hb.mono hz.size)⟩
          have kn : ∀ (u : World), ((u.cell? ⟨w1.heap.size, 0, none⟩ = some (.int .i64 10) ∧ u.cell? ⟨w1.heap.size, 1, none⟩ = some (.string ⟨#[]⟩) ∧ u.cell? ⟨w1.heap.size, 2, none⟩ = some (.slice ao m cap) ∧ u.cell? ⟨w3.heap.size, 0, none⟩ = some (.int .i64 10) ∧ u.cell? ⟨w3.heap.size, 1, none⟩ = some (.string ⟨#[]⟩) ∧ u.cell? ⟨w3.heap.size, 2, none⟩ = some (.slice ab n cb) ∧ u.cell? ⟨w8.heap.size, 0, none⟩ = some (.int .i64 r.k) ∧ u.cell? ⟨w8.heap.size, 1, none⟩ = some (.string r.t) ∧ u.cell? ⟨w8.heap.size, 2, none⟩ = some (.slice sa nr sc) ∧ u.cell? ⟨w10.heap.size, 0, none⟩ = some (.int .i64 y.k) ∧ u.cell? ⟨w10.heap.size, 1, none⟩ = some (.string y.t) ∧ u.cell? ⟨w10.heap.size, 2, none⟩ = some (.slice ya ny yc) ∧ u.cell? ⟨w12.heap.size, 0, none⟩ = some (.int .i64 a.k) ∧ u.cell? ⟨w12.heap.size, 1, none⟩ = some (.string a.t) ∧ u.cell? ⟨w12.heap.size, 2, none⟩ = some (.slice aa na ac) ∧ u.cell? ⟨w14.heap.size, 0, none⟩ = some (.int .i64 K) ∧ u.cell? ⟨w14.heap.size, 1, none⟩ = some (.string Tt) ∧ u.cell? ⟨w14.heap.size, 2, none⟩ = some (.slice sb nb cbb) ∧ u.cell? ⟨w16.heap.size, 0, none⟩ = some (.int .i64 old.k) ∧ u.cell? ⟨w16.heap.size, 1, none⟩ = some (.string old.t) ∧ u.cell? ⟨w16.heap.size, 2, none⟩ = some (.slice oa no oc)) ∧ Below W17.heap.size W17 u) → Calls Tryd.prog 10 #[] u fun e w' => e = .returned (.bool true) ∧ Below u.heap.size u w' := fun _ h => known_calls T _ (HZ.out _ h.2).2.2.2.2.2.2.2.1
          have sm1 : ∀ (u : World), ((u.cell? ⟨w1.heap.size, 0, none⟩ = some (.int .i64 10) ∧ u.cell? ⟨w1.heap.size, 1, none⟩ = some (.string ⟨#[]⟩) ∧ u.cell? ⟨w1.heap.size, 2, none⟩ = some (.slice ao m cap) ∧ u.cell? ⟨w3.heap.size, 0, none⟩ = some (.int .i64 10) ∧ u.cell? ⟨w3.heap.size, 1, none⟩ = some (.string ⟨#[]⟩) ∧ u.cell? ⟨w3.heap.size, 2, none⟩ = some (.slice ab n cb) ∧ u.cell? ⟨w8.heap.size, 0, none⟩ = some (.int .i64 r.k) ∧ u.cell? ⟨w8.heap.size, 1, none⟩ = some (.string r.t) ∧ u.cell? ⟨w8.heap.size, 2, none⟩ = some (.slice sa nr sc) ∧ u.cell? ⟨w10.heap.size, 0, none⟩ = some (.int .i64 y.k) ∧ u.cell? ⟨w10.heap.size, 1, none⟩ = some (.string y.t) ∧ u.cell? ⟨w10.heap.size, 2, none⟩ = some (.slice ya ny yc) ∧ u.cell? ⟨w12.heap.size, 0, none⟩ = some (.int .i64 a.k) ∧ u.cell? ⟨w12.heap.size, 1, none⟩ = some (.string a.t) ∧ u.cell? ⟨w12.heap.size, 2, none⟩ = some (.slice aa na ac) ∧ u.cell? ⟨w14.heap.size, 0, none⟩ = some (.int .i64 K) ∧ u.cell? ⟨w14.heap.size, 1, none⟩ = some (.string Tt) ∧ u.cell? ⟨w14.heap.size, 2, none⟩ = some (.slice sb nb cbb) ∧ u.cell? ⟨w16.heap.size, 0, none⟩ = some (.int .i64 old.k) ∧ u.cell? ⟨w16.heap.size, 1, none⟩ = some (.string old.t) ∧ u.cell? ⟨w16.heap.size, 2, none⟩ = some (.slice oa no oc)) ∧ Below W17.heap.size W17 u) → Calls Tryd.prog 19 #[.agg #[.int .i64 y.k, .string y.t, .slice ya ny yc], .agg #[.int .i64 10, .string ⟨#[]⟩, .slice ab n cb]] u fun e w' => e = .returned (.bool true) ∧ Below u.heap.size u w' := fun u h => by
            have := same_ok y y u _ _ (HZ.out u h.2).2.2.2.1 (HZ.out u h.2).2.1
            rw [Nd.same_self] at this
            exact this
          have c1 : ∀ (u : World), ((u.cell? ⟨w1.heap.size, 0, none⟩ = some (.int .i64 10) ∧ u.cell? ⟨w1.heap.size, 1, none⟩ = some (.string ⟨#[]⟩) ∧ u.cell? ⟨w1.heap.size, 2, none⟩ = some (.slice ao m cap) ∧ u.cell? ⟨w3.heap.size, 0, none⟩ = some (.int .i64 10) ∧ u.cell? ⟨w3.heap.size, 1, none⟩ = some (.string ⟨#[]⟩) ∧ u.cell? ⟨w3.heap.size, 2, none⟩ = some (.slice ab n cb) ∧ u.cell? ⟨w8.heap.size, 0, none⟩ = some (.int .i64 r.k) ∧ u.cell? ⟨w8.heap.size, 1, none⟩ = some (.string r.t) ∧ u.cell? ⟨w8.heap.size, 2, none⟩ = some (.slice sa nr sc) ∧ u.cell? ⟨w10.heap.size, 0, none⟩ = some (.int .i64 y.k) ∧ u.cell? ⟨w10.heap.size, 1, none⟩ = some (.string y.t) ∧ u.cell? ⟨w10.heap.size, 2, none⟩ = some (.slice ya ny yc) ∧ u.cell? ⟨w12.heap.size, 0, none⟩ = some (.int .i64 a.k) ∧ u.cell? ⟨w12.heap.size, 1, none⟩ = some (.string a.t) ∧ u.cell? ⟨w12.heap.size, 2, none⟩ = some (.slice aa na ac) ∧ u.cell? ⟨w14.heap.size, 0, none⟩ = some (.int .i64 K) ∧ u.cell? ⟨w14.heap.size, 1, none⟩ = some (.string Tt) ∧ u.cell? ⟨w14.heap.size, 2, none⟩ = some (.slice sb nb cbb) ∧ u.cell? ⟨w16.heap.size, 0, none⟩ = some (.int .i64 old.k) ∧ u.cell? ⟨w16.heap.size, 1, none⟩ = some (.string old.t) ∧ u.cell? ⟨w16.heap.size, 2, none⟩ = some (.slice oa no oc)) ∧ Below W17.heap.size W17 u) → Calls Tryd.prog 20 #[.agg #[.int .i64 r.k, .string r.t, .slice sa nr sc]] u fun e w' => e = .returned (.int .i64 ((c : Int) - (co : Int) + (cy : Int))) ∧ Below u.heap.size u w' := fun _ h => by
            rw [← HCR.out]; exact count_calls r (by have := HRW.out; have := Nd.count_le r; omega) _ _ (HZ.out _ h.2).2.2.1
          have c2 : ∀ (u : World), ((u.cell? ⟨w1.heap.size, 0, none⟩ = some (.int .i64 10) ∧ u.cell? ⟨w1.heap.size, 1, none⟩ = some (.string ⟨#[]⟩) ∧ u.cell? ⟨w1.heap.size, 2, none⟩ = some (.slice ao m cap) ∧ u.cell? ⟨w3.heap.size, 0, none⟩ = some (.int .i64 10) ∧ u.cell? ⟨w3.heap.size, 1, none⟩ = some (.string ⟨#[]⟩) ∧ u.cell? ⟨w3.heap.size, 2, none⟩ = some (.slice ab n cb) ∧ u.cell? ⟨w8.heap.size, 0, none⟩ = some (.int .i64 r.k) ∧ u.cell? ⟨w8.heap.size, 1, none⟩ = some (.string r.t) ∧ u.cell? ⟨w8.heap.size, 2, none⟩ = some (.slice sa nr sc) ∧ u.cell? ⟨w10.heap.size, 0, none⟩ = some (.int .i64 y.k) ∧ u.cell? ⟨w10.heap.size, 1, none⟩ = some (.string y.t) ∧ u.cell? ⟨w10.heap.size, 2, none⟩ = some (.slice ya ny yc) ∧ u.cell? ⟨w12.heap.size, 0, none⟩ = some (.int .i64 a.k) ∧ u.cell? ⟨w12.heap.size, 1, none⟩ = some (.string a.t) ∧ u.cell? ⟨w12.heap.size, 2, none⟩ = some (.slice aa na ac) ∧ u.cell? ⟨w14.heap.size, 0, none⟩ = some (.int .i64 K) ∧ u.cell? ⟨w14.heap.size, 1, none⟩ = some (.string Tt) ∧ u.cell? ⟨w14.heap.size, 2, none⟩ = some (.slice sb nb cbb) ∧ u.cell? ⟨w16.heap.size, 0, none⟩ = some (.int .i64 old.k) ∧ u.cell? ⟨w16.heap.size, 1, none⟩ = some (.string old.t) ∧ u.cell? ⟨w16.heap.size, 2, none⟩ = some (.slice oa no oc)) ∧ Below W17.heap.size W17 u) → Calls Tryd.prog 20 #[.agg #[.int .i64 10, .string ⟨#[]⟩, .slice ao m cap]] u fun e w' => e = .returned (.int .i64 (c : Int)) ∧ Below u.heap.size u w' := fun _ h => by
            rw [← HC.out]; exact count_calls x (by rw [HC.out]; omega) _ _ (HZ.out _ h.2).1
          have c3 : ∀ (u : World), ((u.cell? ⟨w1.heap.size, 0, none⟩ = some (.int .i64 10) ∧ u.cell? ⟨w1.heap.size, 1, none⟩ = some (.string ⟨#[]⟩) ∧ u.cell? ⟨w1.heap.size, 2, none⟩ = some (.slice ao m cap) ∧ u.cell? ⟨w3.heap.size, 0, none⟩ = some (.int .i64 10) ∧ u.cell? ⟨w3.heap.size, 1, none⟩ = some (.string ⟨#[]⟩) ∧ u.cell? ⟨w3.heap.size, 2, none⟩ = some (.slice ab n cb) ∧ u.cell? ⟨w8.heap.size, 0, none⟩ = some (.int .i64 r.k) ∧ u.cell? ⟨w8.heap.size, 1, none⟩ = some (.string r.t) ∧ u.cell? ⟨w8.heap.size, 2, none⟩ = some (.slice sa nr sc) ∧ u.cell? ⟨w10.heap.size, 0, none⟩ = some (.int .i64 y.k) ∧ u.cell? ⟨w10.heap.size, 1, none⟩ = some (.string y.t) ∧ u.cell? ⟨w10.heap.size, 2, none⟩ = some (.slice ya ny yc) ∧ u.cell? ⟨w12.heap.size, 0, none⟩ = some (.int .i64 a.k) ∧ u.cell? ⟨w12.heap.size, 1, none⟩ = some (.string a.t) ∧ u.cell? ⟨w12.heap.size, 2, none⟩ = some (.slice aa na ac) ∧ u.cell? ⟨w14.heap.size, 0, none⟩ = some (.int .i64 K) ∧ u.cell? ⟨w14.heap.size, 1, none⟩ = some (.string Tt) ∧ u.cell? ⟨w14.heap.size, 2, none⟩ = some (.slice sb nb cbb) ∧ u.cell? ⟨w16.heap.size, 0, none⟩ = some (.int .i64 old.k) ∧ u.cell? ⟨w16.heap.size, 1, none⟩ = some (.string old.t) ∧ u.cell? ⟨w16.heap.size, 2, none⟩ = some (.slice oa no oc)) ∧ Below W17.heap.size W17 u) → Calls Tryd.prog 20 #[.agg #[.int .i64 old.k, .string old.t, .slice oa no oc]] u fun e w' => e = .returned (.int .i64 (co : Int)) ∧ Below u.heap.size u w' := fun _ h => by
            rw [← HCO.out]; exact count_calls old (by rw [HCO.out]; omega) _ _ (HZ.out _ h.2).2.2.2.2.2.2.1
          have c4 : ∀ (u : World), ((u.cell? ⟨w1.heap.size, 0, none⟩ = some (.int .i64 10) ∧ u.cell? ⟨w1.heap.size, 1, none⟩ = some (.string ⟨#[]⟩) ∧ u.cell? ⟨w1.heap.size, 2, none⟩ = some (.slice ao m cap) ∧ u.cell? ⟨w3.heap.size, 0, none⟩ = some (.int .i64 10) ∧ u.cell? ⟨w3.heap.size, 1, none⟩ = some (.string ⟨#[]⟩) ∧ u.cell? ⟨w3.heap.size, 2, none⟩ = some (.slice ab n cb) ∧ u.cell? ⟨w8.heap.size, 0, none⟩ = some (.int .i64 r.k) ∧ u.cell? ⟨w8.heap.size, 1, none⟩ = some (.string r.t) ∧ u.cell? ⟨w8.heap.size, 2, none⟩ = some (.slice sa nr sc) ∧ u.cell? ⟨w10.heap.size, 0, none⟩ = some (.int .i64 y.k) ∧ u.cell? ⟨w10.heap.size, 1, none⟩ = some (.string y.t) ∧ u.cell? ⟨w10.heap.size, 2, none⟩ = some (.slice ya ny yc) ∧ u.cell? ⟨w12.heap.size, 0, none⟩ = some (.int .i64 a.k) ∧ u.cell? ⟨w12.heap.size, 1, none⟩ = some (.string a.t) ∧ u.cell? ⟨w12.heap.size, 2, none⟩ = some (.slice aa na ac) ∧ u.cell? ⟨w14.heap.size, 0, none⟩ = some (.int .i64 K) ∧ u.cell? ⟨w14.heap.size, 1, none⟩ = some (.string Tt) ∧ u.cell? ⟨w14.heap.size, 2, none⟩ = some (.slice sb nb cbb) ∧ u.cell? ⟨w16.heap.size, 0, none⟩ = some (.int .i64 old.k) ∧ u.cell? ⟨w16.heap.size, 1, none⟩ = some (.string old.t) ∧ u.cell? ⟨w16.heap.size, 2, none⟩ = some (.slice oa no oc)) ∧ Below W17.heap.size W17 u) → Calls Tryd.prog 20 #[.agg #[.int .i64 10, .string ⟨#[]⟩, .slice ab n cb]] u fun e w' => e = .returned (.int .i64 (cy : Int)) ∧ Below u.heap.size u w' := fun _ h => by
            rw [← HCY.out]; exact count_calls y (by rw [HCY.out]; omega) _ _ (HZ.out _ h.2).2.1
          have tr : ∀ (u' : World), ((u'.cell? ⟨w1.heap.size, 0, none⟩ = some (.int .i64 10) ∧ u'.cell? ⟨w1.heap.size, 1, none⟩ = some (.string ⟨#[]⟩) ∧ u'.cell? ⟨w1.heap.size, 2, none⟩ = some (.slice ao m cap) ∧ u'.cell? ⟨w3.heap.size, 0, none⟩ = some (.int .i64 10) ∧ u'.cell? ⟨w3.heap.size, 1, none⟩ = some (.string ⟨#[]⟩) ∧ u'.cell? ⟨w3.heap.size, 2, none⟩ = some (.slice ab n cb) ∧ u'.cell? ⟨w8.heap.size, 0, none⟩ = some (.int .i64 r.k) ∧ u'.cell? ⟨w8.heap.size, 1, none⟩ = some (.string r.t) ∧ u'.cell? ⟨w8.heap.size, 2, none⟩ = some (.slice sa nr sc) ∧ u'.cell? ⟨w10.heap.size, 0, none⟩ = some (.int .i64 y.k) ∧ u'.cell? ⟨w10.heap.size, 1, none⟩ = some (.string y.t) ∧ u'.cell? ⟨w10.heap.size, 2, none⟩ = some (.slice ya ny yc) ∧ u'.cell? ⟨w12.heap.size, 0, none⟩ = some (.int .i64 a.k) ∧ u'.cell? ⟨w12.heap.size, 1, none⟩ = some (.string a.t) ∧ u'.cell? ⟨w12.heap.size, 2, none⟩ = some (.slice aa na ac) ∧ u'.cell? ⟨w14.heap.size, 0, none⟩ = some (.int .i64 K) ∧ u'.cell? ⟨w14.heap.size, 1, none⟩ = some (.string Tt) ∧ u'.cell? ⟨w14.heap.size, 2, none⟩ = some (.slice sb nb cbb) ∧ u'.cell? ⟨w16.heap.size, 0, none⟩ = some (.int .i64 old.k) ∧ u'.cell? ⟨w16.heap.size, 1, none⟩ = some (.string old.t) ∧ u'.cell? ⟨w16.heap.size, 2, none⟩ = some (.slice oa no oc)) ∧ Below W17.heap.size W17 u') → Calls Tryd.prog 11 #[u] u' fun e w' => ∃ v, e = .returned v ∧ NdAt (Lt w'.heap.size) w' x v ∧ Below u'.heap.size u' w' := fun u' h => by
            refine (HTREE.out u' (HZ.out u' h.2).2.2.2.2.2.2.2.2.1).mono ?_
            rintro e w' ⟨s, rfl, hbd, hb⟩
            exact ⟨_, rfl, by rw [← HXF.out]; exact NdAt.mk hbd.kids.toLt, hb⟩
          have sm3 : ∀ (u : World) (v : Value), ((u.cell? ⟨w1.heap.size, 0, none⟩ = some (.int .i64 10) ∧ u.cell? ⟨w1.heap.size, 1, none⟩ = some (.string ⟨#[]⟩) ∧ u.cell? ⟨w1.heap.size, 2, none⟩ = some (.slice ao m cap) ∧ u.cell? ⟨w3.heap.size, 0, none⟩ = some (.int .i64 10) ∧ u.cell? ⟨w3.heap.size, 1, none⟩ = some (.string ⟨#[]⟩) ∧ u.cell? ⟨w3.heap.size, 2, none⟩ = some (.slice ab n cb) ∧ u.cell? ⟨w8.heap.size, 0, none⟩ = some (.int .i64 r.k) ∧ u.cell? ⟨w8.heap.size, 1, none⟩ = some (.string r.t) ∧ u.cell? ⟨w8.heap.size, 2, none⟩ = some (.slice sa nr sc) ∧ u.cell? ⟨w10.heap.size, 0, none⟩ = some (.int .i64 y.k) ∧ u.cell? ⟨w10.heap.size, 1, none⟩ = some (.string y.t) ∧ u.cell? ⟨w10.heap.size, 2, none⟩ = some (.slice ya ny yc) ∧ u.cell? ⟨w12.heap.size, 0, none⟩ = some (.int .i64 a.k) ∧ u.cell? ⟨w12.heap.size, 1, none⟩ = some (.string a.t) ∧ u.cell? ⟨w12.heap.size, 2, none⟩ = some (.slice aa na ac) ∧ u.cell? ⟨w14.heap.size, 0, none⟩ = some (.int .i64 K) ∧ u.cell? ⟨w14.heap.size, 1, none⟩ = some (.string Tt) ∧ u.cell? ⟨w14.heap.size, 2, none⟩ = some (.slice sb nb cbb) ∧ u.cell? ⟨w16.heap.size, 0, none⟩ = some (.int .i64 old.k) ∧ u.cell? ⟨w16.heap.size, 1, none⟩ = some (.string old.t) ∧ u.cell? ⟨w16.heap.size, 2, none⟩ = some (.slice oa no oc)) ∧ Below W17.heap.size W17 u) → NdAt (Lt u.heap.size) u x v → Calls Tryd.prog 19 #[.agg #[.int .i64 10, .string ⟨#[]⟩, .slice ao m cap], v] u fun e w' => e = .returned (.bool true) ∧ Below u.heap.size u w' := fun u v h hv => by
            have := same_ok x x u _ v (HZ.out u h.2).1 hv
            rw [Nd.same_self] at this
            exact this
          have H_more := Lib.hid more
          have H_kn := Lib.hid kn
          have H_sm1 := Lib.hid sm1
          have H_c1 := Lib.hid c1
          have H_c2 := Lib.hid c2
          have H_c3 := Lib.hid c3
          have H_c4 := Lib.hid c4
          have H_tr := Lib.hid tr
          have H_sm3 := Lib.hid sm3
          have H_S := Lib.hid hS
          obtain ⟨⟨e0, e1, e2, e3, e4, e5, e6, e7, e8, e9, e10, e11, e12, e13, e14, e15, e16, e17, e18, e19, e20⟩, _⟩ := id hS
          clear hS more kn sm1 c1 c2 c3 c4 tr sm3
          refine wp_region_held_drew (S := fun u => (u.cell? ⟨w1.heap.size, 0, none⟩ = some (.int .i64 10) ∧ u.cell? ⟨w1.heap.size, 1, none⟩ = some (.string ⟨#[]⟩) ∧ u.cell? ⟨w1.heap.size, 2, none⟩ = some (.slice ao m cap) ∧ u.cell? ⟨w3.heap.size, 0, none⟩ = some (.int .i64 10) ∧ u.cell? ⟨w3.heap.size, 1, none⟩ = some (.string ⟨#[]⟩) ∧ u.cell? ⟨w3.heap.size, 2, none⟩ = some (.slice ab n cb) ∧ u.cell? ⟨w8.heap.size, 0, none⟩ = some (.int .i64 r.k) ∧ u.cell? ⟨w8.heap.size, 1, none⟩ = some (.string r.t) ∧ u.cell? ⟨w8.heap.size, 2, none⟩ = some (.slice sa nr sc) ∧ u.cell? ⟨w10.heap.size, 0, none⟩ = some (.int .i64 y.k) ∧ u.cell? ⟨w10.heap.size, 1, none⟩ = some (.string y.t) ∧ u.cell? ⟨w10.heap.size, 2, none⟩ = some (.slice ya ny yc) ∧ u.cell? ⟨w12.heap.size, 0, none⟩ = some (.int .i64 a.k) ∧ u.cell? ⟨w12.heap.size, 1, none⟩ = some (.string a.t) ∧ u.cell? ⟨w12.heap.size, 2, none⟩ = some (.slice aa na ac) ∧ u.cell? ⟨w14.heap.size, 0, none⟩ = some (.int .i64 K) ∧ u.cell? ⟨w14.heap.size, 1, none⟩ = some (.string Tt) ∧ u.cell? ⟨w14.heap.size, 2, none⟩ = some (.slice sb nb cbb) ∧ u.cell? ⟨w16.heap.size, 0, none⟩ = some (.int .i64 old.k) ∧ u.cell? ⟨w16.heap.size, 1, none⟩ = some (.string old.t) ∧ u.cell? ⟨w16.heap.size, 2, none⟩ = some (.slice oa no oc)) ∧ Below W17.heap.size W17 u) (by kernel_rfl) ?_ (fun hHeld0 => ?_)
          · try dsimp only
            first | assumption | exact H_more.out _ _ H_S.out ((Below.refl _ _).drew) | exact H_more.out _ _ (by assumption) (by assumption)
          refine wpAnyH_ready (rs := [0]) (by kernel_rfl) (by simp) ?_
          refine AllReadyH.cons (o := { dst := some 106, op := Op.call _, type := _, pos := _, after := _, guard := none }) rfl (fun K hK => ?_) AllReadyH.nil
          go_simp
          go_at_call 10; with_reducible refine (H_kn.out _ (by assumption)).mono ?_; rintro _ u1 ⟨rfl, hbn⟩; have hcs := H_more.out _ _ (by assumption) hbn
          try go_wp2_with fail
          refine hK.out _ _ ?_ (fun hHeld1 => ?_)
          · try dsimp only
            first | assumption | exact H_more.out _ _ H_S.out ((Below.refl _ _).drew) | exact H_more.out _ _ (by assumption) (by assumption)
          clear hK K hHeld0
          try simp only [Act.put, List.setIfInBounds_toArray, List.set_cons_zero, List.set_cons_succ]
          refine wpAnyH_take (i := 1) (oi := { dst := some 107, op := Op.move (Operand.tmp 106), type := _, pos := _, after := _, guard := none }) (v := ?_) rfl (by kernel_rfl) (by kernel_rfl) (by kernel_rfl) (fun _ _ _ h => h) (Or.inl ⟨by rfl, ?_⟩) (by assumption) ?_
          rotate_left 1
          · ((intro w hSw; (try dsimp only at hSw); go_simp) <;> (try with_reducible rfl))
          try simp only [Act.put, List.setIfInBounds_toArray, List.set_cons_zero, List.set_cons_succ]
          refine wpAnyH_take (i := 2) (oi := { dst := some 108, op := Op.move (Operand.tmp 15), type := _, pos := _, after := _, guard := some (1, true) }) (v := ?_) rfl (by kernel_rfl) (by kernel_rfl) (by kernel_rfl) (fun _ _ _ h => h) (Or.inl ⟨by rfl, ?_⟩) (by assumption) ?_
          rotate_left 1
          · ((intro w hSw; (try dsimp only at hSw); go_simp) <;> (try with_reducible rfl))
          try simp only [Act.put, List.setIfInBounds_toArray, List.set_cons_zero, List.set_cons_succ]
          refine wpAnyH_take (i := 3) (oi := { dst := some 109, op := Op.pick (Operand.tmp 107) (Operand.tmp 108) (Operand.const (Value.bool false)), type := _, pos := _, after := _, guard := none }) (v := ?_) rfl (by kernel_rfl) (by kernel_rfl) (by kernel_rfl) (fun _ _ _ h => h) (Or.inl ⟨by rfl, ?_⟩) (by assumption) ?_
          rotate_left 1
          · ((intro w hSw; (try dsimp only at hSw); go_simp) <;> (try with_reducible rfl))
          try simp only [Act.put, List.setIfInBounds_toArray, List.set_cons_zero, List.set_cons_succ]
          refine wpAnyH_take (i := 4) (oi := { dst := some 110, op := Op.move (Operand.tmp 109), type := _, pos := _, after := _, guard := none }) (v := ?_) rfl (by kernel_rfl) (by kernel_rfl) (by kernel_rfl) (fun _ _ _ h => h) (Or.inl ⟨by rfl, ?_⟩) (by assumption) ?_
          rotate_left 1
          · ((intro w hSw; (try dsimp only at hSw); go_simp) <;> (try with_reducible rfl))
          try simp only [Act.put, List.setIfInBounds_toArray, List.set_cons_zero, List.set_cons_succ]
          refine wpAnyH_take (i := 5) (oi := { dst := some 111, op := Op.move (Operand.tmp 17), type := _, pos := _, after := _, guard := some (4, true) }) (v := ?_) rfl (by kernel_rfl) (by kernel_rfl) (by kernel_rfl) (fun _ _ _ h => h) (Or.inl ⟨by rfl, ?_⟩) (by assumption) ?_
          rotate_left 1
          · ((intro w hSw; (try dsimp only at hSw); go_simp) <;> (try with_reducible rfl))
          try simp only [Act.put, List.setIfInBounds_toArray, List.set_cons_zero, List.set_cons_succ]
          refine wpAnyH_take (i := 6) (oi := { dst := some 112, op := Op.pick (Operand.tmp 110) (Operand.tmp 111) (Operand.const (Value.bool false)), type := _, pos := _, after := _, guard := none }) (v := ?_) rfl (by kernel_rfl) (by kernel_rfl) (by kernel_rfl) (fun _ _ _ h => h) (Or.inl ⟨by rfl, ?_⟩) (by assumption) ?_
          rotate_left 1
          · ((intro w hSw; (try dsimp only at hSw); go_simp) <;> (try with_reducible rfl))
          try simp only [Act.put, List.setIfInBounds_toArray, List.set_cons_zero, List.set_cons_succ]
          refine wpAnyH_take (i := 7) (oi := { dst := some 113, op := Op.move (Operand.tmp 112), type := _, pos := _, after := _, guard := none }) (v := ?_) rfl (by kernel_rfl) (by kernel_rfl) (by kernel_rfl) (fun _ _ _ h => h) (Or.inl ⟨by rfl, ?_⟩) (by assumption) ?_
          rotate_left 1
          · ((intro w hSw; (try dsimp only at hSw); go_simp) <;> (try with_reducible rfl))
          try simp only [Act.put, List.setIfInBounds_toArray, List.set_cons_zero, List.set_cons_succ]
          refine wpAnyH_take (i := 8) (oi := { dst := some 114, op := Op.load _ (Operand.tmp 16), type := _, pos := _, after := _, guard := some (7, true) }) (v := ?_) rfl (by kernel_rfl) (by kernel_rfl) (by kernel_rfl) (fun _ _ _ h => h) (Or.inl ⟨by rfl, ?_⟩) (by assumption) ?_
          rotate_left 1
          · ((intro w hSw; (try dsimp only at hSw); go_simp) <;> (try with_reducible rfl))
          try simp only [Act.put, List.setIfInBounds_toArray, List.set_cons_zero, List.set_cons_succ]
          refine wpAnyH_take (i := 9) (oi := { dst := some 115, op := Op.load _ (Operand.tmp 10), type := _, pos := _, after := _, guard := some (7, true) }) (v := ?_) rfl (by kernel_rfl) (by kernel_rfl) (by kernel_rfl) (fun _ _ _ h => h) (Or.inl ⟨by rfl, ?_⟩) (by assumption) ?_
          rotate_left 1
          · ((intro w hSw; (try dsimp only at hSw); go_simp) <;> (try with_reducible rfl))
          try simp only [Act.put, List.setIfInBounds_toArray, List.set_cons_zero, List.set_cons_succ]
          refine wpAnyH_ready (rs := [10]) (by kernel_rfl) (by simp) ?_
          refine AllReadyH.cons (o := { dst := some 116, op := Op.call _, type := _, pos := _, after := _, guard := some (7, true) }) rfl (fun K hK => ?_) AllReadyH.nil
          go_simp
          go_at_call 19; with_reducible refine (H_sm1.out _ (by assumption)).mono ?_; rintro _ u1 ⟨rfl, hbn⟩; have hcs := H_more.out _ _ (by assumption) hbn
          try go_wp2_with fail
          refine hK.out _ _ ?_ (fun hHeld2 => ?_)
          · try dsimp only
            first | assumption | exact H_more.out _ _ H_S.out ((Below.refl _ _).drew) | exact H_more.out _ _ (by assumption) (by assumption)
          clear hK K hHeld1
          try simp only [Act.put, List.setIfInBounds_toArray, List.set_cons_zero, List.set_cons_succ]
          refine wpAnyH_take (i := 11) (oi := { dst := some 117, op := Op.pick (Operand.tmp 113) (Operand.tmp 116) (Operand.const (Value.bool false)), type := _, pos := _, after := _, guard := none }) (v := ?_) rfl (by kernel_rfl) (by kernel_rfl) (by kernel_rfl) (fun _ _ _ h => h) (Or.inl ⟨by rfl, ?_⟩) (by assumption) ?_
          rotate_left 1
          · ((intro w hSw; (try dsimp only at hSw); go_simp) <;> (try with_reducible rfl))
          try simp only [Act.put, List.setIfInBounds_toArray, List.set_cons_zero, List.set_cons_succ]
          refine wpAnyH_take (i := 12) (oi := { dst := some 118, op := Op.move (Operand.tmp 117), type := _, pos := _, after := _, guard := none }) (v := ?_) rfl (by kernel_rfl) (by kernel_rfl) (by kernel_rfl) (fun _ _ _ h => h) (Or.inl ⟨by rfl, ?_⟩) (by assumption) ?_
          rotate_left 1
          · ((intro w hSw; (try dsimp only at hSw); go_simp) <;> (try with_reducible rfl))
          try simp only [Act.put, List.setIfInBounds_toArray, List.set_cons_zero, List.set_cons_succ]
          refine wpAnyH_take (i := 13) (oi := { dst := some 119, op := Op.move (Operand.tmp 21), type := _, pos := _, after := _, guard := some (12, true) }) (v := ?_) rfl (by kernel_rfl) (by kernel_rfl) (by kernel_rfl) (fun _ _ _ h => h) (Or.inl ⟨by rfl, ?_⟩) (by assumption) ?_
          rotate_left 1
          · ((intro w hSw; (try dsimp only at hSw); go_simp) <;> (try with_reducible rfl))
          try simp only [Act.put, List.setIfInBounds_toArray, List.set_cons_zero, List.set_cons_succ]
          refine wpAnyH_take (i := 14) (oi := { dst := some 120, op := Op.pick (Operand.tmp 118) (Operand.tmp 119) (Operand.const (Value.bool false)), type := _, pos := _, after := _, guard := none }) (v := ?_) rfl (by kernel_rfl) (by kernel_rfl) (by kernel_rfl) (fun _ _ _ h => h) (Or.inl ⟨by rfl, ?_⟩) (by assumption) ?_
          rotate_left 1
          · ((intro w hSw; (try dsimp only at hSw); go_simp) <;> (try with_reducible rfl))
          try simp only [Act.put, List.setIfInBounds_toArray, List.set_cons_zero, List.set_cons_succ]
          refine wpAnyH_take (i := 15) (oi := { dst := some 121, op := Op.move (Operand.tmp 120), type := _, pos := _, after := _, guard := none }) (v := ?_) rfl (by kernel_rfl) (by kernel_rfl) (by kernel_rfl) (fun _ _ _ h => h) (Or.inl ⟨by rfl, ?_⟩) (by assumption) ?_
          rotate_left 1
          · ((intro w hSw; (try dsimp only at hSw); go_simp) <;> (try with_reducible rfl))
          try simp only [Act.put, List.setIfInBounds_toArray, List.set_cons_zero, List.set_cons_succ]
          refine wpAnyH_take (i := 16) (oi := { dst := some 122, op := Op.move (Operand.tmp 18), type := _, pos := _, after := _, guard := some (15, true) }) (v := ?_) rfl (by kernel_rfl) (by kernel_rfl) (by kernel_rfl) (fun _ _ _ h => h) (Or.inl ⟨by rfl, ?_⟩) (by assumption) ?_
          rotate_left 1
          · ((intro w hSw; (try dsimp only at hSw); go_simp) <;> (try with_reducible rfl))
          try simp only [Act.put, List.setIfInBounds_toArray, List.set_cons_zero, List.set_cons_succ]
          refine wpAnyH_take (i := 17) (oi := { dst := some 123, op := Op.unOp UnOp.not _ (Operand.tmp 122), type := _, pos := _, after := _, guard := some (15, true) }) (v := ?_) rfl (by kernel_rfl) (by kernel_rfl) (by kernel_rfl) (fun _ _ _ h => h) (Or.inl ⟨by rfl, ?_⟩) (by assumption) ?_
          rotate_left 1
          · ((intro w hSw; (try dsimp only at hSw); go_simp) <;> (try with_reducible rfl))
          try simp only [Act.put, List.setIfInBounds_toArray, List.set_cons_zero, List.set_cons_succ]
          refine wpAnyH_take (i := 18) (oi := { dst := some 124, op := Op.move (Operand.tmp 123), type := _, pos := _, after := _, guard := some (15, true) }) (v := ?_) rfl (by kernel_rfl) (by kernel_rfl) (by kernel_rfl) (fun _ _ _ h => h) (Or.inl ⟨by rfl, ?_⟩) (by assumption) ?_
          rotate_left 1
          · ((intro w hSw; (try dsimp only at hSw); go_simp) <;> (try with_reducible rfl))
          try simp only [Act.put, List.setIfInBounds_toArray, List.set_cons_zero, List.set_cons_succ]
          refine wpAnyH_take (i := 19) (oi := { dst := some 125, op := Op.move (Operand.tmp 23), type := _, pos := _, after := _, guard := some (18, false) }) (v := undef) rfl (by kernel_rfl) (by kernel_rfl) (by kernel_rfl) (fun _ _ _ h => h) (Or.inr ⟨by rfl, rfl⟩) (by assumption) ?_
          try simp only [Act.put, List.setIfInBounds_toArray, List.set_cons_zero, List.set_cons_succ]
          refine wpAnyH_take (i := 20) (oi := { dst := some 126, op := Op.move (Operand.tmp 125), type := _, pos := _, after := _, guard := some (18, false) }) (v := undef) rfl (by kernel_rfl) (by kernel_rfl) (by kernel_rfl) (fun _ _ _ h => h) (Or.inr ⟨by rfl, rfl⟩) (by assumption) ?_
          try simp only [Act.put, List.setIfInBounds_toArray, List.set_cons_zero, List.set_cons_succ]
          refine wpAnyH_take (i := 21) (oi := { dst := some 127, op := Op.load _ (Operand.tmp 20), type := _, pos := _, after := _, guard := some (20, true) }) (v := undef) rfl (by kernel_rfl) (by kernel_rfl) (by kernel_rfl) (fun _ _ _ h => h) (Or.inr ⟨by rfl, rfl⟩) (by assumption) ?_
          try simp only [Act.put, List.setIfInBounds_toArray, List.set_cons_zero, List.set_cons_succ]
          refine wpAnyH_take (i := 22) (oi := { dst := some 128, op := Op.load _ (Operand.tmp 22), type := _, pos := _, after := _, guard := some (20, true) }) (v := undef) rfl (by kernel_rfl) (by kernel_rfl) (by kernel_rfl) (fun _ _ _ h => h) (Or.inr ⟨by rfl, rfl⟩) (by assumption) ?_
          try simp only [Act.put, List.setIfInBounds_toArray, List.set_cons_zero, List.set_cons_succ]
          refine wpAnyH_take (i := 23) (oi := { dst := some 129, op := Op.call _, type := _, pos := _, after := _, guard := some (20, true) }) (v := undef) rfl (by kernel_rfl) (by kernel_rfl) (by kernel_rfl) (fun _ _ _ h => h) (Or.inr ⟨by rfl, rfl⟩) (by assumption) ?_
          try simp only [Act.put, List.setIfInBounds_toArray, List.set_cons_zero, List.set_cons_succ]
          refine wpAnyH_take (i := 24) (oi := { dst := some 130, op := Op.pick (Operand.tmp 126) (Operand.tmp 129) (Operand.const (Value.bool false)), type := _, pos := _, after := _, guard := some (18, false) }) (v := undef) rfl (by kernel_rfl) (by kernel_rfl) (by kernel_rfl) (fun _ _ _ h => h) (Or.inr ⟨by rfl, rfl⟩) (by assumption) ?_
          try simp only [Act.put, List.setIfInBounds_toArray, List.set_cons_zero, List.set_cons_succ]
          refine wpAnyH_take (i := 25) (oi := { dst := some 131, op := Op.pick (Operand.tmp 124) (Operand.const (Value.bool true)) (Operand.tmp 130), type := _, pos := _, after := _, guard := some (15, true) }) (v := ?_) rfl (by kernel_rfl) (by kernel_rfl) (by kernel_rfl) (fun _ _ _ h => h) (Or.inl ⟨by rfl, ?_⟩) (by assumption) ?_
          rotate_left 1
          · ((intro w hSw; (try dsimp only at hSw); go_simp) <;> (try with_reducible rfl))
          try simp only [Act.put, List.setIfInBounds_toArray, List.set_cons_zero, List.set_cons_succ]
          refine wpAnyH_take (i := 26) (oi := { dst := some 132, op := Op.pick (Operand.tmp 121) (Operand.tmp 131) (Operand.const (Value.bool false)), type := _, pos := _, after := _, guard := none }) (v := ?_) rfl (by kernel_rfl) (by kernel_rfl) (by kernel_rfl) (fun _ _ _ h => h) (Or.inl ⟨by rfl, ?_⟩) (by assumption) ?_
          rotate_left 1
          · ((intro w hSw; (try dsimp only at hSw); go_simp) <;> (try with_reducible rfl))
          try simp only [Act.put, List.setIfInBounds_toArray, List.set_cons_zero, List.set_cons_succ]
          refine wpAnyH_take (i := 27) (oi := { dst := some 133, op := Op.move (Operand.tmp 132), type := _, pos := _, after := _, guard := none }) (v := ?_) rfl (by kernel_rfl) (by kernel_rfl) (by kernel_rfl) (fun _ _ _ h => h) (Or.inl ⟨by rfl, ?_⟩) (by assumption) ?_
          rotate_left 1
          · ((intro w hSw; (try dsimp only at hSw); go_simp) <;> (try with_reducible rfl))
          try simp only [Act.put, List.setIfInBounds_toArray, List.set_cons_zero, List.set_cons_succ]
          refine wpAnyH_take (i := 28) (oi := { dst := some 134, op := Op.load _ (Operand.tmp 14), type := _, pos := _, after := _, guard := some (27, true) }) (v := ?_) rfl (by kernel_rfl) (by kernel_rfl) (by kernel_rfl) (fun _ _ _ h => h) (Or.inl ⟨by rfl, ?_⟩) (by assumption) ?_
          rotate_left 1
          · ((intro w hSw; (try dsimp only at hSw); go_simp) <;> (try with_reducible rfl))
          try simp only [Act.put, List.setIfInBounds_toArray, List.set_cons_zero, List.set_cons_succ]
          refine wpAnyH_take (i := 30) (oi := { dst := some 136, op := Op.load _ (Operand.tmp 9), type := _, pos := _, after := _, guard := some (27, true) }) (v := ?_) rfl (by kernel_rfl) (by kernel_rfl) (by kernel_rfl) (fun _ _ _ h => h) (Or.inl ⟨by rfl, ?_⟩) (by assumption) ?_
          rotate_left 1
          · ((intro w hSw; (try dsimp only at hSw); go_simp) <;> (try with_reducible rfl))
          try simp only [Act.put, List.setIfInBounds_toArray, List.set_cons_zero, List.set_cons_succ]
          refine wpAnyH_take (i := 32) (oi := { dst := some 138, op := Op.load _ (Operand.tmp 24), type := _, pos := _, after := _, guard := some (27, true) }) (v := ?_) rfl (by kernel_rfl) (by kernel_rfl) (by kernel_rfl) (fun _ _ _ h => h) (Or.inl ⟨by rfl, ?_⟩) (by assumption) ?_
          rotate_left 1
          · ((intro w hSw; (try dsimp only at hSw); go_simp) <;> (try with_reducible rfl))
          try simp only [Act.put, List.setIfInBounds_toArray, List.set_cons_zero, List.set_cons_succ]
          refine wpAnyH_take (i := 35) (oi := { dst := some 141, op := Op.load _ (Operand.tmp 10), type := _, pos := _, after := _, guard := some (27, true) }) (v := ?_) rfl (by kernel_rfl) (by kernel_rfl) (by kernel_rfl) (fun _ _ _ h => h) (Or.inl ⟨by rfl, ?_⟩) (by assumption) ?_
          rotate_left 1
          · ((intro w hSw; (try dsimp only at hSw); go_simp) <;> (try with_reducible rfl))
          try simp only [Act.put, List.setIfInBounds_toArray, List.set_cons_zero, List.set_cons_succ]
          refine wpAnyH_ready (rs := [29]) (by kernel_rfl) (by simp) ?_
          refine AllReadyH.cons (o := { dst := some 135, op := Op.call _, type := _, pos := _, after := _, guard := some (27, true) }) rfl (fun K hK => ?_) AllReadyH.nil
          go_simp
          go_at_call 20; with_reducible refine (H_c1.out _ (by assumption)).mono ?_; rintro _ u1 ⟨rfl, hbn⟩; have hcs := H_more.out _ _ (by assumption) hbn
          try go_wp2_with fail
          refine hK.out _ _ ?_ (fun hHeld3 => ?_)
          · try dsimp only
            first | assumption | exact H_more.out _ _ H_S.out ((Below.refl _ _).drew) | exact H_more.out _ _ (by assumption) (by assumption)
          clear hK K hHeld2
          try simp only [Act.put, List.setIfInBounds_toArray, List.set_cons_zero, List.set_cons_succ]
          refine wpAnyH_ready (rs := [31]) (by kernel_rfl) (by simp) ?_
          refine AllReadyH.cons (o := { dst := some 137, op := Op.call _, type := _, pos := _, after := _, guard := some (27, true) }) rfl (fun K hK => ?_) AllReadyH.nil
          go_simp
          go_at_call 20; with_reducible refine (H_c2.out _ (by assumption)).mono ?_; rintro _ u1 ⟨rfl, hbn⟩; have hcs := H_more.out _ _ (by assumption) hbn
          try go_wp2_with fail
          refine hK.out _ _ ?_ (fun hHeld4 => ?_)
          · try dsimp only
            first | assumption | exact H_more.out _ _ H_S.out ((Below.refl _ _).drew) | exact H_more.out _ _ (by assumption) (by assumption)
          clear hK K hHeld3
          try simp only [Act.put, List.setIfInBounds_toArray, List.set_cons_zero, List.set_cons_succ]
          refine wpAnyH_ready (rs := [33]) (by kernel_rfl) (by simp) ?_
          refine AllReadyH.cons (o := { dst := some 139, op := Op.call _, type := _, pos := _, after := _, guard := some (27, true) }) rfl (fun K hK => ?_) AllReadyH.nil
          go_simp
          go_at_call 20; with_reducible refine (H_c3.out _ (by assumption)).mono ?_; rintro _ u1 ⟨rfl, hbn⟩; have hcs := H_more.out _ _ (by assumption) hbn
          try go_wp2_with fail
          refine hK.out _ _ ?_ (fun hHeld5 => ?_)
          · try dsimp only
            first | assumption | exact H_more.out _ _ H_S.out ((Below.refl _ _).drew) | exact H_more.out _ _ (by assumption) (by assumption)
          clear hK K hHeld4
          try simp only [Act.put, List.setIfInBounds_toArray, List.set_cons_zero, List.set_cons_succ]
          refine wpAnyH_take (i := 34) (oi := { dst := some 140, op := Op.binOp BinOp.sub _ (Operand.tmp 137) (Operand.tmp 139) _, type := _, pos := _, after := _, guard := some (27, true) }) (v := ?_) rfl (by kernel_rfl) (by kernel_rfl) (by kernel_rfl) (fun _ _ _ h => h) (Or.inl ⟨by rfl, ?_⟩) (by assumption) ?_
          rotate_left 1
          · ((intro w hSw; (try dsimp only at hSw); go_simp) <;> (try with_reducible rfl))
          try simp only [Act.put, List.setIfInBounds_toArray, List.set_cons_zero, List.set_cons_succ]
          refine wpAnyH_ready (rs := [36]) (by kernel_rfl) (by simp) ?_
          refine AllReadyH.cons (o := { dst := some 142, op := Op.call _, type := _, pos := _, after := _, guard := some (27, true) }) rfl (fun K hK => ?_) AllReadyH.nil
          go_simp
          go_at_call 20; with_reducible refine (H_c4.out _ (by assumption)).mono ?_; rintro _ u1 ⟨rfl, hbn⟩; have hcs := H_more.out _ _ (by assumption) hbn
          try go_wp2_with fail
          refine hK.out _ _ ?_ (fun hHeld6 => ?_)
          · try dsimp only
            first | assumption | exact H_more.out _ _ H_S.out ((Below.refl _ _).drew) | exact H_more.out _ _ (by assumption) (by assumption)
          clear hK K hHeld5
          try simp only [Act.put, List.setIfInBounds_toArray, List.set_cons_zero, List.set_cons_succ]
          refine wpAnyH_take (i := 37) (oi := { dst := some 143, op := Op.binOp BinOp.add _ (Operand.tmp 140) (Operand.tmp 142) _, type := _, pos := _, after := _, guard := some (27, true) }) (v := ?_) rfl (by kernel_rfl) (by kernel_rfl) (by kernel_rfl) (fun _ _ _ h => h) (Or.inl ⟨by rfl, ?_⟩) (by assumption) ?_
          rotate_left 1
          · ((intro w hSw; (try dsimp only at hSw); go_simp) <;> (try with_reducible rfl))
          try simp only [Act.put, List.setIfInBounds_toArray, List.set_cons_zero, List.set_cons_succ]
          refine wpAnyH_take (i := 38) (oi := { dst := some 144, op := Op.binOp BinOp.eql _ (Operand.tmp 135) (Operand.tmp 143) _, type := _, pos := _, after := _, guard := some (27, true) }) (v := ?_) rfl (by kernel_rfl) (by kernel_rfl) (by kernel_rfl) (fun _ _ _ h => h) (Or.inl ⟨by rfl, ?_⟩) (by assumption) ?_
          rotate_left 1
          · ((intro w hSw; (try dsimp only at hSw); go_simp) <;> (try with_reducible rfl))
          try simp only [Act.put, List.setIfInBounds_toArray, List.set_cons_zero, List.set_cons_succ]
          refine wpAnyH_take (i := 39) (oi := { dst := some 145, op := Op.pick (Operand.tmp 133) (Operand.tmp 144) (Operand.const (Value.bool false)), type := _, pos := _, after := _, guard := none }) (v := ?_) rfl (by kernel_rfl) (by kernel_rfl) (by kernel_rfl) (fun _ _ _ h => h) (Or.inl ⟨by rfl, ?_⟩) (by assumption) ?_
          rotate_left 1
          · ((intro w hSw; (try dsimp only at hSw); go_simp) <;> (try with_reducible rfl))
          try simp only [Act.put, List.setIfInBounds_toArray, List.set_cons_zero, List.set_cons_succ]
          refine wpAnyH_take (i := 40) (oi := { dst := some 146, op := Op.move (Operand.tmp 145), type := _, pos := _, after := _, guard := none }) (v := ?_) rfl (by kernel_rfl) (by kernel_rfl) (by kernel_rfl) (fun _ _ _ h => h) (Or.inl ⟨by rfl, ?_⟩) (by assumption) ?_
          rotate_left 1
          · ((intro w hSw; (try dsimp only at hSw); go_simp) <;> (try with_reducible rfl))
          try simp only [Act.put, List.setIfInBounds_toArray, List.set_cons_zero, List.set_cons_succ]
          refine wpAnyH_take (i := 41) (oi := { dst := some 147, op := Op.load _ (Operand.tmp 9), type := _, pos := _, after := _, guard := some (40, true) }) (v := ?_) rfl (by kernel_rfl) (by kernel_rfl) (by kernel_rfl) (fun _ _ _ h => h) (Or.inl ⟨by rfl, ?_⟩) (by assumption) ?_
          rotate_left 1
          · ((intro w hSw; (try dsimp only at hSw); go_simp) <;> (try with_reducible rfl))
          try simp only [Act.put, List.setIfInBounds_toArray, List.set_cons_zero, List.set_cons_succ]
          refine wpAnyH_take (i := 42) (oi := { dst := some 148, op := Op.move (Operand.tmp 0), type := _, pos := _, after := _, guard := some (40, true) }) (v := ?_) rfl (by kernel_rfl) (by kernel_rfl) (by kernel_rfl) (fun _ _ _ h => h) (Or.inl ⟨by rfl, ?_⟩) (by assumption) ?_
          rotate_left 1
          · ((intro w hSw; (try dsimp only at hSw); go_simp) <;> (try with_reducible rfl))
          try simp only [Act.put, List.setIfInBounds_toArray, List.set_cons_zero, List.set_cons_succ]
          refine wpAnyH_ready (rs := [43]) (by kernel_rfl) (by simp) ?_
          refine AllReadyH.cons (o := { dst := some 149, op := Op.call _, type := _, pos := _, after := _, guard := some (40, true) }) rfl (fun K hK => ?_) AllReadyH.nil
          go_simp
          go_at_call 11; with_reducible refine (H_tr.out _ (by assumption)).mono ?_; rintro _ u2 ⟨v2, rfl, hnd2, hbn2⟩; have hcs := H_more.out _ _ (by assumption) hbn2
          try go_wp2_with fail
          refine hK.out _ _ ?_ (fun hHeld7 => ?_)
          · try dsimp only
            first | assumption | exact H_more.out _ _ H_S.out ((Below.refl _ _).drew) | exact H_more.out _ _ (by assumption) (by assumption)
          clear hK K hHeld6
          try simp only [Act.put, List.setIfInBounds_toArray, List.set_cons_zero, List.set_cons_succ]
          refine wpAnyH_ready (rs := [44]) (by kernel_rfl) (by simp) ?_
          refine AllReadyH.cons (o := { dst := some 150, op := Op.call _, type := _, pos := _, after := _, guard := some (40, true) }) rfl (fun K hK => ?_) AllReadyH.nil
          go_simp
          go_at_call 19; with_reducible refine (H_sm3.out _ _ (by assumption) (by assumption)).mono ?_; rintro _ u3 ⟨rfl, hbn3⟩; have hcs := H_more.out _ _ (by assumption) hbn3
          try go_wp2_with fail
          refine hK.out _ _ ?_ (fun hHeld8 => ?_)
          · try dsimp only
            first | assumption | exact H_more.out _ _ H_S.out ((Below.refl _ _).drew) | exact H_more.out _ _ (by assumption) (by assumption)
          clear hK K hHeld7
          try simp only [Act.put, List.setIfInBounds_toArray, List.set_cons_zero, List.set_cons_succ]
          refine wpAnyH_take (i := 45) (oi := { dst := some 151, op := Op.pick (Operand.tmp 146) (Operand.tmp 150) (Operand.const (Value.bool false)), type := _, pos := _, after := _, guard := none }) (v := ?_) rfl (by kernel_rfl) (by kernel_rfl) (by kernel_rfl) (fun _ _ _ h => h) (Or.inl ⟨by rfl, ?_⟩) (by assumption) ?_
          rotate_left 1
          · ((intro w hSw; (try dsimp only at hSw); go_simp) <;> (try with_reducible rfl))
          try simp only [Act.put, List.setIfInBounds_toArray, List.set_cons_zero, List.set_cons_succ]
          refine wpAnyH_take (i := 46) (oi := { dst := some 8, op := Op.assign (Operand.tmp 151), type := _, pos := _, after := _, guard := none }) (v := ?_) rfl (by kernel_rfl) (by kernel_rfl) (by kernel_rfl) (fun _ _ _ h => h) (Or.inl ⟨by rfl, ?_⟩) (by assumption) ?_
          rotate_left 1
          · ((intro w hSw; (try dsimp only at hSw); go_simp) <;> (try with_reducible rfl))
          try simp only [Act.put, List.setIfInBounds_toArray, List.set_cons_zero, List.set_cons_succ]
          refine wpAnyH_done (by kernel_rfl) ?_ _
          have hHeld := hHeld8

          have hfin := (HZ.out _ hHeld.2).2.2.2.2.2.2.2.2.2
          go_wp2_with fail
          go_ret
          exact ⟨rfl, hfin⟩

set_option maxRecDepth 100000 in
set_option maxHeartbeats 4000000 in
theorem lifted (os : Os) (started : os.Started) (H : Type) (enc : TypeId × Value → H) :
    ReturnsInHanded {} Tryd.checked os 4 .any (fun w args => (Rows.nodeLaidSpec.pre enc Tryd.prog Tryd.f4 Rows.nodeLaidRow.domain false w args ∧ laidMetH Tryd.prog nd.laid w) ∧ sizedMet enc Tryd.prog Tryd.f4 (OpenSpec.ofChange Rows.nodeLaidSpec) false w args) (Rows.nodeLaidSpec.post enc Tryd.prog Tryd.f4 false true false false) := by
  refine returnsInHanded_of_change_and (C := Tryd.checked) (X := fun w _ => laidMetH Tryd.prog nd.laid w) (fun _ _ _ hh h => h.of_heap hh) law.own started (by kernel_rfl) Tryd.func4
    (ChangeSpec.witness_shaped (enc := enc) (C := Tryd.checked) (os := os) (X := fun w _ => laidMetH Tryd.prog nd.laid w) false (World.laidAll Tryd.prog os nd.laid) #[.slice none 0 0, .slice none 0 0, .int .u8 0, .int .u8 0] 8 (World.laidAll_os _ _ _) (World.shaped_of_ZipB (by kernel_rfl) (by kernel_rfl)) (by kernel_rfl) (by kernel_rfl) (by kernel_rfl) (nd.laid_met os _)) ?_
  intro W base args ds gs before hval0 hW _ hsize0 hL _
  have hTb := nd.tabs_of_laid hL
  have hval : ∀ (j : Nat) t v, Tryd.f4.params[j]? = some t → args[j]? = some v → Value.okWide Tryd.prog W .any base t v := hval0
  have hW' := hW
  obtain ⟨p, q, hA0, hV, rfl, _, _⟩ := hW
  have hA : DataW.TrodAll enc Tryd.prog W 0 (fun _ => true) true Tryd.f4.params.toList args.toList ds p := hA0
  rw [Tryd.params4] at hA hval
  obtain ⟨v0, v1, v2, v3, d0, d1, d2, d3, p0, p1, p2, p3, rfl, rfl, rfl, h0, h1, h2, h3⟩ := trodAll_four hA
  obtain ⟨rfl, rfl⟩ := trodVars_none hV
  obtain ⟨bs0, hbs0⟩ := law.open_bytes (hval 0 26 v0 rfl rfl) h0
  obtain ⟨bs1, hbs1⟩ := law.open_bytes (hval 1 26 v1 rfl rfl) h1
  obtain ⟨k2, rfl, rfl, rfl, wk2⟩ := open_int Tryd.underlying5 (hval 2 5 v2 rfl rfl) h2
  obtain ⟨k3, rfl, rfl, rfl, wk3⟩ := open_int Tryd.underlying5 (hval 3 5 v3 rfl rfl) h3
  clear hL
  refine (walk bs0 bs1 k2 k3 (law.u8_wf wk2) (law.u8_wf wk3) W v0 v1 hbs0 hbs1 _ hTb).mono fun e W' ⟨he, hb⟩ => ⟨_, he, ?_⟩
  exact law.law_post rfl hW' rfl (by kernel_rfl) (by kernel_rfl) hb

/-- NodeLaid, for every input. -/
theorem holds : Rows.NodeLaidSaid :=
  OpenClaim.holds_of_wide 4 Tryd.f4 rfl rfl rfl rfl rfl rfl rfl ⟨rfl, rfl, rfl, rfl, rfl⟩ rfl rfl rfl rfl rfl (by kernel_rfl) Tryd.func4 (by kernel_rfl)
    (of_decide_eq_true (by kernel_rfl)) (by unfold Func.isWrapper; first | (rw [if_pos (by decide +kernel)]; kernel_rfl) | (rw [if_neg (by decide +kernel)]; exact ⟨rfl, rfl⟩))
    (fun os started H enc _ => lifted os started H enc)

/-- The tied card of NodeLaid. -/
theorem card : Rows.NodeLaidCardSaid :=
  Claim7.holds_tied_plain_at .later [] [.data, .data, .data, .data, .pinned, .pinned, .pinned, .pinned, .pinned, .pinned] true Rows.nodeLaidCard.stood.harness false
    holds (fun _ h => by cases h) (by kernel_rfl) (fun _ h => by cases h) nodeLaid_row_tie rfl ⟨rfl, rfl⟩ (by kernel_rfl) rfl
    (fun f fn hf hfn => by
      obtain rfl : f = 4 := Option.some.inj ((show Tryd.prog.funcNamed "subeditor/subeditorlaw07.NodeLaid" = some 4 by kernel_rfl).symm.trans hf) |>.symm
      obtain rfl : fn = Tryd.f4 := (Option.some.inj (Tryd.func4.symm.trans hfn)).symm
      exact ⟨by kernel_rfl, fun j t ht => by
        rw [Tryd.params4] at ht
        have hm := List.mem_toArray.1 (Array.mem_of_getElem? ht)
        have hall : (Tryd.f4.params.toList.all fun u => !Tryd.prog.wantsStandIn u) = true := by kernel_rfl
        rw [show Tryd.f4.params.toList = _ from congrArg Array.toList Tryd.params4] at hall
        exact (show Tryd.prog.wantsStandIn t = false by simpa using List.all_eq_true.1 hall t hm)⟩)
    (by kernel_rfl)
end Go.Proofs.YtbdkemgfdghbkaaDoor.nodeLaid
