/-
  node: Paths: the one statement of its body, and the whole.
-/
import Derived.Test.YtbdkemgfdghbkaaDoorNdPaths
namespace Go.Proofs.YtbdkemgfdghbkaaDoor.nd
open Go.RowKit Go.Shelf sx ed
attribute [local go_sem] Oper.semAt_some
set_option linter.unusedVariables false

/-- In the drawn region: what each operation has left, whatever the order. ov: the list that was there; pv: the path; W1: where it begins. -/
structure PR (G : Nat) (ov pv : Value) (q : List Int) (m k : Nat) (L : List Value) (N : Nat) (W1 : World) (d : Nat → Bool) (v9 v10 v11 v12 v13 : Value) (u : World) : Prop where
  p0 : d 0 = true → v9 = ov
  p1 : d 1 = true → v10 = pv
  q2 : d 2 = true → d 1 = true
  q3 : d 3 = true → d 2 = true
  q4 : d 4 = true → d 0 = true ∧ d 3 = true
  q5 : d 5 = true → d 4 = true
  w1 : d 2 = false → u = W1
  w2 : d 2 = true → d 3 = false → ∃ ao cap, v11 = .slice ao m cap ∧ IntsAt (Frsh W1.heap.size u.heap.size) u (.slice ao m cap) q ∧ Below W1.heap.size W1 u
  w3 : d 3 = true → d 4 = false → ∃ z ao cap, IntsAt (Frsh W1.heap.size z.heap.size) z (.slice ao m cap) q ∧ Below W1.heap.size W1 z ∧ u = z.alloc (.cells #[.slice ao m cap] 25) ∧ v12 = .slice (some ⟨z.heap.size, 0, none⟩) 1 1
  w4 : d 4 = true → d 5 = false → ∃ z ao cap, IntsAt (Frsh W1.heap.size z.heap.size) z (.slice ao m cap) q ∧ Below W1.heap.size W1 z ∧ u.ownsRow G 25 1 v13 (k + 1) (L ++ [.slice ao m cap]) ∧ (z.alloc (.cells #[.slice ao m cap] 25)).grownBy u ov.ownBlock ∧ (v13.ownBlock = ov.ownBlock ∨ v13.ownBlock = some (z.heap.size + 1))
  w5 : d 5 = true → ∃ z w2 v' ao cap, IntsAt (Frsh W1.heap.size z.heap.size) z (.slice ao m cap) q ∧ Below W1.heap.size W1 z ∧ w2.ownsRow G 25 1 v' (k + 1) (L ++ [.slice ao m cap]) ∧ (z.alloc (.cells #[.slice ao m cap] 25)).grownBy w2 ov.ownBlock ∧ (v'.ownBlock = ov.ownBlock ∨ v'.ownBlock = some (z.heap.size + 1)) ∧ u = w2.setCell ⟨N, 0, none⟩ v'

theorem Fo.walk_short (p : List Nat) : ∀ (f : Fo) (i : Nat) (y : Told), y ∈ f.walk p i → y.1.length ≤ p.length + f.deep
  | .nil, _, _, h => by simp [Fo.walk] at h
  | .cons k t kids r, i, y, h => by
    simp only [Fo.walk, List.mem_cons, List.mem_append] at h
    simp only [Fo.deep]
    rcases h with rfl | h | h
    · simp; omega
    · have := Fo.walk_short (p ++ [i]) kids 0 y h
      simp at this
      omega
    · have := Fo.walk_short p r (i + 1) y h
      omega
theorem Nd.walk_short (x : Nd) {p : List Nat} {y : Told} (h : y ∈ x.walk p) : y.1.length ≤ p.length + x.deep := by
  simp only [Nd.walk, List.mem_cons] at h
  rcases h with rfl | h
  · simp
  · have := Fo.walk_short p x.kids 0 y h
    simp only [Nd.deep]; omega
theorem not_of {p q : Bool} (h : p = true → q = true) (hq : q = false) : p = false := by
  cases p with
  | false => rfl
  | true => rw [h rfl] at hq; cases hq
theorem keeps_below {W z : World} (hz : Below W.heap.size W z) : KeepsOthers W z := ⟨hz.size, fun k o hk _ => (hz.block k (Array.getElem?_eq_some_iff.1 hk).1).trans hk⟩

/-- Behind the statement: the invariant of the next round. -/
theorem PR.last {w W z w2 : World} {N G m : Nat} {pre : List Told} {y : Told} {D : Nat → Prop} {ov v' : Value} {L : List Value} {ao : Option Addr} {cap : Nat} (hN : N < G) (hwN : w.heap.size ≤ N) (hG : G ≤ W.heap.size) (hnd : ¬ D N)
    (hb : Boxed W N 30 ov) (hrow : W.ownsRow G 25 1 ov pre.length L) (hod : ∀ k, ov.ownBlock = some k → ¬ D k) (hL : ListsAt (SP G D ov W) W L (pre.map fun x => ints x.1)) (hI : IB w D W) (hDl : ∀ k, D k → k < W.heap.size)
    (hz : Below W.heap.size W z) (hi : IntsAt (Frsh W.heap.size z.heap.size) z (.slice ao m cap) (ints y.1)) (hown : w2.ownsRow G 25 1 v' (pre.length + 1) (L ++ [.slice ao m cap])) (hg : (z.alloc (.cells #[.slice ao m cap] 25)).grownBy w2 ov.ownBlock) (hat : v'.ownBlock = ov.ownBlock ∨ v'.ownBlock = some (z.heap.size + 1)) :
    KeepsOthers W (w2.setCell ⟨N, 0, none⟩ v') ∧ KD w.heap.size D W (w2.setCell ⟨N, 0, none⟩ v') ∧ PI w N G (pre ++ [y]) D (w2.setCell ⟨N, 0, none⟩ v') := by
  have hzs := hz.size
  have hgs := hg.size
  rw [World.size_alloc] at hgs
  have hws := hI.1.size
  have hlow : ∀ k, k < z.heap.size → ov.ownBlock ≠ some k → w2.heap[k]? = z.heap[k]? := fun k hk ho => (hg.block k (by simp; omega) (fun e => ho e.symm)).trans (Below.heap_alloc _ _ _ hk)
  have hovl : ∀ j, ov.ownBlock = some j → G ≤ j ∧ j < W.heap.size := fun j hj => hrow.lt j hj
  have hnN : ov.ownBlock ≠ some N := fun e => by have := (hovl N e).1; omega
  have hbN : Boxed w2 N 30 ov := (hlow N (by have := Boxed.lt hb; omega) hnN).trans ((hz.block N (Boxed.lt hb)).trans hb)
  have hvN : v'.ownBlock ≠ some N := fun e => by
    have := (hown.lt N e).1
    omega
  have hset : ∀ k, k ≠ N → (w2.setCell ⟨N, 0, none⟩ v').heap[k]? = w2.heap[k]? := fun k hk => Below.heap_setCell _ _ _ k (fun e => hk e)
  have hbw : Below w.heap.size W (w2.setCell ⟨N, 0, none⟩ v') :=
    (((hz.mono hws).alloc (by omega) _).grown hg (by simp; omega) (fun k hk => by have := (hovl k hk).1; omega)).setCell (p := ⟨N, 0, none⟩) hwN _
  have hkD : ∀ k, D k → k < W.heap.size → (w2.setCell ⟨N, 0, none⟩ v').heap[k]? = W.heap[k]? := fun k hk hl => by
    rw [hset k (fun e => hnd (e ▸ hk)), hlow k (by omega) (fun e => hod k e hk), hz.block k hl]
  refine ⟨?_, ⟨hbw, hkD⟩, ⟨v', _, ⟨hbN.set v', hnd⟩, by rw [List.length_append]; exact own_keep hown (fun k e => hset k (fun e' => hvN (e' ▸ e))), fun k e hd => ?_, ?_, by simp; omega⟩, hI.1.trans hbw, hI.2⟩
  · refine (((keeps_below hz).trans (KeepsOthers.alloc z _)).trans (KeepsOthers.of_grownBy hg fun j o ej hj => ?_)).trans (KeepsOthers.setCell _ _ _)
    rcases hrow.2 with ⟨e, _⟩ | ⟨g, cp, cur, e, _, hgb, _⟩
    · rw [e] at ej; simp [Value.ownBlock] at ej
    · rw [e] at ej
      obtain rfl : g = j := by simpa [Value.ownBlock] using ej
      have hl := (Array.getElem?_eq_some_iff.1 hgb).1
      have e1 : (z.alloc (.cells #[.slice ao m cap] 25)).heap[g]? = some (.cells cur 25 (0, 0)) := (Below.heap_alloc z _ g (by omega)).trans ((hz.block g hl).trans hgb)
      rw [e1] at hj; cases hj; rfl
  · rcases hat with h | h
    · exact hod k (h ▸ e) hd
    · rw [h] at e
      cases e
      have := hDl _ hd
      omega
  · rw [List.map_append, List.map_cons, List.map_nil]
    have hno : ∀ k, k < z.heap.size → ov.ownBlock ≠ some k → v'.ownBlock ≠ some k := fun k hk ho e => by
      rcases hat with h | h
      · exact ho (h ▸ e)
      · rw [h] at e; cases e; omega
    refine ListsAt.snoc (hL.keep (fun k hk => ⟨hk.1, by have := hk.2.1; simp; omega, hk.2.2.1, hno k (by have := hk.2.1; omega) hk.2.2.2⟩) (fun k hk => ?_)) (hi.keep (fun k hk => ⟨by have := hk.1; omega, by have := hk.2; simp; omega, fun hd => by have := hDl k hd; have := hk.1; omega, hno k hk.2 (fun e => by have := (hovl k e).2; have := hk.1; omega)⟩) (fun k hk => ?_))
    · rw [hset k (fun e => by have := hk.1; omega), hlow k (by have := hk.2.1; omega) hk.2.2.2, hz.block k hk.2.1]
    · rw [hset k (fun e => by have := hk.1; omega), hlow k hk.2 (fun e => by have := (hovl k e).2; have := hk.1; omega)]

abbrev paTmps (w : World) (xv pv yv v9 v10 v11 v12 v13 : Value) : Act :=
  { tmps := #[xv, .pointer (some ⟨w.heap.size, 0, none⟩), .slice none 0 0, .pointer (some ⟨w.heap.size + 1, 0, none⟩), pv, xv, .func (.func 47) #[] #[.pointer (some ⟨w.heap.size + 1 + 1, 0, none⟩)], pv, yv, v9, v10, v11, v12, v13, undef], defers := [] }
/-- The invariant of the region. -/
def PRV (w : World) (xv pv yv : Value) (G : Nat) (ov : Value) (q : List Int) (m k : Nat) (L : List Value) (N : Nat) (W1 : World) (listed : Array Bool) (a : Act) (u : World) : Prop :=
  listed.size = 6 ∧ ∃ v9 v10 v11 v12 v13, a = paTmps w xv pv yv v9 v10 v11 v12 v13 ∧ PR G ov pv q m k L N W1 (rinv.done listed) v9 v10 v11 v12 v13 u

set_option maxRecDepth 100000 in
set_option maxHeartbeats 8000000 in
theorem paths_in (n : Nat) (hn : 3 ≤ n) (x : Nd) (hct : x.count ≤ 1000000) (w : World) (v : Value) (hu : NdAt (Lt w.heap.size) w x v) :
    CallsIn Fence.wide n Tryd.prog 16 #[v] w fun e w' => ∃ v' L, e = .returned v' ∧ w'.ownsRow w.heap.size 25 1 v' x.count L ∧ ListsAt (Frsh w.heap.size w'.heap.size) w' L (x.paths.map ints) ∧ Below w.heap.size w w' := by
  have h1 : 1 ≤ n := by omega
  obtain ⟨s, rfl, hs⟩ := hu
  obtain ⟨ao, cap, rfl, hm⟩ := hs.slice
  obtain ⟨W0, hW0⟩ : ∃ W0, ((w.alloc (.cells #[.int .i64 x.k, .string x.t, .slice ao x.kids.len cap] 24)).alloc (.cells #[.slice none 0 0] 30)).alloc (.cells #[.int .i64 x.k, .string x.t, .slice ao x.kids.len cap] 24) = W0 := ⟨_, rfl⟩
  have hb0 : Below w.heap.size w W0 := by rw [← hW0]; exact (((Below.refl _ w).alloc (Nat.le_refl _) _).alloc (by simp) _).alloc (by simp; omega) _
  have hsz : W0.heap.size = w.heap.size + 3 := by rw [← hW0]; simp
  have k2 : Boxed W0 (w.heap.size + 1) 30 (.slice none 0 0) := by
    have := (Boxed.new (w.alloc (.cells #[.int .i64 x.k, .string x.t, .slice ao x.kids.len cap] 24)) 30 (.slice none 0 0)).alloc (.cells #[.int .i64 x.k, .string x.t, .slice ao x.kids.len cap] 24)
    rw [← hW0]; simpa using this
  have k3 : Blk W0 (w.heap.size + 1 + 1) 24 #[.int .i64 x.k, .string x.t, .slice ao x.kids.len cap] := by
    rw [← hW0]
    simpa using Blk.new ((w.alloc (.cells #[.int .i64 x.k, .string x.t, .slice ao x.kids.len cap] 24)).alloc (.cells #[.slice none 0 0] 30)) 24 #[.int .i64 x.k, .string x.t, .slice ao x.kids.len cap]
  have hseq := walk_all x hct (n - 1) w.heap.size (w.heap.size + 1 + 1) W0 hb0.size ao cap k3 (hs.below hb0 (Nat.le_refl _))
  obtain ⟨xv, hxv⟩ : ∃ xv, (Value.agg #[.int .i64 x.k, .string x.t, .slice ao x.kids.len cap]) = xv := ⟨_, rfl⟩
  have HSEQ := Lib.hid hseq; have HW0 := Lib.hid hW0; have HB0 := Lib.hid hb0; have HSZ := Lib.hid hsz; have HK2 := Lib.hid k2; have HXV := Lib.hid hxv
  clear hseq hW0 hb0 hsz k2 k3 hs hxv
  refine callsIn_of_wp_marks Tryd.func16 rfl trivial ?_ rfl
  simp only [Tryd.ntmps16, List.size_toArray, List.length_cons, List.length_nil, Nat.reduceAdd, Nat.reduceSub, Array.replicate_succ, Array.replicate_zero, List.push_toArray, List.append_toArray, List.nil_append, List.cons_append]
  gi_wp2_with fail
  refine ⟨trivial, ?_⟩
  refine (walk_calls x _ ao cap (n - 1)).mono ?_
  rintro e w' ⟨rfl, rfl⟩
  gi_wp2_with fail
  rw [HW0.out, HXV.out]
  have hws : w.heap.size ≤ W0.heap.size := HB0.out.size
  refine wpIn_rangeFunc_D (F := Fence.wide) rfl h1 (gf := 47) (lb := #[.pointer (some ⟨w.heap.size + 1 + 1, 0, none⟩)]) rfl trivial (enters_of Tryd.func47 (by kernel_rfl) rfl)
    HSEQ.out hws (Below.refl _ _) (fun x D W vs h => by obtain ⟨pv, xv, rfl, _⟩ := h; rfl)
    (PI w (w.heap.size + 1) W0.heap.size) (PI.ab w _ _) (PI.own w _ _ _ hws) ⟨⟨.slice none 0 0, [], ⟨HK2.out, id⟩, World.ownsRow_nil _ _ _ _, (fun k e => (by cases e)), ⟨rfl, (fun i q h => (by simp at h))⟩, Nat.le_refl _⟩, HB0.out, fun k hk => hk.elim⟩
    (fun y D vs a' W => ∃ yo yc yv, vs = #[.slice yo y.1.length yc, yv] ∧ IntsAt D W (.slice yo y.1.length yc) (ints y.1) ∧ a' = paTmps w xv (.slice yo y.1.length yc) yv undef undef undef undef undef)
    (fun y D vs a' s X Y row h hg hr => by obtain ⟨yo, yc, yv, h1, h2, h3⟩ := h; exact ⟨yo, yc, yv, h1, ints_own h2 hg (fun r e => (hr r e).2), h3⟩) ?assign ?body ?done
  case assign =>
    rintro l pre y D W vs K hI hD ⟨pv, yv, rfl, hp, _⟩ hK
    obtain ⟨yo, yc, rfl, _⟩ := id hp
    rw [show (y.1.map fun (n : Nat) => (n : Int)).length = y.1.length by simp] at hp ⊢
    gi_wp2
    exact hK _ _ ((KeepsOthers.refl _).from _) (KD.refl _ _ _) hI ⟨yo, yc, yv, by simp, hp, rfl⟩
  case body =>
    rintro l pre y rest D vs a' W hys hl hPI hD ⟨yo, yc, yv, rfl, hpy, rfl⟩
    have hmx : Tryd.prog.follows .mixedOrders = true := by kernel_rfl
    have hdep : 1 ≤ n - 1 - 1 := by omega
    have hfc : Fence.wide.fn 33 := trivial
    obtain ⟨⟨ov, L, ⟨hb, hnd⟩, hrow, hod, hL, hGW⟩, hI⟩ := hPI
    obtain ⟨i0, hi, hz0, hz1, hz2⟩ := info_parts infoP
    have hpl : pre.length ≤ 1000000 := by
      have := congrArg List.length hys
      rw [Nd.walk_len] at this
      simp at this
      omega
    have hql : (ints y.1).length ≤ 1000000 := by
      have h1 := Nd.walk_short x (p := []) (y := y) (by rw [hys]; simp)
      have h2 := Nd.deep_le x
      simp [ints] at h1 ⊢
      omega
    have hqm : (ints y.1).length = y.1.length := by simp [ints]
    obtain ⟨q, hq⟩ : ∃ q, ints y.1 = q := ⟨_, rfl⟩
    obtain ⟨m, hmm⟩ : ∃ m, y.1.length = m := ⟨_, rfl⟩
    rw [hq] at hql hqm hpy
    rw [hmm] at hqm hpy ⊢
    have HQ := Lib.hid hq; have HQM := Lib.hid hqm; have HQL := Lib.hid hql
    have hqm1 : m ≤ 1000000 := by omega
    clear hq hmm hqm hql
    have HROW := Lib.hid hrow; have HB := Lib.hid hb; have HPY := Lib.hid hpy; have HL := Lib.hid hL; have HOD := Lib.hid hod; have HI := Lib.hid hI; have HDL := Lib.hid hD
    have hsz1 : W.drew.heap.size = W.heap.size := rfl
    clear hb hpy hL hod hI hys hD hrow
    gi_wp2
    refine wpIn_region_any hmx ?_
    change wpAnyIn _ _ _ _ _ _ _ _ _ W.drew
    refine rinv.wpAnyIn_inv (PRV w xv (.slice yo m yc) yv W0.heap.size ov q m pre.length L (w.heap.size + 1) W.drew) ?step ?fin _ _ _ _ (by decide) ?start
    case start =>
      refine ⟨rfl, _, _, _, _, _, rfl, ?_⟩
      constructor <;> first | exact fun h => absurd h (by decide) | exact fun _ => rfl
    case fin =>
      rintro listed a u ⟨hsl, v9, v10, v11, v12, v13, rfl, h⟩ hre
      have hno : ∀ i, i ∉ Region.ready _ _ listed := fun i hi => by rw [hre] at hi; cases hi
      have mk : ∀ i, i < 6 → _ → rinv.done listed i = true := fun i hi ha => by
        cases hq : rinv.done listed i with
        | true => rfl
        | false => exact absurd (rinv.ready_of hi hsl hq ha) (hno i)
      have k0 := mk 0 (by omega) (by simp)
      have k1 := mk 1 (by omega) (by simp)
      have k2 := mk 2 (by omega) (by simp [k1])
      have k3 := mk 3 (by omega) (by simp [k2])
      have k4 := mk 4 (by omega) (by simp [k0, k3, k2])
      have k5 := mk 5 (by omega) (by simp [k0, k1, k2, k3, k4])
      obtain ⟨z, w2, v', ca, cc, hi2, hz2, hown2, hg2, hat2, rfl⟩ := h.w5 k5
      have hL2 := HL.out
      have hlast := PR.last (w := w) (W := W.drew) (N := w.heap.size + 1) (G := W0.heap.size) (m := m) (pre := pre) (y := y) (D := D) (L := L) (by have := HSZ.out; omega) (by omega) hGW hnd HB.out HROW.out HOD.out hL2 ⟨HI.out.1.drew, HI.out.2⟩ (fun k hk => (HDL.out k hk).2) hz2 (by rw [HQ.out]; exact hi2) hown2 hg2 hat2
      clear mk hno k0 k1 k2 k3 k4 k5 hre h hL2 hi2 hz2 hown2 hg2 hat2
      gi_wp2
      have hkd : KD w.heap.size D W _ := ⟨((Below.refl _ W).drew).trans hlast.2.1.1, hlast.2.1.2⟩
      exact ⟨((KeepsOthers.drew W).trans hlast.1).from _, hkd⟩
    case step =>
      rintro listed a u i ⟨hsl, v9, v10, v11, v12, v13, rfl, h⟩ hi
      obtain ⟨hlt11, hnot, haft⟩ := rinv.ready_mem hi
      have hd : rinv.done (listed.setIfInBounds i true) = fun k => (k == i) || rinv.done listed k := funext (rinv.done_set hnot)
      have hni := rinv.done_not hnot
      have hsl' : (listed.setIfInBounds i true).size = 6 := by rw [Array.size_setIfInBounds]; exact hsl
      have HD := Lib.hid hd; have HS := Lib.hid hsl'; have HN := Lib.hid hni; have HA := Lib.hid haft
      have HH := Lib.hid h
      clear hd hsl' hsl hnot hi hni haft h
      match i, hlt11 with
      | 0, _ =>
        refine rinv.wpOpIn_of_list rfl ?_
        have h4 := not_of (fun e => (HH.out.q4 e).1) HN.out
        have hc : u.cell? ⟨w.heap.size + 1, 0, none⟩ = some ov := by
          have hbx : Boxed u (w.heap.size + 1) 30 ov := by
            have hW : Boxed W.drew (w.heap.size + 1) 30 ov := HB.out
            cases h2 : rinv.done listed 2 with
            | false => rw [HH.out.w1 h2]; exact hW
            | true =>
              cases h3 : rinv.done listed 3 with
              | false =>
                obtain ⟨_, _, _, _, hb⟩ := HH.out.w2 h2 h3
                exact (hb.block _ (Boxed.lt hW)).trans hW
              | true =>
                obtain ⟨z, _, _, _, hb, rfl, _⟩ := HH.out.w3 h3 h4
                exact Boxed.alloc (W := z) ((hb.block _ (Boxed.lt hW)).trans hW) _
          exact hbx.cell
        clear h4
        gi_wp2
        refine ⟨HS.out, _, _, _, _, _, rfl, ?_⟩
        rw [HD.out]
        exact { HH.out with p0 := fun _ => rfl, q4 := fun e => ⟨rfl, (HH.out.q4 e).2⟩ }
      | 1, _ =>
        refine rinv.wpOpIn_of_list rfl ?_
        gi_wp2
        refine ⟨HS.out, _, _, _, _, _, rfl, ?_⟩
        rw [HD.out]
        exact { HH.out with p1 := fun _ => rfl, q2 := fun _ => rfl }
      | 2, _ =>
        refine rinv.wpOpIn_of_list rfl ?_
        have h1 : rinv.done listed 1 = true := by have h := HA.out; simp [Region.binds] at h; simp [h]
        have e10 := HH.out.p1 h1
        subst e10
        have h3 := not_of HH.out.q3 HN.out
        have h4 := not_of (fun e => (HH.out.q4 e).2) h3
        have h5 := not_of HH.out.q5 h4
        have hu := HH.out.w1 HN.out
        have H1 := Lib.hid h1; have H3 := Lib.hid h3; have H4 := Lib.hid h4; have H5 := Lib.hid h5
        subst hu
        have hcl := cloneI_calls D q HQL.out W.drew (.slice yo m yc) (HPY.out.keep (fun _ e => e) (fun _ _ => rfl))
        rw [HQM.out] at hcl
        have HCL := Lib.hid hcl
        clear h1 h3 h4 h5 hcl
        gi_wp2_with (gi_at_call 33; refine (CallsIn.inRound l (callsIn_wide.2 HCL.out)).mono ?_; rintro e w' ⟨ca, cc, rfl, hic, hbc⟩)
        refine ⟨HS.out, _, _, _, _, _, rfl, ?_⟩
        rw [HD.out]
        exact { HH.out with
          q2 := fun _ => H1.out, q3 := fun _ => rfl
          w1 := fun e => by cases e
          w2 := fun _ _ => ⟨ca, cc, rfl, hic, hbc⟩
          w3 := fun e => absurd (show rinv.done listed 3 = true from e) (by rw [H3.out]; simp)
          w4 := fun e => absurd (show rinv.done listed 4 = true from e) (by rw [H4.out]; simp)
          w5 := fun e => absurd (show rinv.done listed 5 = true from e) (by rw [H5.out]; simp) }
      | 3, _ =>
        refine rinv.wpOpIn_of_list rfl ?_
        have h2 : rinv.done listed 2 = true := by have h := HA.out; simp [Region.binds] at h; simp [h]
        obtain ⟨ca, cc, rfl, hic, hbc⟩ := HH.out.w2 h2 HN.out
        have h4 := not_of (fun e => (HH.out.q4 e).2) HN.out
        have h5 := not_of HH.out.q5 h4
        have H2 := Lib.hid h2; have H4 := Lib.hid h4; have H5 := Lib.hid h5
        clear h2 h4 h5
        gi_wp2
        refine ⟨HS.out, _, _, _, _, _, rfl, ?_⟩
        rw [HD.out]
        exact { HH.out with
          q3 := fun _ => H2.out, q4 := fun e => ⟨(HH.out.q4 e).1, rfl⟩
          w1 := fun e => absurd (show rinv.done listed 2 = false from e) (by rw [H2.out]; simp)
          w2 := fun _ e => by cases e
          w3 := fun _ _ => ⟨u, ca, cc, hic, hbc, rfl, rfl⟩
          w4 := fun e => absurd (show rinv.done listed 4 = true from e) (by rw [H4.out]; simp)
          w5 := fun e => absurd (show rinv.done listed 5 = true from e) (by rw [H5.out]; simp) }
      | 4, _ =>
        refine rinv.wpOpIn_of_list rfl ?_
        have h2 : rinv.done listed 0 = true ∧ rinv.done listed 3 = true ∧ rinv.done listed 2 = true := by have h := HA.out; simp [Region.binds] at h; simp [h]
        obtain ⟨z, ca, cc, hic, hbc, rfl, e12⟩ := HH.out.w3 h2.2.1 HN.out
        subst e12
        have e9 := HH.out.p0 h2.1
        subst e9
        have h5 := not_of HH.out.q5 HN.out
        have H2 := Lib.hid h2; have H5 := Lib.hid h5
        have hrz := (own_step (show W.drew.ownsRow W0.heap.size 25 1 v9 pre.length L from HROW.out) hbc).alloc (.cells #[.slice ca m cc] 25)
        have hzs := hbc.size
        clear h2 h5
        refine wpListIn_append_own_at _ rfl _ _ 30 rfl W0.heap.size 25 i0 _ 1 24 Tryd.underlying30 hi hz0 hz1 hz2 rfl (by decide) _ _ _ rfl hrz ⟨z.heap.size, 0, none⟩ 1 1 [.slice ca m cc] rfl rfl (cell_one_new _ _ _) (by simp [Value.oneCell']) (by unfold maxLen; omega) (by omega) (by simp; omega) ?_
        intro v' w' hown' hgrow _ hat
        obtain ⟨a7, c7, rfl, hc7⟩ := own_len' hown'
        gi_wp2
        refine ⟨HS.out, _, _, _, _, _, rfl, ?_⟩
        rw [HD.out]
        exact { HH.out with
          q4 := fun _ => ⟨H2.out.1, H2.out.2.1⟩, q5 := fun _ => rfl
          w1 := fun e => absurd (show rinv.done listed 2 = false from e) (by rw [H2.out.2.2]; simp)
          w2 := fun _ e => absurd (show rinv.done listed 3 = false from e) (by rw [H2.out.2.1]; simp)
          w3 := fun _ e => by cases e
          w4 := fun _ _ => ⟨z, ca, cc, hic, hbc, hown', hgrow, hat.imp id fun e => e.trans (by simp)⟩
          w5 := fun e => absurd (show rinv.done listed 5 = true from e) (by rw [H5.out]; simp) }
      | 5, _ =>
        refine rinv.wpOpIn_of_list rfl ?_
        have h2 : rinv.done listed 4 = true := by have h := HA.out; simp [Region.binds] at h; simp [h]
        obtain ⟨z, ca, cc, hic, hbc, hown', hgrow, hat⟩ := HH.out.w4 h2 HN.out
        have h3 := HH.out.q4 h2
        have h22 := HH.out.q3 h3.2
        have H2 := Lib.hid h2; have H3 := Lib.hid h3; have H22 := Lib.hid h22
        obtain ⟨a7, c7, rfl, hc7⟩ := own_len' hown'
        have hbz : Boxed z (w.heap.size + 1) 30 ov := (hbc.block _ (Boxed.lt HB.out)).trans HB.out
        have hbu : Boxed u (w.heap.size + 1) 30 ov := (hgrow.block _ (by have := Boxed.lt hbz; simp; omega) (fun e => by have := (HROW.out.lt _ e.symm).1; have := HSZ.out; omega)).trans (hbz.alloc _)
        have hc := hbu.cell
        have hf := hbu.frozen
        clear h2 h3 h22 hbz hbu
        gi_wp2
        refine ⟨HS.out, _, _, _, _, _, rfl, ?_⟩
        rw [HD.out]
        exact { HH.out with
          q5 := fun _ => H2.out
          w1 := fun e => absurd (show rinv.done listed 2 = false from e) (by rw [H22.out]; simp)
          w2 := fun _ e => absurd (show rinv.done listed 3 = false from e) (by rw [H3.out.2]; simp)
          w3 := fun _ e => absurd (show rinv.done listed 4 = false from e) (by rw [H2.out]; simp)
          w4 := fun _ e => by cases e
          w5 := fun _ => ⟨z, u, _, ca, cc, hic, hbc, hown', hgrow, hat, rfl⟩ }
      | (j + 6), h => exact absurd h (by simp)
  case done =>
    rintro D D1 W hD ⟨⟨ov, L, ⟨hb, hnd⟩, hrow, hod, hL, hGW⟩, hI⟩ hdef
    rw [Nd.walk_len] at hrow
    have hmap : (x.walk []).map (fun y => ints y.1) = x.paths.map ints := by rw [← Nd.walk_paths, List.map_map]; rfl
    rw [hmap] at hL
    have c1 := hb.cell
    have HI := Lib.hid hI; have HD := Lib.hid hdef; have HL := Lib.hid hL; have HROW := Lib.hid hrow
    clear hI hdef hb hL hrow hmap
    gi_wp2
    refine ⟨by simp, .inl ⟨_, _, rfl, run_takeDeferred HD.out, ?_⟩⟩
    have hg := grownBy_putObj' W D (.deferred none)
    have hDr : ∀ r, (some D : Option Nat) = some r → ∃ o : Obj, W.heap[r]? = some o ∧ o.isCells = false := fun r e => by cases e; exact ⟨_, HD.out, rfl⟩
    refine ⟨_, results_tmp rfl _ _ _, ov, L, rfl, own_less (row_own W0.heap.size 25 1 (fun (_ : Unit) => ov) (fun _ => x.count) (fun _ => L) () W _ _ HROW.out hg hDr) hws, ⟨HL.out.1, fun i q hq => ?_⟩, HI.out.1.grown hg HI.out.1.size (fun j e => by cases e; omega)⟩
    obtain ⟨cv, e1, e2⟩ := HL.out.2 i q hq
    have hgs := hg.size
    exact ⟨cv, e1, ints_own (e2.keep (fun k hk => ⟨by have := hk.1; omega, by have := hk.2.1; omega⟩) (fun _ _ => rfl)) hg hDr⟩

theorem paths_calls (x : Nd) (hct : x.count ≤ 1000000) (w : World) (v : Value) (hu : NdAt (Lt w.heap.size) w x v) :
    Calls Tryd.prog 16 #[v] w fun e w' => ∃ v' L, e = .returned v' ∧ w'.ownsRow w.heap.size 25 1 v' x.count L ∧ ListsAt (Frsh w.heap.size w'.heap.size) w' L (x.paths.map ints) ∧ Below w.heap.size w w' :=
  callsIn_wide.1 (paths_in 3 (Nat.le_refl _) x hct w v hu)
end Go.Proofs.YtbdkemgfdghbkaaDoor.nd
