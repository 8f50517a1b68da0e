/- Ground of the law: BaWithout, Gx5, PvM. -/
import Derived.Test.YthadnhpkeljdoaaGreatQg18
import Derived.Test.YthadnhpkeljdoaaGreatQg15
import Derived.Deep.RegionHeld3
import Derived.Deep.Cut
import Derived.Test.YthadnhpkeljdoaaGreatQg19
set_option maxRecDepth 100000
set_option maxHeartbeats 8000000
set_option linter.unusedVariables false
set_option linter.unusedSimpArgs false
namespace Go.Proofs.YthadnhpkeljdoaaGreat.nd
open Go.Lib (hid)
open Go.RowKit Go.Shelf sx ed
def Nd.without (x : Nd) (l : List Int) : Option Nd:=match x.at l with
  | none=>none
  | some y=>if y.isBr then (match y.kids.get? 0 with
    | some z=>x.put l z
    | none=>none) else none
theorem isBr_calls (x : Nd) (w : World) (ao : Option Addr) (cap : Nat) :
    Calls Tryz.prog 27 #[.agg #[.int .i64 x.k,.string x.t,.slice ao x.kids.len cap]] w fun e w'=>e = .returned (.bool x.isBr) ∧ Below w.heap.size w w' :=
  (callsIn_wide.1 (isBr_in x w ao cap 3)).mono fun e w' h=>⟨h.1,by rw [h.2];exact (Below.refl _ _).alloc (Nat.le_refl _) _⟩
theorem at_weight' : ∀ (l : List Int) {x y : Nd},x.at l = some y → y.weight ≤ x.weight
  | [],x,y,h=>by cases h;exact Nat.le_refl _
  | i :: p,x,y,h=>by
    unfold Nd.at at h
    split at h
    · cases h
    · split at h
      · cases h
      · rename_i z hz
        have h1:=at_weight' p h
        have h2:=Fo.weight_get hz
        simp only [Nd.weight] at h1 h2 ⊢
        omega
abbrev zeroC : Array Value:=#[.int .i64 0,.string ⟨#[]⟩,.slice none 0 0]
theorem without_none (x : Nd) (hwt : x.weight ≤ 500000) (l : List Int) (w : World) (v p : Value) (hu : NdAt (Lt w.heap.size) w x v) (hpt : IntsAt (Lt w.heap.size) w p l) (hat : x.at l = none) :
    Calls Tryz.prog 11 #[v,p] w fun e w'=>e = .returned (.tuple #[zeroNd,.bool false]) ∧ Below w.heap.size w w':=by
  obtain ⟨s,rfl,hs⟩:=hu
  obtain ⟨ao,cap,rfl,hm⟩:=hs.slice
  obtain ⟨po,pc,rfl,hpm,_,_⟩:=id hpt
  obtain ⟨W0,hW0⟩ : ∃ W0,((w.alloc (.cells #[.int .i64 x.k,.string x.t,.slice ao x.kids.len cap] 27)).alloc (.cells zeroC 27)) = W0:=⟨_,rfl⟩
  have hb0 : Below w.heap.size w W0:=by rw [← hW0];exact ((Below.refl _ w).alloc (Nat.le_refl _) _).alloc (by simp) _
  have hk1 : Blk W0 w.heap.size 27 #[.int .i64 x.k,.string x.t,.slice ao x.kids.len cap]:=by rw [← hW0];exact (Blk.new w _ _).alloc _
  have hk2 : Blk W0 (w.heap.size + 1) 27 zeroC:=by
    rw [← hW0]
    simpa using Blk.new (w.alloc (.cells #[.int .i64 x.k,.string x.t,.slice ao x.kids.len cap] 27)) 27 zeroC
  have hac:=at_calls x (by omega) l W0 _ _ ((NdAt.mk (hs.below hb0 (Nat.le_refl _))).mono hb0.size) (hpt.keep (fun k e=>Nat.lt_of_lt_of_le e hb0.size) (fun k e=>hb0.block k e))
  rw [hat] at hac
  have a0:=hk1.cell 0;have a1:=hk1.cell 1;have a2:=hk1.cell 2
  have HAC:=hid hac;have HB0:=hid hb0;have HK2:=hid hk2;have HW0:=hid hW0
  clear hac hb0 hk1 hk2 hW0 hs hpt hat hm hpm
  go_enter Tryz.func11,Tryz.ntmps11
  go_wp2_with fail
  rw [HW0.out]
  go_wp2_with fail
  ((with_reducible refine HAC.out.mono ?_);rintro e w1 ⟨rfl,hb1⟩)
  go_upto_region 2 with fail
  obtain ⟨W2,hW2⟩ : ∃ W2,w1.alloc (.cells zeroC 27) = W2:=⟨_,rfl⟩
  rw [hW2]
  have hb2 : Below w1.heap.size w1 W2:=by rw [← hW2];exact (Below.refl _ w1).alloc (Nat.le_refl _) _
  have hk : Blk W2 (w.heap.size + 1) 27 zeroC:=(HK2.out.own hb1).own hb2
  have f0:=hk.frozen 0;have f1:=hk.frozen 1;have f2:=hk.frozen 2
  have e0:=hk.cell 0;have e1:=hk.cell 1;have e2:=hk.cell 2
  have hcell:=set3_blk hk (.int .i64 0) (.string ⟨#[]⟩) (.slice none 0 0)
  have g0:=hcell.cell 0;have g1:=hcell.cell 1;have g2:=hcell.cell 2
  have HBB:=hid (HB0.out.trans (((hb1.trans (hb2.mono hb1.size))).mono HB0.out.size))
  clear hb1 hb2 hW2 hk hcell
  go_wp2_with fail
  refine bodyPost_ret (v:=.tuple #[zeroNd,.bool false]) (by simp [results,Tryz.results11,go_sem,g0,g1,g2]) rfl ⟨rfl,?_⟩
  exact HBB.out.trans (set3_below _ _ _ (Nat.le_succ _))
theorem without_other (x y : Nd) (hwt : x.weight ≤ 500000) (l : List Int) (w : World) (v p : Value) (hu : NdAt (Lt w.heap.size) w x v) (hpt : IntsAt (Lt w.heap.size) w p l) (hat : x.at l = some y) (hbr : y.isBr = false) :
    Calls Tryz.prog 11 #[v,p] w fun e w'=>e = .returned (.tuple #[zeroNd,.bool false]) ∧ Below w.heap.size w w':=by
  obtain ⟨s,rfl,hs⟩:=hu
  obtain ⟨ao,cap,rfl,hm⟩:=hs.slice
  obtain ⟨po,pc,rfl,hpm,_,_⟩:=id hpt
  obtain ⟨W0,hW0⟩ : ∃ W0,((w.alloc (.cells #[.int .i64 x.k,.string x.t,.slice ao x.kids.len cap] 27)).alloc (.cells zeroC 27)) = W0:=⟨_,rfl⟩
  have hb0 : Below w.heap.size w W0:=by rw [← hW0];exact ((Below.refl _ w).alloc (Nat.le_refl _) _).alloc (by simp) _
  have hk1 : Blk W0 w.heap.size 27 #[.int .i64 x.k,.string x.t,.slice ao x.kids.len cap]:=by rw [← hW0];exact (Blk.new w _ _).alloc _
  have hk2 : Blk W0 (w.heap.size + 1) 27 zeroC:=by
    rw [← hW0]
    simpa using Blk.new (w.alloc (.cells #[.int .i64 x.k,.string x.t,.slice ao x.kids.len cap] 27)) 27 zeroC
  have hac:=at_calls x (by omega) l W0 _ _ ((NdAt.mk (hs.below hb0 (Nat.le_refl _))).mono hb0.size) (hpt.keep (fun k e=>Nat.lt_of_lt_of_le e hb0.size) (fun k e=>hb0.block k e))
  rw [hat] at hac
  have hyw:=at_weight' l hat
  have HYW:=hid hyw
  have a0:=hk1.cell 0;have a1:=hk1.cell 1;have a2:=hk1.cell 2
  have HAC:=hid hac;have HB0:=hid hb0;have HK2:=hid hk2;have HW0:=hid hW0
  clear hac hb0 hk1 hk2 hW0 hs hpt hat hm hpm
  go_enter Tryz.func11,Tryz.ntmps11
  go_wp2_with fail
  rw [HW0.out]
  go_wp2_with fail
  ((with_reducible refine HAC.out.mono ?_);rintro e w1 ⟨u,rfl,s1,rfl,hbd,hb1⟩)
  obtain ⟨a5,c5,rfl⟩:=hbd.slice
  have hky : KidsAt (Lt w1.heap.size) w1 y.kids (.slice a5 y.kids.len c5):=hbd.kids.toLt
  go_upto_region 2 with fail
  obtain ⟨W2,hW2⟩ : ∃ W2,w1.alloc (.cells #[.int .i64 y.k,.string y.t,.slice a5 y.kids.len c5] 27) = W2:=⟨_,rfl⟩
  rw [hW2]
  have hb2 : Below w1.heap.size w1 W2:=by rw [← hW2];exact (Below.refl _ w1).alloc (Nat.le_refl _) _
  have h6 : Blk W2 w1.heap.size 27 #[.int .i64 y.k,.string y.t,.slice a5 y.kids.len c5]:=by rw [← hW2];exact Blk.new w1 _ _
  have hk2 : Blk W2 (w.heap.size + 1) 27 zeroC:=(HK2.out.own hb1).own hb2
  have s0:=h6.cell 0;have s1:=h6.cell 1;have s2:=h6.cell 2
  have hib:=isBr_calls y W2 a5 c5
  rw [hbr] at hib
  have HIB:=hid hib;have HB2:=hid (HB0.out.trans ((hb1.trans (hb2.mono hb1.size)).mono HB0.out.size));have HK3:=hid hk2
  clear hib hb1 hb2 hW2 h6 hk2 hbd hky
  go_wp2_with fail
  ((with_reducible refine HIB.out.mono ?_);rintro e w3 ⟨rfl,hb3⟩)
  have hk:=HK3.out.own hb3
  have f0:=hk.frozen 0;have f1:=hk.frozen 1;have f2:=hk.frozen 2
  have e0:=hk.cell 0;have e1:=hk.cell 1;have e2:=hk.cell 2
  have hcell:=set3_blk hk (.int .i64 0) (.string ⟨#[]⟩) (.slice none 0 0)
  have g0:=hcell.cell 0;have g1:=hcell.cell 1;have g2:=hcell.cell 2
  have HBB:=hid (HB2.out.trans (hb3.mono HB2.out.size))
  clear hb3 hk hcell
  go_wp2_with fail
  refine bodyPost_ret (v:=.tuple #[zeroNd,.bool false]) (by simp [results,Tryz.results11,go_sem,g0,g1,g2]) rfl ⟨rfl,?_⟩
  exact HBB.out.trans (set3_below _ _ _ (Nat.le_succ _))
theorem put_of_at : ∀ (l : List Int) {x y : Nd} (z : Nd),x.at l = some y → ∃ q,x.put l z = some q
  | [],x,y,z,h=>⟨z,rfl⟩
  | i :: p,x,y,z,h=>by
    unfold Nd.at at h
    unfold Nd.put
    split at h
    · cases h
    · rename_i hi
      rw [if_neg hi]
      split at h
      · cases h
      · rename_i u hu
        obtain ⟨q,hq⟩:=put_of_at p z h
        exact ⟨_,by rw [hq];rfl⟩
abbrev WS (w : World) (b6 N1 gz oz : Nat) (x z : Nd) (ao a5 az : Option Addr) (cap n5 c5 cz : Nat) (u : World) : Prop :=
  (u.cell? ⟨w.heap.size,0,none⟩ = some (.int .i64 x.k) ∧ u.cell? ⟨w.heap.size,1,none⟩ = some (.string x.t) ∧ u.cell? ⟨w.heap.size,2,none⟩ = some (.slice ao x.kids.len cap) ∧ u.cell? ⟨b6,2,none⟩ = some (.slice a5 n5 c5) ∧
    u.cell? ⟨gz,oz,none⟩ = some (.int .i64 z.k) ∧ u.cell? ⟨gz,oz + 1,none⟩ = some (.string z.t) ∧ u.cell? ⟨gz,oz + 2,none⟩ = some (.slice az z.kids.len cz)) ∧
  (Below w.heap.size w u ∧ N1 ≤ u.heap.size ∧ KidsAt (fun k=>w.heap.size + 2 ≤ k ∧ k < N1) u z.kids (.slice az z.kids.len cz)) ∧ ∃ a b c,Blk u (w.heap.size + 1) 27 #[a,b,c]
theorem WS.more {w : World} {b6 N1 gz oz : Nat} {x z : Nd} {ao a5 az : Option Addr} {cap n5 c5 cz : Nat} {u v : World} (h : WS w b6 N1 gz oz x z ao a5 az cap n5 c5 cz u) (hb : Below u.heap.size u v) : WS w b6 N1 gz oz x z ao a5 az cap n5 c5 cz v:=by
  obtain ⟨⟨h1,h2,h3,h4,h5,h6,h7⟩,⟨h8,h9,h10⟩,a,b,c,h11⟩:=h
  have k : ∀ {p : Addr} {x : Value},u.cell? p = some x → v.cell? p = some x:=fun hp=>(hb.cell (World.block_lt_of_cell? u _ hp)).trans hp
  exact ⟨⟨k h1,k h2,k h3,k h4,k h5,k h6,k h7⟩,⟨h8.trans (hb.mono h8.size),Nat.le_trans h9 hb.size,h10.keep (fun _ e=>e) (fun k e=>hb.block k (by omega))⟩,a,b,c,h11.own hb⟩
theorem WS.put {w : World} {b6 N1 gz oz : Nat} {x z : Nd} {ao a5 az : Option Addr} {cap n5 c5 cz : Nat} {u : World} (h : WS w b6 N1 gz oz x z ao a5 az cap n5 c5 cz u) (hr : b6 ≠ w.heap.size + 1 ∧ gz ≠ w.heap.size + 1) (p q r : Value) : WS w b6 N1 gz oz x z ao a5 az cap n5 c5 cz (((u.setCell ⟨w.heap.size + 1,0,none⟩ p).setCell ⟨w.heap.size + 1,1,none⟩ q).setCell ⟨w.heap.size + 1,2,none⟩ r):=by
  obtain ⟨⟨h1,h2,h3,h4,h5,h6,h7⟩,⟨h8,h9,h10⟩,a,b,c,h11⟩:=h
  have k : ∀ (g o : Nat) {v : Value},g ≠ w.heap.size + 1 → u.cell? ⟨g,o,none⟩ = some v → (((u.setCell ⟨w.heap.size + 1,0,none⟩ p).setCell ⟨w.heap.size + 1,1,none⟩ q).setCell ⟨w.heap.size + 1,2,none⟩ r).cell? ⟨g,o,none⟩ = some v:=fun g o v hg hv=>by
    rw [World.cell?_setCell_other _ _ _ _ (fun e=>hg (by simpa using e.symm)),World.cell?_setCell_other _ _ _ _ (fun e=>hg (by simpa using e.symm)),World.cell?_setCell_other _ _ _ _ (fun e=>hg (by simpa using e.symm))]
    exact hv
  have n0 : w.heap.size ≠ w.heap.size + 1:=by omega
  refine ⟨⟨k _ _ n0 h1,k _ _ n0 h2,k _ _ n0 h3,k _ _ hr.1 h4,k _ _ hr.2 h5,k _ _ hr.2 h6,k _ _ hr.2 h7⟩,⟨h8.trans (set3_below _ _ _ (Nat.le_succ _)),by simpa using h9,h10.keep (fun _ e=>e) (fun k e=>?_)⟩,p,q,r,set3_blk h11 _ _ _⟩
  rw [Below.heap_setCell _ _ _ k (fun e'=>by simp at e';omega),Below.heap_setCell _ _ _ k (fun e'=>by simp at e';omega),Below.heap_setCell _ _ _ k (fun e'=>by simp at e';omega)]
theorem without_br (x y z q : Nd) (hwt : x.weight ≤ 500000) (l : List Int) (w : World) (v p : Value) (hu : NdAt (Lt w.heap.size) w x v) (hpt : IntsAt (Lt w.heap.size) w p l) (hat : x.at l = some y) (hbr : y.isBr = true) (hz : y.kids.get? 0 = some z) (hq : x.put l z = some q) :
    Calls Tryz.prog 11 #[v,p] w fun e w'=>∃ u,e = .returned (.tuple #[u,.bool true]) ∧ NdAt (Frsh w.heap.size w'.heap.size) w' q u ∧ Below w.heap.size w w':=by
  obtain ⟨s,rfl,hs⟩:=hu
  obtain ⟨ao,cap,rfl,hm⟩:=hs.slice
  obtain ⟨po,pc,rfl,hpm,_,_⟩:=id hpt
  obtain ⟨W0,hW0⟩ : ∃ W0,((w.alloc (.cells #[.int .i64 x.k,.string x.t,.slice ao x.kids.len cap] 27)).alloc (.cells zeroC 27)) = W0:=⟨_,rfl⟩
  have hb0 : Below w.heap.size w W0:=by rw [← hW0];exact ((Below.refl _ w).alloc (Nat.le_refl _) _).alloc (by simp) _
  have hk1 : Blk W0 w.heap.size 27 #[.int .i64 x.k,.string x.t,.slice ao x.kids.len cap]:=by rw [← hW0];exact (Blk.new w _ _).alloc _
  have hk2 : Blk W0 (w.heap.size + 1) 27 zeroC:=by
    rw [← hW0]
    simpa using Blk.new (w.alloc (.cells #[.int .i64 x.k,.string x.t,.slice ao x.kids.len cap] 27)) 27 zeroC
  have hac:=at_calls x (by omega) l W0 _ _ ((NdAt.mk (hs.below hb0 (Nat.le_refl _))).mono hb0.size) (hpt.keep (fun k e=>Nat.lt_of_lt_of_le e hb0.size) (fun k e=>hb0.block k e))
  rw [hat] at hac
  have hyw:=at_weight' l hat
  have HYW:=hid hyw
  have a0:=hk1.cell 0;have a1:=hk1.cell 1;have a2:=hk1.cell 2
  have hzw:=Fo.weight_get hz
  have hzw : z.weight ≤ 500000:=by
    have h1:=at_weight' l hat
    have h2 : z.weight ≤ y.weight:=by unfold Nd.weight at hzw ⊢;omega
    omega
  have HXV:=hid (fun W (hb : Below w.heap.size w W)=>(NdAt.mk (hs.below hb (Nat.le_refl _)) : NdAt (Lt w.heap.size) W x _));have HPV:=hid (fun W (hb : Below w.heap.size w W)=>(hpt.keep (fun k e=>Nat.lt_of_lt_of_le e hb.size) (fun k e=>hb.block k e) : IntsAt (Lt W.heap.size) W _ l))
  have HXW:=hid hwt;have HZ:=hid hz;have HQ:=hid hq;have HZW:=hid hzw;have HBR:=hid hbr
  have HAC:=hid hac;have HB0:=hid hb0;have HK2:=hid hk2;have HW0:=hid hW0
  have HK1:=hid hk1
  clear hz hq hzw hbr hac hb0 hk1 hk2 hW0 hs hpt hat hm hpm
  go_enter Tryz.func11,Tryz.ntmps11
  go_wp2_with fail
  rw [HW0.out]
  go_wp2_with fail
  ((with_reducible refine HAC.out.mono ?_);rintro e w1 ⟨u,rfl,s1,rfl,hbd,hb1⟩)
  obtain ⟨a5,c5,rfl⟩:=hbd.slice
  have hky : KidsAt (Lt w1.heap.size) w1 y.kids (.slice a5 y.kids.len c5):=hbd.kids.toLt
  go_upto_region 2 with fail
  obtain ⟨W2,hW2⟩ : ∃ W2,w1.alloc (.cells #[.int .i64 y.k,.string y.t,.slice a5 y.kids.len c5] 27) = W2:=⟨_,rfl⟩
  rw [hW2]
  have hb2 : Below w1.heap.size w1 W2:=by rw [← hW2];exact (Below.refl _ w1).alloc (Nat.le_refl _) _
  have h6 : Blk W2 w1.heap.size 27 #[.int .i64 y.k,.string y.t,.slice a5 y.kids.len c5]:=by rw [← hW2];exact Blk.new w1 _ _
  have hk2 : Blk W2 (w.heap.size + 1) 27 zeroC:=(HK2.out.own hb1).own hb2
  have s0:=h6.cell 0;have s1:=h6.cell 1;have s2:=h6.cell 2
  have hib:=isBr_calls y W2 a5 c5
  rw [HBR.out] at hib
  have hbw2:=HB0.out.trans ((hb1.trans (hb2.mono hb1.size)).mono HB0.out.size)
  have hsz0 : W0.heap.size = w.heap.size + 2:=by rw [← HW0.out];simp
  have hky2 : KidsAt (fun k=>w.heap.size + 2 ≤ k ∧ k < w1.heap.size) W2 y.kids (.slice a5 y.kids.len c5):=hbd.kids.keep (fun k e=>⟨Nat.le_trans (Nat.le_of_eq hsz0.symm) e.1,e.2⟩) (fun k e=>hb2.block k e.2)
  obtain ⟨gz,oz,az,cz,rfl,hgs,hgz,d0,d1,d2,d3⟩:=hky2.get HZ.out
  simp only [Nat.zero_mul,Nat.add_zero] at d0 d1 d2
  obtain ⟨n5,hn5⟩ : ∃ n5,y.kids.len = n5:=⟨_,rfl⟩
  have hn51 : n5 = 1:=by
    have h:=HBR.out
    unfold Nd.isBr at h
    rw [Bool.and_eq_true] at h
    rw [← hn5]
    exact eq_of_beq h.2
  subst hn51
  have hx2:=(HK1.out.own hb1).own hb2
  have hN1 : w.heap.size + 2 ≤ w1.heap.size:=by
    have h2 : W0.heap.size = w.heap.size + 2:=by rw [← HW0.out];simp
    have:=hb1.size
    omega
  rw [hn5] at s2 hib
  have hS : WS w w1.heap.size w1.heap.size gz oz x z ao (some ⟨gz,oz,none⟩) az cap 1 c5 cz W2:=⟨⟨hx2.cell 0,hx2.cell 1,hx2.cell 2,s2,d0,d1,d2⟩,⟨hbw2,hb2.size,d3⟩,_,_,_,hk2⟩
  have HIB:=hid hib;have HSS:=hid hS;have HN:=hid hn5
  have hpr : w1.heap.size ≠ w.heap.size + 1 ∧ gz ≠ w.heap.size + 1:=⟨by omega,by omega⟩
  have hcall : ∀ u,WS w w1.heap.size w1.heap.size gz oz x z ao (some ⟨gz,oz,none⟩) az cap 1 c5 cz u → Calls Tryz.prog 28 #[.agg #[.int .i64 x.k,.string x.t,.slice ao x.kids.len cap],.slice po l.length pc,.agg #[.int .i64 z.k,.string z.t,.slice az z.kids.len cz]] u fun e w'=>∃ uk us ua un uc,e = .returned (.tuple #[.agg #[.int .i64 uk,.string us,.slice ua un uc],.bool true]) ∧ q.k = uk ∧ q.t = us ∧ KidsAt (fun k=>u.heap.size ≤ k ∧ k < w'.heap.size) w' q.kids (.slice ua un uc) ∧ Below u.heap.size u w':=fun u hu=>by
    refine (with_calls x z HXW.out HZW.out l u _ _ _ ((HXV.out u hu.2.1.1).mono hu.2.1.1.size) (HPV.out u hu.2.1.1) (NdAt.mk (hu.2.1.2.2.keep (fun k e=>Nat.lt_of_lt_of_le e.2 hu.2.1.2.1) (fun _ _=>rfl)))).mono fun e w' hr=>?_
    rw [HQ.out] at hr
    obtain ⟨uu,rfl,s,rfl,hbd,hbe⟩:=hr
    obtain ⟨ua,uc,rfl⟩:=hbd.slice
    exact ⟨_,_,ua,_,uc,rfl,rfl,rfl,hbd.kids,hbe⟩
  have HC:=hid hcall
  clear hib hb1 hb2 hW2 h6 hk2 hbd hky hky2 hbw2 hx2 hn5 hcall d0 d1 d2 d3 hS hgs hgz
  go_wp2_with fail
  ((with_reducible refine HIB.out.mono ?_);rintro e w3 ⟨rfl,hb3⟩)
  have hS:=HSS.out.more hb3
  have HS3:=hid hS.2.1.2.1;have HS4:=hid hS.2.1.1.size
  obtain ⟨⟨s0,s1,s2,s3,s4,s5,s6⟩,_,_⟩:=id hS
  clear hb3
  go_upto_region 4 with fail
  go_region_held3 (fun u=>(u.cell? ⟨w.heap.size,0,none⟩ = some (.int .i64 x.k) ∧ u.cell? ⟨w.heap.size,1,none⟩ = some (.string x.t) ∧ u.cell? ⟨w.heap.size,2,none⟩ = some (.slice ao x.kids.len cap) ∧ u.cell? ⟨w1.heap.size,2,none⟩ = some (.slice (some ⟨gz,oz,none⟩) 1 c5) ∧
    u.cell? ⟨gz,oz,none⟩ = some (.int .i64 z.k) ∧ u.cell? ⟨gz,oz + 1,none⟩ = some (.string z.t) ∧ u.cell? ⟨gz,oz + 2,none⟩ = some (.slice az z.kids.len cz)) ∧
  (Below w.heap.size w u ∧ w1.heap.size ≤ u.heap.size ∧ KidsAt (fun k=>w.heap.size + 2 ≤ k ∧ k < w1.heap.size) u z.kids (.slice az z.kids.len cz)) ∧ ∃ a b c,Blk u (w.heap.size + 1) 27 #[a,b,c])
    (first
      | assumption
      | exact WS.put (by assumption) hpr _ _ _
      | exact WS.more hS ((Below.refl _ _).drew)
      | exact WS.more (by assumption) (by assumption))
    (first
      | (go_at_call 28;with_reducible refine (HC.out _ (by assumption)).mono ?_;rintro _ u1 ⟨uk,us,ua,un,uc,rfl,hq1,hq2,hq3,hbn⟩;have hcs:=WS.more (by assumption) hbn;obtain ⟨a,b,c,hblk⟩:=hcs.2.2;have p0:=hblk.frozen 0;have p1:=hblk.frozen 1;have p2:=hblk.frozen 2;have q0:=hblk.cell 0;have q1:=hblk.cell 1;have q2:=hblk.cell 2))
  rename_i hHeld
  have qq:=set3_blk hblk (.int .i64 uk) (.string us) (.slice ua un uc)
  have g0:=qq.cell 0;have g1:=qq.cell 1;have g2:=qq.cell 2
  have GB:=hid hHeld.2.1.1
  have HQ3:=hid hq3;have HQ1:=hid hq1;have HQ2:=hid hq2;have HBN:=hid hbn
  clear hHeld hcs hbn qq hblk p0 p1 p2 q0 q1 q2 hS hq1 hq2 hq3
  go_wp2_with fail
  refine bodyPost_ret (v:=.tuple #[.agg #[.int .i64 uk,.string us,.slice ua un uc],.bool true]) (by simp [results,Tryz.results11,go_sem,g0,g1,g2]) rfl ?_
  refine ⟨_,rfl,⟨_,by rw [HQ1.out,HQ2.out],HQ3.out.keep (fun k e=>?_) (fun k e=>?_)⟩,GB.out⟩
  · refine ⟨?_,by simpa using e.2⟩
    have e1 : w3.heap.size ≤ k:=e.1
    have h3:=HS4.out
    omega
  · have e1 : w3.heap.size ≤ k:=e.1
    have h3:=HS3.out
    rw [Below.heap_setCell _ _ _ k (fun e'=>by simp at e';omega),Below.heap_setCell _ _ _ k (fun e'=>by simp at e';omega),Below.heap_setCell _ _ _ k (fun e'=>by simp at e';omega)]
theorem without_calls (x : Nd) (hwt : x.weight ≤ 500000) (l : List Int) (w : World) (v p : Value) (hu : NdAt (Lt w.heap.size) w x v) (hpt : IntsAt (Lt w.heap.size) w p l) :
    Calls Tryz.prog 11 #[v,p] w fun e w'=>∃ u,e = .returned (.tuple #[u,.bool (x.without l).isSome]) ∧ NdAt (Frsh w.heap.size w'.heap.size) w' ((x.without l).getD ⟨0,⟨#[]⟩,.nil⟩) u ∧ Below w.heap.size w w':=by
  have hno : ∀ (hn : x.without l = none),(Calls Tryz.prog 11 #[v,p] w fun e w'=>e = .returned (.tuple #[zeroNd,.bool false]) ∧ Below w.heap.size w w') →
      Calls Tryz.prog 11 #[v,p] w fun e w'=>∃ u,e = .returned (.tuple #[u,.bool (x.without l).isSome]) ∧ NdAt (Frsh w.heap.size w'.heap.size) w' ((x.without l).getD ⟨0,⟨#[]⟩,.nil⟩) u ∧ Below w.heap.size w w':=by
    intro hn hc
    rw [hn]
    refine hc.mono fun e w' h=>⟨zeroNd,h.1,⟨_,rfl,none,0,rfl,⟨Nat.zero_le _,Nat.zero_le _⟩,fun hne=>absurd rfl hne⟩,h.2⟩
  cases hat : x.at l with
  | none=>exact hno (by unfold Nd.without;rw [hat]) (without_none x hwt l w v p hu hpt hat)
  | some y =>
    cases hbr : y.isBr with
    | false=>exact hno (by unfold Nd.without;rw [hat];dsimp only;rw [hbr];rfl) (without_other x y hwt l w v p hu hpt hat hbr)
    | true =>
      have hl : y.kids.len = 1:=by
        have h:=hbr
        unfold Nd.isBr at h
        rw [Bool.and_eq_true] at h
        exact eq_of_beq h.2
      obtain ⟨z,hz⟩:=Fo.get_of_lt (f:=y.kids) (i:=0) (by omega)
      obtain ⟨q,hq⟩:=put_of_at l z hat
      have e : x.without l = some q:=by unfold Nd.without;rw [hat];dsimp only;rw [hbr,hz];exact hq
      rw [e]
      exact without_br x y z q hwt l w v p hu hpt hat hbr hz hq
end Go.Proofs.YthadnhpkeljdoaaGreat.nd
namespace Go.Proofs.YthadnhpkeljdoaaGreat.gn
open Go.Lib (hid)
open Go.RowKit Go.Shelf sx ed
section
variable {bs : List Int} {m : Int} {X : Nat}
theorem postOn_ex (hs : Gs bs m X) (hX : X ≤ 100000000000) {d : Int} (hd : d - 1 ≤ m) (hdp : 0 < d) (hd0 : -80 ≤ d) (hd9 : d ≤ 900) (K : Nat) : Ex1 bs (6 * X + 200) 66 d K:=by
 obtain ⟨d1,hd1⟩ : ∃ d1,d - 1 = d1:=⟨_,rfl⟩
 have w1 : wrap64 (d - 1) = d1:=by rw [IntWalk.wrap64_in _ (by omega)];exact hd1
 have w2 : IntKind.i64.wrap (d - 1) = d1:=(IntWalk.i64_left _).trans w1
 have hPipe1:=hid (hs.pipe d1 (by omega) (by omega));have hPost1:=hid (hs.post d1 (by omega) (by omega))
 have hPattern1:=hid (pattern_ex hs (by omega) (d:=d1) (by omega) (by omega) (by omega))
 have hArgs1:=hid (args_ex hs (by omega) (d:=d1) (by omega) (by omega) (by omega));have hObject1:=hid (object_ex hs (by omega) (d:=d1) (by omega) (by omega) (by omega))
 have HX:=hid hX
 have e1 : decide (d ≤ 0) = false:=decide_eq_false (by omega)
 have e2 : ¬ (d ≤ 0):=by omega
 clear hs hX hd hd0 hd9 hd1 hdp
 obtain ⟨z1,K1,hz1,H1⟩:=next_ex (bs:=bs) K 16 16 rfl (by decide) (by decide)
 have hzz : z1 = 0 ∨ z1 = 1 ∨ z1 = 2 ∨ z1 = 3 ∨ z1 = 4 ∨ z1 = 5 ∨ z1 = 6 ∨ z1 = 7 ∨ z1 = 8 ∨ z1 = 9 ∨ z1 = 10 ∨ z1 = 11 ∨ z1 = 12 ∨ z1 = 13 ∨ z1 = 14 ∨ z1 = 15:=by omega
 clear hz1
 rcases hzz with rfl | rfl | rfl | rfl | rfl | rfl | rfl | rfl | rfl | rfl | rfl | rfl | rfl | rfl | rfl | rfl
 ·skip
  obtain ⟨s2,K2,H2⟩:=hPipe1.out K1
  obtain ⟨s3,c3,Z3,q3⟩:=catL ⟨#[91]⟩ s2 1 H2.out.1 rfl (by have:=HX.out;omega)
  obtain ⟨s4,c4,Z4,q4⟩:=catR s3 ⟨#[93]⟩ 1 Z3.out rfl (by have:=HX.out;omega)
  refine ⟨s4,K2,hid ⟨Nat.le_trans Z4.out (by have:=HX.out;omega),fun B ao cap W h=>?_⟩⟩
  have G0:=st0 h
  clear h
  go_enter Tryz.func66,Tryz.ntmps66
  go_wp2_with fail
  (with_reducible refine (tN H1 G0).mono ?_);rintro e w1 ⟨rfl,G1⟩
  go_wp2_with fail
  (with_reducible refine (tA H2 G1).mono ?_);rintro e w2 ⟨rfl,G2⟩
  go_wp2_with fail
  go_ret
  exact ⟨rfl,G2.out.g,G2.out.k⟩
 ·skip
  obtain ⟨s5,K5,H5⟩:=hObject1.out K1
  refine ⟨s5,K5,hid ⟨Nat.le_trans H5.out.1 (by have:=HX.out;omega),fun B ao cap W h=>?_⟩⟩
  have G0:=st0 h
  clear h
  go_enter Tryz.func66,Tryz.ntmps66
  go_wp2_with fail
  (with_reducible refine (tN H1 G0).mono ?_);rintro e w1 ⟨rfl,G1⟩
  go_wp2_with fail
  (with_reducible refine (tA H5 G1).mono ?_);rintro e w5 ⟨rfl,G5⟩
  go_wp2_with fail
  go_ret
  exact ⟨rfl,G5.out.g,G5.out.k⟩
 ·skip
  obtain ⟨s6,K6,H6⟩:=hPipe1.out K1
  obtain ⟨s7,c7,Z7,q7⟩:=catL ⟨#[105,102,32]⟩ s6 3 H6.out.1 rfl (by have:=HX.out;omega)
  obtain ⟨s8,c8,Z8,q8⟩:=catR s7 ⟨#[32,116,104,101,110,32]⟩ 6 Z7.out rfl (by have:=HX.out;omega)
  obtain ⟨s9,K9,H9⟩:=hPipe1.out K6
  obtain ⟨s10,c10,Z10,q10⟩:=cat s8 s9 Z8.out H9.out.1 (by have:=HX.out;omega)
  obtain ⟨s11,c11,Z11,q11⟩:=catR s10 ⟨#[32,101,108,115,101,32]⟩ 6 Z10.out rfl (by have:=HX.out;omega)
  obtain ⟨s12,K12,H12⟩:=hPipe1.out K9
  obtain ⟨s13,c13,Z13,q13⟩:=cat s11 s12 Z11.out H12.out.1 (by have:=HX.out;omega)
  obtain ⟨s14,c14,Z14,q14⟩:=catR s13 ⟨#[32,101,110,100]⟩ 4 Z13.out rfl (by have:=HX.out;omega)
  refine ⟨s14,K12,hid ⟨Nat.le_trans Z14.out (by have:=HX.out;omega),fun B ao cap W h=>?_⟩⟩
  have G0:=st0 h
  clear h
  go_enter Tryz.func66,Tryz.ntmps66
  go_wp2_with fail
  (with_reducible refine (tN H1 G0).mono ?_);rintro e w1 ⟨rfl,G1⟩
  go_wp2_with fail
  (with_reducible refine (tA H6 G1).mono ?_);rintro e w6 ⟨rfl,G6⟩
  go_wp2_with fail
  (with_reducible refine (tA H9 G6).mono ?_);rintro e w9 ⟨rfl,G9⟩
  go_wp2_with fail
  (with_reducible refine (tA H12 G9).mono ?_);rintro e w12 ⟨rfl,G12⟩
  go_wp2_with fail
  go_ret
  exact ⟨rfl,G12.out.g,G12.out.k⟩
 ·skip
  obtain ⟨s15,K15,H15⟩:=hPipe1.out K1
  obtain ⟨s16,c16,Z16,q16⟩:=catL ⟨#[105,102,32]⟩ s15 3 H15.out.1 rfl (by have:=HX.out;omega)
  obtain ⟨s17,c17,Z17,q17⟩:=catR s16 ⟨#[32,116,104,101,110,32,46,32,101,108,105,102,32,49,32,116,104,101,110,32]⟩ 20 Z16.out rfl (by have:=HX.out;omega)
  obtain ⟨s18,K18,H18⟩:=hPipe1.out K15
  obtain ⟨s19,c19,Z19,q19⟩:=cat s17 s18 Z17.out H18.out.1 (by have:=HX.out;omega)
  obtain ⟨s20,c20,Z20,q20⟩:=catR s19 ⟨#[32,101,110,100]⟩ 4 Z19.out rfl (by have:=HX.out;omega)
  refine ⟨s20,K18,hid ⟨Nat.le_trans Z20.out (by have:=HX.out;omega),fun B ao cap W h=>?_⟩⟩
  have G0:=st0 h
  clear h
  go_enter Tryz.func66,Tryz.ntmps66
  go_wp2_with fail
  (with_reducible refine (tN H1 G0).mono ?_);rintro e w1 ⟨rfl,G1⟩
  go_wp2_with fail
  (with_reducible refine (tA H15 G1).mono ?_);rintro e w15 ⟨rfl,G15⟩
  go_wp2_with fail
  (with_reducible refine (tA H18 G15).mono ?_);rintro e w18 ⟨rfl,G18⟩
  go_wp2_with fail
  go_ret
  exact ⟨rfl,G18.out.g,G18.out.k⟩
 ·skip
  obtain ⟨s21,K21,H21⟩:=hPost1.out K1
  obtain ⟨s22,c22,Z22,q22⟩:=catL ⟨#[114,101,100,117,99,101,32]⟩ s21 7 H21.out.1 rfl (by have:=HX.out;omega)
  obtain ⟨s23,c23,Z23,q23⟩:=catR s22 ⟨#[32,97,115,32]⟩ 4 Z22.out rfl (by have:=HX.out;omega)
  obtain ⟨s24,K24,H24⟩:=hPattern1.out K21
  obtain ⟨s25,c25,Z25,q25⟩:=cat s23 s24 Z23.out H24.out.1 (by have:=HX.out;omega)
  obtain ⟨s26,c26,Z26,q26⟩:=catR s25 ⟨#[32,40]⟩ 2 Z25.out rfl (by have:=HX.out;omega)
  obtain ⟨s27,K27,H27⟩:=hPipe1.out K24
  obtain ⟨s28,c28,Z28,q28⟩:=cat s26 s27 Z26.out H27.out.1 (by have:=HX.out;omega)
  obtain ⟨s29,c29,Z29,q29⟩:=catR s28 ⟨#[59,32]⟩ 2 Z28.out rfl (by have:=HX.out;omega)
  obtain ⟨s30,K30,H30⟩:=hPipe1.out K27
  obtain ⟨s31,c31,Z31,q31⟩:=cat s29 s30 Z29.out H30.out.1 (by have:=HX.out;omega)
  obtain ⟨s32,c32,Z32,q32⟩:=catR s31 ⟨#[41]⟩ 1 Z31.out rfl (by have:=HX.out;omega)
  refine ⟨s32,K30,hid ⟨Nat.le_trans Z32.out (by have:=HX.out;omega),fun B ao cap W h=>?_⟩⟩
  have G0:=st0 h
  clear h
  go_enter Tryz.func66,Tryz.ntmps66
  go_wp2_with fail
  (with_reducible refine (tN H1 G0).mono ?_);rintro e w1 ⟨rfl,G1⟩
  go_wp2_with fail
  (with_reducible refine (tA H21 G1).mono ?_);rintro e w21 ⟨rfl,G21⟩
  go_wp2_with fail
  (with_reducible refine (tA H24 G21).mono ?_);rintro e w24 ⟨rfl,G24⟩
  go_wp2_with fail
  (with_reducible refine (tA H27 G24).mono ?_);rintro e w27 ⟨rfl,G27⟩
  go_wp2_with fail
  (with_reducible refine (tA H30 G27).mono ?_);rintro e w30 ⟨rfl,G30⟩
  go_wp2_with fail
  go_ret
  exact ⟨rfl,G30.out.g,G30.out.k⟩
 ·skip
  obtain ⟨s33,K33,H33⟩:=hPost1.out K1
  obtain ⟨s34,c34,Z34,q34⟩:=catL ⟨#[102,111,114,101,97,99,104,32]⟩ s33 8 H33.out.1 rfl (by have:=HX.out;omega)
  obtain ⟨s35,c35,Z35,q35⟩:=catR s34 ⟨#[32,97,115,32,36]⟩ 5 Z34.out rfl (by have:=HX.out;omega)
  obtain ⟨s36,K36,H36⟩:=name_ex (bs:=bs) K33
  obtain ⟨s37,c37,Z37,q37⟩:=cat s35 s36 Z35.out H36.out.1 (by have:=HX.out;omega)
  obtain ⟨s38,c38,Z38,q38⟩:=catR s37 ⟨#[32,40,48,59,32]⟩ 5 Z37.out rfl (by have:=HX.out;omega)
  obtain ⟨s39,K39,H39⟩:=hPipe1.out K36
  obtain ⟨s40,c40,Z40,q40⟩:=cat s38 s39 Z38.out H39.out.1 (by have:=HX.out;omega)
  obtain ⟨s41,c41,Z41,q41⟩:=catR s40 ⟨#[59,32]⟩ 2 Z40.out rfl (by have:=HX.out;omega)
  obtain ⟨s42,K42,H42⟩:=hPipe1.out K39
  obtain ⟨s43,c43,Z43,q43⟩:=cat s41 s42 Z41.out H42.out.1 (by have:=HX.out;omega)
  obtain ⟨s44,c44,Z44,q44⟩:=catR s43 ⟨#[41]⟩ 1 Z43.out rfl (by have:=HX.out;omega)
  refine ⟨s44,K42,hid ⟨Nat.le_trans Z44.out (by have:=HX.out;omega),fun B ao cap W h=>?_⟩⟩
  have G0:=st0 h
  clear h
  go_enter Tryz.func66,Tryz.ntmps66
  go_wp2_with fail
  (with_reducible refine (tN H1 G0).mono ?_);rintro e w1 ⟨rfl,G1⟩
  go_wp2_with fail
  (with_reducible refine (tA H33 G1).mono ?_);rintro e w33 ⟨rfl,G33⟩
  go_wp2_with fail
  (with_reducible refine (tB H36 G33).mono ?_);rintro e w36 ⟨rfl,G36⟩
  go_wp2_with fail
  (with_reducible refine (tA H39 G36).mono ?_);rintro e w39 ⟨rfl,G39⟩
  go_wp2_with fail
  (with_reducible refine (tA H42 G39).mono ?_);rintro e w42 ⟨rfl,G42⟩
  go_wp2_with fail
  go_ret
  exact ⟨rfl,G42.out.g,G42.out.k⟩
 ·skip
  obtain ⟨s45,K45,H45⟩:=name_ex (bs:=bs) K1
  obtain ⟨s46,K46,H46⟩:=hArgs1.out K45
  obtain ⟨s47,c47,Z47,q47⟩:=cat s45 s46 H45.out.1 H46.out.1 (by have:=HX.out;omega)
  refine ⟨s47,K46,hid ⟨Nat.le_trans Z47.out (by have:=HX.out;omega),fun B ao cap W h=>?_⟩⟩
  have G0:=st0 h
  clear h
  go_enter Tryz.func66,Tryz.ntmps66
  go_wp2_with fail
  (with_reducible refine (tN H1 G0).mono ?_);rintro e w1 ⟨rfl,G1⟩
  go_wp2_with fail
  (with_reducible refine (tB H45 G1).mono ?_);rintro e w45 ⟨rfl,G45⟩
  go_wp2_with fail
  (with_reducible refine (tA H46 G45).mono ?_);rintro e w46 ⟨rfl,G46⟩
  go_wp2_with fail
  go_ret
  exact ⟨rfl,G46.out.g,G46.out.k⟩
 ·skip
  obtain ⟨s48,K48,H48⟩:=hPipe1.out K1
  obtain ⟨s49,c49,Z49,q49⟩:=catL ⟨#[34,97,92,40]⟩ s48 4 H48.out.1 rfl (by have:=HX.out;omega)
  obtain ⟨s50,c50,Z50,q50⟩:=catR s49 ⟨#[41,98,34]⟩ 3 Z49.out rfl (by have:=HX.out;omega)
  refine ⟨s50,K48,hid ⟨Nat.le_trans Z50.out (by have:=HX.out;omega),fun B ao cap W h=>?_⟩⟩
  have G0:=st0 h
  clear h
  go_enter Tryz.func66,Tryz.ntmps66
  go_wp2_with fail
  (with_reducible refine (tN H1 G0).mono ?_);rintro e w1 ⟨rfl,G1⟩
  go_wp2_with fail
  (with_reducible refine (tA H48 G1).mono ?_);rintro e w48 ⟨rfl,G48⟩
  go_wp2_with fail
  go_ret
  exact ⟨rfl,G48.out.g,G48.out.k⟩
 ·skip
  obtain ⟨s51,K51,H51⟩:=hPost1.out K1
  obtain ⟨s52,c52,Z52,q52⟩:=catR s51 ⟨#[91]⟩ 1 H51.out.1 rfl (by have:=HX.out;omega)
  obtain ⟨s53,K53,H53⟩:=hPipe1.out K51
  obtain ⟨s54,c54,Z54,q54⟩:=cat s52 s53 Z52.out H53.out.1 (by have:=HX.out;omega)
  obtain ⟨s55,c55,Z55,q55⟩:=catR s54 ⟨#[93]⟩ 1 Z54.out rfl (by have:=HX.out;omega)
  refine ⟨s55,K53,hid ⟨Nat.le_trans Z55.out (by have:=HX.out;omega),fun B ao cap W h=>?_⟩⟩
  have G0:=st0 h
  clear h
  go_enter Tryz.func66,Tryz.ntmps66
  go_wp2_with fail
  (with_reducible refine (tN H1 G0).mono ?_);rintro e w1 ⟨rfl,G1⟩
  go_wp2_with fail
  (with_reducible refine (tA H51 G1).mono ?_);rintro e w51 ⟨rfl,G51⟩
  go_wp2_with fail
  (with_reducible refine (tA H53 G51).mono ?_);rintro e w53 ⟨rfl,G53⟩
  go_wp2_with fail
  go_ret
  exact ⟨rfl,G53.out.g,G53.out.k⟩
 ·skip
  obtain ⟨s56,K56,H56⟩:=hPost1.out K1
  obtain ⟨s57,K57,H57⟩:=of_ex (bs:=bs) K56 #[.string ⟨#[91,93]⟩,.string ⟨#[63]⟩,.string ⟨#[46,98]⟩,.string ⟨#[46,34,99,34]⟩,.string ⟨#[46,91,93]⟩,.string ⟨#[91,49,58,93]⟩,.string ⟨#[91,58,50,93]⟩,.string ⟨#[91,49,58,50,93]⟩,.string ⟨#[46,91,48,93]⟩] 9 5 (by decide) (by decide) rfl rfl
  obtain ⟨s58,c58,Z58,q58⟩:=cat s56 s57 H56.out.1 H57.out.1 (by have:=HX.out;omega)
  refine ⟨s58,K57,hid ⟨Nat.le_trans Z58.out (by have:=HX.out;omega),fun B ao cap W h=>?_⟩⟩
  have G0:=st0 h
  clear h
  go_enter Tryz.func66,Tryz.ntmps66
  go_wp2_with fail
  (with_reducible refine (tN H1 G0).mono ?_);rintro e w1 ⟨rfl,G1⟩
  go_wp2_with fail
  (with_reducible refine (tA H56 G1).mono ?_);rintro e w56 ⟨rfl,G56⟩
  go_wp2_with fail
  (with_reducible refine (tO H57 G56).mono ?_);rintro e w57 ⟨rfl,G57⟩
  go_wp2_with fail
  go_ret
  exact ⟨rfl,G57.out.g,G57.out.k⟩
 ·skip
  obtain ⟨s59,K59,H59⟩:=hPipe1.out K1
  obtain ⟨s60,c60,Z60,q60⟩:=catL ⟨#[40]⟩ s59 1 H59.out.1 rfl (by have:=HX.out;omega)
  obtain ⟨s61,c61,Z61,q61⟩:=catR s60 ⟨#[41]⟩ 1 Z60.out rfl (by have:=HX.out;omega)
  refine ⟨s61,K59,hid ⟨Nat.le_trans Z61.out (by have:=HX.out;omega),fun B ao cap W h=>?_⟩⟩
  have G0:=st0 h
  clear h
  go_enter Tryz.func66,Tryz.ntmps66
  go_wp2_with fail
  (with_reducible refine (tN H1 G0).mono ?_);rintro e w1 ⟨rfl,G1⟩
  go_wp2_with fail
  (with_reducible refine (tA H59 G1).mono ?_);rintro e w59 ⟨rfl,G59⟩
  go_wp2_with fail
  go_ret
  exact ⟨rfl,G59.out.g,G59.out.k⟩
 ·skip
  obtain ⟨s62,K62,H62⟩:=name_ex (bs:=bs) K1
  obtain ⟨s63,c63,Z63,q63⟩:=catL ⟨#[98,114,101,97,107,32,36]⟩ s62 7 H62.out.1 rfl (by have:=HX.out;omega)
  refine ⟨s63,K62,hid ⟨Nat.le_trans Z63.out (by have:=HX.out;omega),fun B ao cap W h=>?_⟩⟩
  have G0:=st0 h
  clear h
  go_enter Tryz.func66,Tryz.ntmps66
  go_wp2_with fail
  (with_reducible refine (tN H1 G0).mono ?_);rintro e w1 ⟨rfl,G1⟩
  go_wp2_with fail
  (with_reducible refine (tB H62 G1).mono ?_);rintro e w62 ⟨rfl,G62⟩
  go_wp2_with fail
  go_ret
  exact ⟨rfl,G62.out.g,G62.out.k⟩
 all_goals
  obtain ⟨s64,K64,H64⟩:=name_ex (bs:=bs) K1
  refine ⟨s64,K64,hid ⟨Nat.le_trans H64.out.1 (by have:=HX.out;omega),fun B ao cap W h=>?_⟩⟩
  have G0:=st0 h
  clear h
  go_enter Tryz.func66,Tryz.ntmps66
  go_wp2_with fail
  (with_reducible refine (tN H1 G0).mono ?_);rintro e w1 ⟨rfl,G1⟩
  go_wp2_with fail
  (with_reducible refine (tB H64 G1).mono ?_);rintro e w64 ⟨rfl,G64⟩
  go_wp2_with fail
  go_ret
  exact ⟨rfl,G64.out.g,G64.out.k⟩
end
end Go.Proofs.YthadnhpkeljdoaaGreat.gn
namespace Go.Proofs.YthadnhpkeljdoaaGreat.pv
open Go.RowKit
def putM (dst : Option Tmp) (d : D) (m : Mem) : Mem :=
  match dst with
  | none=>m
  | some t=>(0,t,d) :: m
def putD (n : Nat) (dst : Option Tmp) (d : D) (m : Mem) (K : Mem → Prop) : Prop :=
  match dst with
  | none=>K m
  | some t=>bif (t + 1).ble n then K ((0,t,d) :: m) else False
def guardD (ops : Array Oper) (g : Option (Nat × Bool)) (m : Mem) (A B : Mem → Prop) : Prop :=
  match g with
  | none=>A m
  | some (j,want)=>match (ops[j]?).bind (·.dst) with
    | some t=>(match look m 0 t with
      | .v (.bool b)=>(match b with
        | true=>bif want then A ((0,t,.v (.bool true)) :: m) else B ((0,t,.v (.bool true)) :: m)
        | false=>bif want then B ((0,t,.v (.bool false)) :: m) else A ((0,t,.v (.bool false)) :: m))
      | .und=>B m
      | _=>False)
    | none=>False
def dops (E : Env) (ops : Array Oper) (nx : Nat) : List Oper → Nat → Mem → (Mem → Prop) → Prop
  | [],_,m,K=>K m
  | o :: r,i,m,K=>guardD ops o.guard m
      (fun m=>opP E (nx + i) o m fun d ws=>putD E.n o.dst d (ws ++ m) fun m=>dops E ops nx r (i + 1) m K)
      (fun m=>putD E.n o.dst .und m fun m=>dops E ops nx r (i + 1) m K)
def Leq (m m' : Mem) : Prop:=∀ x y,look m x y = look m' x y
theorem Leq.refl (m : Mem) : Leq m m:=fun _ _=>rfl
theorem Leq.symm {m m' : Mem} (h : Leq m m') : Leq m' m:=fun x y=>(h x y).symm
theorem Leq.trans {m m' m'' : Mem} (h : Leq m m') (h' : Leq m' m'') : Leq m m'':=fun x y=>(h x y).trans (h' x y)
theorem Leq.app {m m' : Mem} (h : Leq m m') (p : Mem) : Leq (p ++ m) (p ++ m'):=fun x y=>by rw [look_app,look_app,h x y]
theorem Sim.leq {n : Nat} {G : Gh} {m m' : Mem} {a : Act} {w : World} (h : Sim n G m a w) (e : Leq m m') : Sim n G m' a w :=
  ⟨h.tm,h.df,fun t=>by rw [← e];exact h.slot t,⟨fun b g ty n hb i x hx=>by rw [← e];exact h.cells.val b g ty n hb i x hx,fun b i hi=>by rw [← e];exact h.cells.out b i hi⟩,fun t n ht=>h.toks t n (by rw [e];exact ht),h.ok⟩
theorem leq_lit {m : Mem} {t : Nat} {d : D} (h : look m 0 t = d) : Leq m ((0,t,d) :: m):=fun x y=>by
  rw [look_cons]
  split
  · rename_i e;obtain ⟨rfl,rfl⟩:=e;exact h
  · rfl
def wantD (ops : Array Oper) (g : Option (Nat × Bool)) (m : Mem) : Option Bool :=
  match g with
  | none=>some true
  | some (j,want)=>match (ops[j]?).bind (·.dst) with
    | some t=>(match look m 0 t with
      | .v (.bool b)=>some (b == want)
      | .und=>some false
      | _=>none)
    | none=>none
theorem guardD_out {ops : Array Oper} {g : Option (Nat × Bool)} {m : Mem} {A B : Mem → Prop} (h : guardD ops g m A B) : ∃ m',Leq m m' ∧ ((wantD ops g m = some true ∧ A m') ∨ (wantD ops g m = some false ∧ B m')):=by
  unfold guardD at h
  unfold wantD
  split at h
  · exact ⟨m,.refl m,.inl ⟨rfl,h⟩⟩
  · rename_i j want
    split at h
    · rename_i t ht
      split at h
      · rename_i b e
        cases b <;> cases want
        · exact ⟨_,leq_lit e,.inl ⟨by simp [e],h⟩⟩
        · exact ⟨_,leq_lit e,.inr ⟨by simp [e],h⟩⟩
        · exact ⟨_,leq_lit e,.inr ⟨by simp [e],h⟩⟩
        · exact ⟨_,leq_lit e,.inl ⟨by simp [e],h⟩⟩
      · rename_i e
        exact ⟨m,.refl m,.inr ⟨by simp [e],h⟩⟩
      · exact h.elim
    · exact h.elim
theorem rep_und {G : Gh} {w : World} {x : Value} (h : Rep G w x .und) : x = undef:=by
  cases h with
  | v h=>cases h with
    | c h=>cases h
  | und=>rfl
theorem want_sound {n : Nat} {G : Gh} {m : Mem} {a : Act} {w : World} {ops : Array Oper} {o : Oper} {b : Bool} (h : Sim n G m a w) (hw : wantD ops o.guard m = some b) : Region.wanted o (yielded ops a.tmps) = b:=by
  unfold wantD at hw
  unfold Region.wanted
  split at hw
  · rename_i e;rw [e];cases hw;rfl
  · rename_i j want e
    rw [e]
    split at hw
    · rename_i t ht
      have hs:=h.slot t
      show (yielded ops a.tmps j == some want) = b
      unfold yielded
      rw [ht]
      simp only [Option.bind_some]
      split at hw
      · rename_i c ec
        cases hw
        rw [ec] at hs
        obtain ⟨e1,_⟩:=rep_v hs
        have : a.tmps[t]? = some (.bool c):=by
          rw [Array.getD_eq_getD_getElem?] at e1
          cases hq : a.tmps[t]? with
          | none=>rw [hq] at e1;cases e1
          | some v=>rw [hq] at e1;exact congrArg some e1
        rw [this]
        cases c <;> cases want <;> rfl
      · rename_i ec
        cases hw
        rw [ec] at hs
        have e1 : a.tmps.getD t undef = undef:=rep_und hs
        have : ∀ c,a.tmps[t]? ≠ some (.bool c):=fun c hc=>by
          rw [Array.getD_eq_getD_getElem?,hc] at e1;cases e1
        cases hq : a.tmps[t]? with
        | none=>rfl
        | some v =>
          cases v <;> first | rfl | (exact absurd hq (this _))
      · cases hw
    · cases hw
section
variable {P : Program} {E : Env} {G : Gh} {m : Mem} {a : Act} {w : World} {o : Oper} {id : Nat}
structure Run (E : Env) (w0 : World) (I : Nat → Nat → Prop) (fr : Nat → Prop) (G : Gh) (m : Mem) (a : Act) (w : World) : Prop where
  sim : Sim E.n G m a w
  base : G.base = w0.heap.size
  below : Below w0.heap.size w0 w
  imm : ∀ g i,I g i → G.imm g i
  immo : ∀ g i,g < w0.heap.size → G.imm g i → I g i
  fresh : ∀ u,fr u → G.box u = none ∧ G.tok u = none
theorem Run.leq {w0 : World} {I : Nat → Nat → Prop} {fr : Nat → Prop} {m' : Mem} (h : Run E w0 I fr G m a w) (e : Leq m m') : Run E w0 I fr G m' a w:={ h with sim:=h.sim.leq e }
theorem Run.less {w0 : World} {I : Nat → Nat → Prop} {fr fr' : Nat → Prop} (h : Run E w0 I fr G m a w) (e : ∀ u,fr' u → fr u) : Run E w0 I fr' G m a w:={ h with fresh:=fun u hu=>h.fresh u (e u hu) }
theorem sim_put {n : Nat} (h : Sim n G m a w) {dst : Option Tmp} {v : Value} {d : D} (hv : Rep G w v d) (hd : ∀ t,dst = some t → t < n) : Sim n G (putM dst d m) (a.put dst v) w:=by
  cases dst with
  | none=>exact h
  | some t =>
    have hlt:=hd t rfl
    show Sim n G ((0,t,d) :: m) (a.put (some t) v) w
    refine ⟨by simp [Act.put,h.tm],h.df,fun u=>?_,⟨fun b g ty n hb i x hx=>?_,fun b i hi=>?_⟩,fun u q hq=>?_,h.ok⟩
    · rw [look_cons]
      show Rep G w ((a.tmps.setIfInBounds t v).getD u undef) _
      by_cases e : t = u
      · subst e
        rw [if_pos ⟨rfl,rfl⟩]
        have : (a.tmps.setIfInBounds t v).getD t undef = v:=by
          rw [Array.getD_eq_getD_getElem?,Array.getElem?_setIfInBounds_self]
          simp [h.tm,hlt]
        rw [this];exact hv
      · rw [if_neg (fun h=>e h.2)]
        have : (a.tmps.setIfInBounds t v).getD u undef = a.tmps.getD u undef:=by
          rw [Array.getD_eq_getD_getElem?,Array.getElem?_setIfInBounds_ne e,← Array.getD_eq_getD_getElem?]
        rw [this];exact h.slot u
    · rw [look_cons,if_neg (by omega)];exact h.cells.val b g ty n hb i x hx
    · rw [look_cons,if_neg (by omega)];exact h.cells.out b i hi
    · rw [look_cons,if_neg (by omega)] at hq;exact h.toks u q hq
theorem sim_after {n : Nat} (h : Sim n G m a w) {G' : Gh} {w' : World} {ws : Mem} (ha : After G w id ws G' w') : Sim n G' (ws ++ m) a w' :=
  ⟨h.tm,h.df,fun t=>by rw [ha.slot];exact (h.slot t).mono ha.step,ha.cells m h.cells,ha.toks m h.toks,ha.ok⟩
theorem run_after {w0 : World} {I : Nat → Nat → Prop} {fr fr' : Nat → Prop} (h : Run E w0 I fr G m a w) {G' : Gh} {w' : World} {ws : Mem} {d : D} {v : Value} {dst : Option Tmp} (ha : After G w id ws G' w') (hv : Rep G' w' v d) (hd : ∀ t,dst = some t → t < E.n) (hf : ∀ u,fr' u → fr u ∧ u ≠ id) :
    Run E w0 I fr' G' (putM dst d (ws ++ m)) (a.put dst v) w':=by
  refine ⟨sim_put (sim_after h.sim ha) hv hd,ha.base.trans h.base,h.below.trans (by rw [← h.base];exact ha.below),fun g i hi=>ha.step.imm g i (h.imm g i hi),fun g i hg hi=>h.immo g i hg (ha.immo g i (by rw [h.base];exact hg) hi),fun u hu=>?_⟩
  obtain ⟨h1,h2⟩:=hf u hu
  obtain ⟨h3,h4⟩:=h.fresh u h1
  constructor
  · cases hb : G'.box u with
    | none=>rfl
    | some x =>
      rcases ha.box u x hb with e | e
      · rw [h3] at e;cases e
      · exact absurd e h2
  · cases hb : G'.tok u with
    | none=>rfl
    | some x =>
      rcases ha.tokf u x hb with ⟨T',e⟩ | e
      · rw [h4] at e;cases e
      · exact absurd e h2
theorem run_und {w0 : World} {I : Nat → Nat → Prop} {fr : Nat → Prop} (h : Run E w0 I fr G m a w) {dst : Option Tmp} (hd : ∀ t,dst = some t → t < E.n) : Run E w0 I fr G (putM dst .und m) (a.put dst undef) w :=
  { h with sim:=sim_put h.sim .und hd }
theorem putD_out {n : Nat} {dst : Option Tmp} {d : D} {m : Mem} {K : Mem → Prop} (h : putD n dst d m K) : (∀ t,dst = some t → t < n) ∧ K (putM dst d m):=by
  cases dst with
  | none=>exact ⟨(fun t e=>by cases e),h⟩
  | some t =>
    have h : (bif (t + 1).ble n then K ((0,t,d) :: m) else False):=h
    cases hb : (t + 1).ble n with
    | false=>rw [hb] at h;exact h.elim
    | true =>
      rw [hb] at h
      exact ⟨(fun u e=>by cases e;exact Nat.le_of_ble_eq_true hb),h⟩
theorem dops_sound (hE : EnvOk P E) {ops : Array Oper} {nx : Nat} {Q : Exit → Act → World → Prop} {w0 : World} {I : Nat → Nat → Prop} {K : Mem → Prop} : ∀ (l : List Oper) (i : Nat) (m : Mem) (G : Gh) (a : Act) (w : World),dops E ops nx l i m K → Run E w0 I (fun u=>nx + i ≤ u) G m a w →
    (∀ G' m' a' w',K m' → Run E w0 I (fun u=>nx + i + l.length ≤ u) G' m' a' w' → Q .normal a' w') → wpList P ops Q l a w
  | [],i,m,G,a,w,hd,hr,hQ=>hQ G m a w hd hr
  | o :: r,i,m,G,a,w,hd,hr,hQ=>by
    unfold dops at hd
    obtain ⟨m',hm,hd⟩:=guardD_out hd
    have hr':=hr.leq hm
    unfold wpList
    rcases hd with ⟨hw,hd⟩ | ⟨hw,hd⟩
    · have hwt:=want_sound hr.sim hw
      rw [if_pos hwt]
      left
      obtain ⟨d,ws,hs,hk⟩:=opP_out hE hd
      obtain ⟨hdst,hk⟩:=putD_out hk
      obtain ⟨f1,f2⟩:=hr'.fresh (nx + i) (Nat.le_refl _)
      refine op_sound hE hr'.sim f1 f2 hs _ _ fun v G' w' ha hv=>?_
      exact dops_sound hE r (i + 1) _ G' _ w' hk (run_after hr' ha hv hdst (fun u (hu : nx + (i + 1) ≤ u)=>⟨show nx + i ≤ u by omega,by omega⟩)) fun G'' m'' a'' w'' hK hR=>hQ G'' m'' a'' w'' hK (hR.less fun u hu=>by simp only [List.length_cons] at hu;show nx + (i + 1) + r.length ≤ u;omega)
    · have hwt:=want_sound hr.sim hw
      rw [if_neg (by rw [hwt];simp)]
      obtain ⟨hdst,hk⟩:=putD_out hd
      exact dops_sound hE r (i + 1) _ G _ w hk ((run_und hr' hdst).less fun u (hu : nx + (i + 1) ≤ u)=>show nx + i ≤ u by omega) fun G'' m'' a'' w'' hK hR=>hQ G'' m'' a'' w'' hK (hR.less fun u hu=>by simp only [List.length_cons] at hu;show nx + (i + 1) + r.length ≤ u;omega)
end
end Go.Proofs.YthadnhpkeljdoaaGreat.pv
