/- Ground of the law: PaP5, PaOwn, PaP32, PaTie. -/
import Derived.Test.YtlklhkkjcfmefaaGreatDoorQe13
import Derived.Maps.AppendAt
set_option maxRecDepth 100000
set_option maxHeartbeats 8000000
set_option linter.unusedVariables false
set_option linter.unusedSimpArgs false
namespace Go.Proofs.YtlklhkkjcfmefaaGreatDoor.pa
open Go.Lib (hid)
open Go.RowKit nd pr sx ed
theorem pipe_tl {E : Env} (hE : EnvOk E) {q : Pa Nd} (hq : Tl E q RN 158 #[pB E,.int .i64 1]) : Tl E (q) RN 123 #[pB E]:=by
 intro W i o hp hr
 rw [← bind_ret q] at hr
 have HNP:=hid hp.far;have H00:=hid hp
 obtain ⟨W0,hW0⟩ : ∃ W0,W.alloc (.cells nodeZ 32) = W0:=⟨_,rfl⟩
 have hb0 : Below W.heap.size W W0:=by rw [← hW0];exact (Below.refl _ W).alloc (Nat.le_refl _) _
 have hk0 : Blk W0 W.heap.size 32 nodeZ:=by rw [← hW0];exact Blk.new W _ _
 have hs0 : W.heap.size + 1 ≤ W0.heap.size:=by rw [← hW0];simp
 have HW0:=hid hW0;have HK0:=hid (Kp.of_below (E:=E) hb0);have HP0:=hid (hp.next hb0);have HS0:=hid hs0;have HR0:=hid hr
 have HBr0:=hid hk0
 clear hW0 hb0 hk0 hs0 hp hr
 unfold pB
 go_enter Tryz.func123,Tryz.ntmps123
 go_upto_region 1 with fail
 rw [HW0.out]
 obtain ⟨o1,h1,hr1⟩:=bind_run HR0.out
 have hcall:=Tl.at hq HP0.out h1
 have HC:=hid hcall;have HR1:=hid hr1
 clear hcall h1 hr1 HR0 HP0
 unfold pB at HC
 try unfold methV at HC
 go_wp2_with fail
 ((with_reducible refine HC.out.mono ?_);rintro e w1 ⟨hk,hm⟩)
 clear HC
 rcases o1 with ⟨r1,x1⟩ | ⟨r1⟩
 rotate_left
 ·obtain ⟨j,hj,hd,rfl⟩:=hm
  obtain rfl : o = .bad r1:=(Option.some.inj HR1.out).symm
  exact ⟨rfl,Kp.tr HK0.out hk,j,hj,hd,rfl⟩
 obtain ⟨v1,j1,rfl,hp,rfl,hR⟩:=hm
 have HK1:=hid (Kp.tr HK0.out hk)
 have HS1:=hid (show (W.heap.size + 1) ≤ w1.heap.size from Nat.le_trans HS0.out (hk).size)
 have HBr1:=hid (Kp.blk' (n:=W.heap.size) HBr0.out hk HNP.out (Nat.le_refl _))
 have HP1:=hid hp
 obtain ⟨ax,cx,rfl,hx⟩:=kids_new (n:=(W.heap.size + 1)) hR HS0.out
 have HXx1:=hid hx
 clear hk hp hR hx
 have hl:=HR1.out
 clear HR1
 dsimp only at hl
 have HR1:=hid hl
 clear hl
 clear HK0 HS0 HBr0
 obtain rfl : o = .ok (E.l.drop j1) x1:=(Option.some.inj HR1.out).symm
 have hfin:=fin_node hE H00.out HP1.out HK1.out (Nat.le_refl _) HBr1.out HXx1.out
 have rc0:=HBr1.out.cell 0;have rf0:=HBr1.out.frozen 0
 have rc1:=HBr1.out.cell 1;have rf1:=HBr1.out.frozen 1
 have rc2:=HBr1.out.cell 2;have rf2:=HBr1.out.frozen 2
 have g0:=hfin.1.cell 0;have g1:=hfin.1.cell 1;have g2:=hfin.1.cell 2
 have HF:=hid hfin.2
 skip
 clear hfin
 go_wp2_with fail
 refine bodyPost_ret (v:=.agg (nV x1 ax cx)) (by simp [results,Tryz.results123,go_sem,g0,g1,g2]) rfl ?_
 exact HF.out
theorem pipeTo_tl {E : Env} (hE : EnvOk E) {q : Pa Nd} {s : ByteArray} (hs : s ∈ signs) (hq : Tl E q RN 123 #[pB E]) : Tl E (q.bind fun x=>need s (.ret x)) RN 116 #[pB E,.string s]:=by
 intro W i o hp hr
 simp only [need_bind s] at hr
 have HNP:=hid hp.far;have H00:=hid hp
 obtain ⟨W0,hW0⟩ : ∃ W0,W.alloc (.cells nodeZ 32) = W0:=⟨_,rfl⟩
 have hb0 : Below W.heap.size W W0:=by rw [← hW0];exact (Below.refl _ W).alloc (Nat.le_refl _) _
 have hk0 : Blk W0 W.heap.size 32 nodeZ:=by rw [← hW0];exact Blk.new W _ _
 have hs0 : W.heap.size + 1 ≤ W0.heap.size:=by rw [← hW0];simp
 have HW0:=hid hW0;have HK0:=hid (Kp.of_below (E:=E) hb0);have HP0:=hid (hp.next hb0);have HS0:=hid hs0;have HR0:=hid hr
 have HBr0:=hid hk0
 clear hW0 hb0 hk0 hs0 hp hr
 unfold pB
 go_enter Tryz.func116,Tryz.ntmps116
 go_upto_region 1 with fail
 rw [HW0.out]
 obtain ⟨o1,h1,hr1⟩:=bind_run HR0.out
 have hcall:=Tl.at hq HP0.out h1
 have HC:=hid hcall;have HR1:=hid hr1
 clear hcall h1 hr1 HR0 HP0
 unfold pB at HC
 try unfold methV at HC
 go_wp2_with fail
 ((with_reducible refine HC.out.mono ?_);rintro e w1 ⟨hk,hm⟩)
 clear HC
 rcases o1 with ⟨r1,x1⟩ | ⟨r1⟩
 rotate_left
 ·obtain ⟨j,hj,hd,rfl⟩:=hm
  obtain rfl : o = .bad r1:=(Option.some.inj HR1.out).symm
  exact ⟨rfl,Kp.tr HK0.out hk,j,hj,hd,rfl⟩
 obtain ⟨v1,j1,rfl,hp,rfl,hR⟩:=hm
 have HK1:=hid (Kp.tr HK0.out hk)
 have HS1:=hid (show (W.heap.size + 1) ≤ w1.heap.size from Nat.le_trans HS0.out (hk).size)
 have HBr1:=hid (Kp.blk' (n:=W.heap.size) HBr0.out hk HNP.out (Nat.le_refl _))
 have HP1:=hid hp
 obtain ⟨ax,cx,rfl,hx⟩:=kids_new (n:=(W.heap.size + 1)) hR HS0.out
 have HXx1:=hid hx
 clear hk hp hR hx
 have hl:=HR1.out
 clear HR1
 dsimp only at hl
 have HR1:=hid hl
 clear hl
 clear HK0 HS0 HBr0
 go_upto_region 2 with fail
 obtain ⟨w2,hw⟩ : ∃ w',w1.alloc (.cells (nV x1 ax cx) 32) = w':=⟨_,rfl⟩
 rw [hw]
 have hb : Below w1.heap.size w1 w2:=by rw [← hw];exact (Below.refl _ _).alloc (Nat.le_refl _) _
 have HBx2:=hid (show Blk w2 w1.heap.size 32 (nV x1 ax cx) by rw [← hw];exact Blk.new _ _ _)
 have HLx:=hid (show W.heap.size ≤ w1.heap.size by have:=HS1.out;omega);have HNEx:=hid (show W.heap.size < w1.heap.size by have:=HS1.out;omega)
 have HK2:=hid (Kp.sb HK1.out hb)
 have HS2:=hid (show (W.heap.size + 1) ≤ w2.heap.size from Nat.le_trans HS1.out (hb).size)
 have HBr2:=hid (HBr1.out.own hb)
 have HXx2:=hid (kids_below HXx1.out hb)
 have HP2:=hid (HP1.out.next hb)
 have HR2:=HR1
 clear HK1 HS1 HBr1 HXx1
 clear hb hw HP1 HR1
 go_wp2_with fail
 ((with_reducible refine (op_calls' _ _).mono ?_);rintro e w3 ⟨rfl,hb⟩)
 have HK3:=hid (Kp.sb HK2.out hb)
 have HS3:=hid (show (W.heap.size + 1) ≤ w3.heap.size from Nat.le_trans HS2.out (hb).size)
 have HBr3:=hid (HBr2.out.own hb)
 have HBx3:=hid (HBx2.out.own hb)
 have HXx3:=hid (kids_below HXx2.out hb)
 have HP3:=hid (HP2.out.next hb)
 have HR3:=HR2
 clear HK2 HS2 HBr2 HBx2 HXx2
 clear hb HP2 HR2
 obtain ⟨o4,h4,hr4⟩:=bind_run HR3.out
 have hcall:=Tl.at (must_op hE hs) HP3.out h4
 have HC:=hid hcall;have HR4:=hid hr4
 clear hcall h4 hr4 HR3 HP3
 unfold pB at HC
 try unfold methV at HC
 go_wp2_with fail
 ((with_reducible refine HC.out.mono ?_);rintro e w4 ⟨hk,hm⟩)
 clear HC
 rcases o4 with ⟨r4,x4⟩ | ⟨r4⟩
 rotate_left
 ·obtain ⟨j,hj,hd,rfl⟩:=hm
  obtain rfl : o = .bad r4:=(Option.some.inj HR4.out).symm
  exact ⟨rfl,Kp.tr HK3.out hk,j,hj,hd,rfl⟩
 obtain ⟨v4,j4,rfl,hp,rfl,hR⟩:=hm
 have HK4:=hid (Kp.tr HK3.out hk)
 have HS4:=hid (show (W.heap.size + 1) ≤ w4.heap.size from Nat.le_trans HS3.out (hk).size)
 have HBr4:=hid (Kp.blk' (n:=W.heap.size) HBr3.out hk HNP.out (Nat.le_refl _))
 have HBx4:=hid (Kp.blk' (n:=W.heap.size) HBx3.out hk HNP.out HLx.out)
 have HXx4:=hid (kids_kp HXx3.out hk (fun k hk=>HNP.out k (by omega)))
 have HP4:=hid hp
 obtain rfl:=hR
 clear hk hp
 have hl:=HR4.out
 clear HR4
 dsimp only at hl
 have HR4:=hid hl
 clear hl
 clear HK3 HS3 HBr3 HBx3 HXx3
 have xc0:=HBx4.out.cell 0;have xf0:=HBx4.out.frozen 0
 have xc1:=HBx4.out.cell 1;have xf1:=HBx4.out.frozen 1
 have xc2:=HBx4.out.cell 2;have xf2:=HBx4.out.frozen 2
 obtain rfl : o = .ok (E.l.drop j4) x1:=(Option.some.inj HR4.out).symm
 have hfin:=fin_node hE H00.out HP4.out HK4.out (Nat.le_refl _) HBr4.out HXx4.out
 have rc0:=HBr4.out.cell 0;have rf0:=HBr4.out.frozen 0
 have rc1:=HBr4.out.cell 1;have rf1:=HBr4.out.frozen 1
 have rc2:=HBr4.out.cell 2;have rf2:=HBr4.out.frozen 2
 have g0:=hfin.1.cell 0;have g1:=hfin.1.cell 1;have g2:=hfin.1.cell 2
 have HF:=hid hfin.2
 skip
 clear hfin
 go_wp2_with fail
 refine bodyPost_ret (v:=.agg (nV x1 ax cx)) (by simp [results,Tryz.results116,go_sem,g0,g1,g2]) rfl ?_
 exact HF.out
theorem grouped_tl {E : Env} (hE : EnvOk E) {q : Pa Nd} (hq : Tl E (q.bind fun x=>need rpar (.ret x)) RN 116 #[pB E,.string rpar]) : Tl E (need lpar (q.bind fun x=>need rpar (.ret x))) RN 117 #[pB E]:=by
 intro W i o hp hr
 rw [need_bind lpar,← bind_ret (q.bind fun x=>need rpar (.ret x))] at hr
 have HNP:=hid hp.far;have H00:=hid hp
 obtain ⟨W0,hW0⟩ : ∃ W0,W.alloc (.cells nodeZ 32) = W0:=⟨_,rfl⟩
 have hb0 : Below W.heap.size W W0:=by rw [← hW0];exact (Below.refl _ W).alloc (Nat.le_refl _) _
 have hk0 : Blk W0 W.heap.size 32 nodeZ:=by rw [← hW0];exact Blk.new W _ _
 have hs0 : W.heap.size + 1 ≤ W0.heap.size:=by rw [← hW0];simp
 have HW0:=hid hW0;have HK0:=hid (Kp.of_below (E:=E) hb0);have HP0:=hid (hp.next hb0);have HS0:=hid hs0;have HR0:=hid hr
 have HBr0:=hid hk0
 clear hW0 hb0 hk0 hs0 hp hr
 unfold pB
 go_enter Tryz.func117,Tryz.ntmps117
 go_upto_region 1 with fail
 rw [HW0.out]
 go_wp2_with fail
 ((with_reducible refine (op_calls' _ _).mono ?_);rintro e w1 ⟨rfl,hb⟩)
 have HK1:=hid (Kp.sb HK0.out hb)
 have HS1:=hid (show (W.heap.size + 1) ≤ w1.heap.size from Nat.le_trans HS0.out (hb).size)
 have HBr1:=hid (HBr0.out.own hb)
 have HP1:=hid (HP0.out.next hb)
 have HR1:=HR0
 clear HK0 HS0 HBr0
 clear hb HP0 HR0
 obtain ⟨o2,h2,hr2⟩:=bind_run HR1.out
 have hcall:=Tl.at (must_op hE in_lpar) HP1.out h2
 have HC:=hid hcall;have HR2:=hid hr2
 clear hcall h2 hr2 HR1 HP1
 unfold pB at HC
 try unfold methV at HC
 go_wp2_with fail
 ((with_reducible refine HC.out.mono ?_);rintro e w2 ⟨hk,hm⟩)
 clear HC
 rcases o2 with ⟨r2,x2⟩ | ⟨r2⟩
 rotate_left
 ·obtain ⟨j,hj,hd,rfl⟩:=hm
  obtain rfl : o = .bad r2:=(Option.some.inj HR2.out).symm
  exact ⟨rfl,Kp.tr HK1.out hk,j,hj,hd,rfl⟩
 obtain ⟨v2,j2,rfl,hp,rfl,hR⟩:=hm
 have HK2:=hid (Kp.tr HK1.out hk)
 have HS2:=hid (show (W.heap.size + 1) ≤ w2.heap.size from Nat.le_trans HS1.out (hk).size)
 have HBr2:=hid (Kp.blk' (n:=W.heap.size) HBr1.out hk HNP.out (Nat.le_refl _))
 have HP2:=hid hp
 obtain rfl:=hR
 clear hk hp
 have hl:=HR2.out
 clear HR2
 dsimp only at hl
 have HR2:=hid hl
 clear hl
 clear HK1 HS1 HBr1
 obtain ⟨o3,h3,hr3⟩:=bind_run HR2.out
 have hcall:=Tl.at hq HP2.out h3
 have HC:=hid hcall;have HR3:=hid hr3
 clear hcall h3 hr3 HR2 HP2
 unfold pB at HC
 try unfold methV at HC
 go_wp2_with fail
 ((with_reducible refine HC.out.mono ?_);rintro e w3 ⟨hk,hm⟩)
 clear HC
 rcases o3 with ⟨r3,x3⟩ | ⟨r3⟩
 rotate_left
 ·obtain ⟨j,hj,hd,rfl⟩:=hm
  obtain rfl : o = .bad r3:=(Option.some.inj HR3.out).symm
  exact ⟨rfl,Kp.tr HK2.out hk,j,hj,hd,rfl⟩
 obtain ⟨v3,j3,rfl,hp,rfl,hR⟩:=hm
 have HK3:=hid (Kp.tr HK2.out hk)
 have HS3:=hid (show (W.heap.size + 1) ≤ w3.heap.size from Nat.le_trans HS2.out (hk).size)
 have HBr3:=hid (Kp.blk' (n:=W.heap.size) HBr2.out hk HNP.out (Nat.le_refl _))
 have HP3:=hid hp
 obtain ⟨ax,cx,rfl,hx⟩:=kids_new (n:=(W.heap.size + 1)) hR HS2.out
 have HXx3:=hid hx
 clear hk hp hR hx
 have hl:=HR3.out
 clear HR3
 dsimp only at hl
 have HR3:=hid hl
 clear hl
 clear HK2 HS2 HBr2
 obtain rfl : o = .ok (E.l.drop j3) x3:=(Option.some.inj HR3.out).symm
 have hfin:=fin_node hE H00.out HP3.out HK3.out (Nat.le_refl _) HBr3.out HXx3.out
 have rc0:=HBr3.out.cell 0;have rf0:=HBr3.out.frozen 0
 have rc1:=HBr3.out.cell 1;have rf1:=HBr3.out.frozen 1
 have rc2:=HBr3.out.cell 2;have rf2:=HBr3.out.frozen 2
 have g0:=hfin.1.cell 0;have g1:=hfin.1.cell 1;have g2:=hfin.1.cell 2
 have HF:=hid hfin.2
 skip
 clear hfin
 go_wp2_with fail
 refine bodyPost_ret (v:=.agg (nV x3 ax cx)) (by simp [results,Tryz.results117,go_sem,g0,g1,g2]) rfl ?_
 exact HF.out
theorem paren_tl {E : Env} (hE : EnvOk E) {q : Pa Nd} (hq : Tl E q RN 117 #[pB E]) : Tl E (q.bind fun x=>.ret (mk 12 eB [x])) RN 67 #[pB E]:=by
 intro W i o hp hr
 have HNP:=hid hp.far;have H00:=hid hp
 obtain ⟨W0,hW0⟩ : ∃ W0,W.alloc (.cells nodeZ 32) = W0:=⟨_,rfl⟩
 have hb0 : Below W.heap.size W W0:=by rw [← hW0];exact (Below.refl _ W).alloc (Nat.le_refl _) _
 have hk0 : Blk W0 W.heap.size 32 nodeZ:=by rw [← hW0];exact Blk.new W _ _
 have hs0 : W.heap.size + 1 ≤ W0.heap.size:=by rw [← hW0];simp
 have HW0:=hid hW0;have HK0:=hid (Kp.of_below (E:=E) hb0);have HP0:=hid (hp.next hb0);have HS0:=hid hs0;have HR0:=hid hr
 have HBr0:=hid hk0
 clear hW0 hb0 hk0 hs0 hp hr
 unfold pB
 go_enter Tryz.func67,Tryz.ntmps67
 go_upto_region 1 with fail
 rw [HW0.out]
 obtain ⟨o1,h1,hr1⟩:=bind_run HR0.out
 have hcall:=Tl.at hq HP0.out h1
 have HC:=hid hcall;have HR1:=hid hr1
 clear hcall h1 hr1 HR0 HP0
 unfold pB at HC
 try unfold methV at HC
 go_wp2_with fail
 ((with_reducible refine HC.out.mono ?_);rintro e w1 ⟨hk,hm⟩)
 clear HC
 rcases o1 with ⟨r1,x1⟩ | ⟨r1⟩
 rotate_left
 ·obtain ⟨j,hj,hd,rfl⟩:=hm
  obtain rfl : o = .bad r1:=(Option.some.inj HR1.out).symm
  exact ⟨rfl,Kp.tr HK0.out hk,j,hj,hd,rfl⟩
 obtain ⟨v1,j1,rfl,hp,rfl,hR⟩:=hm
 have HK1:=hid (Kp.tr HK0.out hk)
 have HS1:=hid (show (W.heap.size + 1) ≤ w1.heap.size from Nat.le_trans HS0.out (hk).size)
 have HBr1:=hid (Kp.blk' (n:=W.heap.size) HBr0.out hk HNP.out (Nat.le_refl _))
 have HP1:=hid hp
 obtain ⟨ax,cx,rfl,hx⟩:=kids_new (n:=(W.heap.size + 1)) hR HS0.out
 have HXx1:=hid hx
 clear hk hp hR hx
 have hl:=HR1.out
 clear HR1
 dsimp only at hl
 have HR1:=hid hl
 clear hl
 clear HK0 HS0 HBr0
 have hrow:=Blk.new w1 32 #[.int .i64 x1.k,.string x1.t,.slice ax x1.kids.len cx]
 have hba : Below w1.heap.size w1 (w1.alloc (.cells #[.int .i64 x1.k,.string x1.t,.slice ax x1.kids.len cx] 32)):=(Below.refl _ _).alloc (Nat.le_refl _) _
 go_wp2_with fail
 ((with_reducible refine (node_calls _ _ _ _ _ _).mono ?_);rintro e w2 ⟨rfl,hbn⟩)
 have hb:=hba.trans (hbn.mono hba.size)
 have hrw:=hrow.own hbn
 have HK2:=hid (Kp.sb HK1.out hb)
 have HS2:=hid (show (W.heap.size + 1) ≤ w2.heap.size from Nat.le_trans HS1.out (hb).size)
 have HBr2:=hid (HBr1.out.own hb)
 have HXx2:=hid (kids_below HXx1.out hb)
 have HP2:=hid (HP1.out.next hb)
 have hx:=row1 HXx2.out hrw HS1.out
 have hfin:=fin_node hE (x:=mk 12 eB [x1]) H00.out HP2.out HK2.out (Nat.le_refl _) HBr2.out hx
 obtain rfl : o = .ok (E.l.drop j1) (mk 12 eB [x1]):=(Option.some.inj HR1.out).symm
 have rc0:=HBr2.out.cell 0;have rf0:=HBr2.out.frozen 0
 have rc1:=HBr2.out.cell 1;have rf1:=HBr2.out.frozen 1
 have rc2:=HBr2.out.cell 2;have rf2:=HBr2.out.frozen 2
 have g0:=hfin.1.cell 0;have g1:=hfin.1.cell 1;have g2:=hfin.1.cell 2
 have HF:=hid hfin.2
 simp only [mk,Fo.ofL,Fo.len] at g0 g1 g2
 clear hfin
 go_wp2_with fail
 refine bodyPost_ret (v:=.agg (nV (mk 12 eB [x1]) (some ⟨w1.heap.size,0,none⟩) 1)) (by simp [results,Tryz.results67,go_sem,g0,g1,g2,mk,Fo.ofL,Fo.len]) rfl ?_
 exact HF.out
theorem deep_tl {E : Env} (hE : EnvOk E)  : Tl E (need dots (.ret (mk 2 eB []))) RN 65 #[pB E]:=by
 intro W i o hp hr
 rw [need_bind dots] at hr
 have HNP:=hid hp.far;have H00:=hid hp
 obtain ⟨W0,hW0⟩ : ∃ W0,W.alloc (.cells nodeZ 32) = W0:=⟨_,rfl⟩
 have hb0 : Below W.heap.size W W0:=by rw [← hW0];exact (Below.refl _ W).alloc (Nat.le_refl _) _
 have hk0 : Blk W0 W.heap.size 32 nodeZ:=by rw [← hW0];exact Blk.new W _ _
 have hs0 : W.heap.size + 1 ≤ W0.heap.size:=by rw [← hW0];simp
 have HW0:=hid hW0;have HK0:=hid (Kp.of_below (E:=E) hb0);have HP0:=hid (hp.next hb0);have HS0:=hid hs0;have HR0:=hid hr
 have HBr0:=hid hk0
 clear hW0 hb0 hk0 hs0 hp hr
 unfold pB
 go_enter Tryz.func65,Tryz.ntmps65
 go_upto_region 1 with fail
 rw [HW0.out]
 go_wp2_with fail
 ((with_reducible refine (op_calls' _ _).mono ?_);rintro e w1 ⟨rfl,hb⟩)
 have HK1:=hid (Kp.sb HK0.out hb)
 have HS1:=hid (show (W.heap.size + 1) ≤ w1.heap.size from Nat.le_trans HS0.out (hb).size)
 have HBr1:=hid (HBr0.out.own hb)
 have HP1:=hid (HP0.out.next hb)
 have HR1:=HR0
 clear HK0 HS0 HBr0
 clear hb HP0 HR0
 obtain ⟨o2,h2,hr2⟩:=bind_run HR1.out
 have hcall:=Tl.at (must_op hE in_dots) HP1.out h2
 have HC:=hid hcall;have HR2:=hid hr2
 clear hcall h2 hr2 HR1 HP1
 unfold pB at HC
 try unfold methV at HC
 go_wp2_with fail
 ((with_reducible refine HC.out.mono ?_);rintro e w2 ⟨hk,hm⟩)
 clear HC
 rcases o2 with ⟨r2,x2⟩ | ⟨r2⟩
 rotate_left
 ·obtain ⟨j,hj,hd,rfl⟩:=hm
  obtain rfl : o = .bad r2:=(Option.some.inj HR2.out).symm
  exact ⟨rfl,Kp.tr HK1.out hk,j,hj,hd,rfl⟩
 obtain ⟨v2,j2,rfl,hp,rfl,hR⟩:=hm
 have HK2:=hid (Kp.tr HK1.out hk)
 have HS2:=hid (show (W.heap.size + 1) ≤ w2.heap.size from Nat.le_trans HS1.out (hk).size)
 have HBr2:=hid (Kp.blk' (n:=W.heap.size) HBr1.out hk HNP.out (Nat.le_refl _))
 have HP2:=hid hp
 obtain rfl:=hR
 clear hk hp
 have hl:=HR2.out
 clear HR2
 dsimp only at hl
 have HR2:=hid hl
 clear hl
 clear HK1 HS1 HBr1
 go_wp2_with fail
 ((with_reducible refine (node_calls _ _ _ _ _ _).mono ?_);rintro e w3 ⟨rfl,hbn⟩)
 have hb:=hbn
 have HK3:=hid (Kp.sb HK2.out hb)
 have HS3:=hid (show (W.heap.size + 1) ≤ w3.heap.size from Nat.le_trans HS2.out (hb).size)
 have HBr3:=hid (HBr2.out.own hb)
 have HP3:=hid (HP2.out.next hb)
 have hx:=kids_nil (Fr (W.heap.size + 1) w3) w3 none 0
 have hfin:=fin_node hE (x:=mk 2 eB []) H00.out HP3.out HK3.out (Nat.le_refl _) HBr3.out hx
 obtain rfl : o = .ok (E.l.drop j2) (mk 2 eB []):=(Option.some.inj HR2.out).symm
 have rc0:=HBr3.out.cell 0;have rf0:=HBr3.out.frozen 0
 have rc1:=HBr3.out.cell 1;have rf1:=HBr3.out.frozen 1
 have rc2:=HBr3.out.cell 2;have rf2:=HBr3.out.frozen 2
 have g0:=hfin.1.cell 0;have g1:=hfin.1.cell 1;have g2:=hfin.1.cell 2
 have HF:=hid hfin.2
 simp only [mk,Fo.ofL,Fo.len] at g0 g1 g2
 clear hfin
 go_wp2_with fail
 refine bodyPost_ret (v:=.agg (nV (mk 2 eB []) none 0)) (by simp [results,Tryz.results65,go_sem,g0,g1,g2,mk,Fo.ofL,Fo.len]) rfl ?_
 exact HF.out
end Go.Proofs.YtlklhkkjcfmefaaGreatDoor.pa
namespace Go.Proofs.YtlklhkkjcfmefaaGreatDoor.pa
open Go.RowKit nd pr sx ed
def Aw (n : Nat) (W : World) (v : Value) (k : Nat) : Prop:=n ≤ k ∧ k < W.heap.size ∧ v.ownBlock ≠ some k
def OwnL (n : Nat) (W : World) (l : List Nd) (v : Value) : Prop:=∃ L,W.ownsRow n 32 3 v l.length L ∧ CellsOf (Aw n W v) W (Fo.ofL l) L
theorem own_heap {W W' : World} {n : Nat} {e : TypeId} {z m : Nat} {v : Value} {L : List Value} (h : W.ownsRow n e z v m L) (hk : ∀ k,v.ownBlock = some k → W'.heap[k]? = W.heap[k]?) : W'.ownsRow n e z v m L:=by
 refine ⟨h.1,?_⟩
 rcases h.2 with hn | ⟨g,cap,cur,rfl,h2,h3,h4⟩
 ·exact .inl hn
 ·exact .inr ⟨g,cap,cur,rfl,h2,(hk g rfl).trans h3,h4⟩
theorem OwnL.kp {E : Env} {n : Nat} {W W' : World} {l : List Nd} {v : Value} (h : OwnL n W l v) (hk : Kp E W W') (hn : ∀ k,n ≤ k → ¬ Pm E k) : OwnL n W' l v:=by
 obtain ⟨L,h1,h2⟩:=h
 refine ⟨L,own_heap h1 (fun k e=>hk.block k (h1.lt k e).2 (hn k (h1.lt k e).1)),h2.keep (fun k e=>⟨e.1,Nat.lt_of_lt_of_le e.2.1 hk.size,e.2.2⟩) (fun k e=>hk.block k e.2.1 (hn k e.1))⟩
theorem OwnL.below {n : Nat} {W W' : World} {l : List Nd} {v : Value} (h : OwnL n W l v) (hb : Below W.heap.size W W') : OwnL n W' l v:=by
 obtain ⟨L,h1,h2⟩:=h
 refine ⟨L,own_heap h1 (fun k e=>hb.block k (h1.lt k e).2),h2.keep (fun k e=>⟨e.1,Nat.lt_of_lt_of_le e.2.1 hb.size,e.2.2⟩) (fun k e=>hb.block k e.2.1)⟩
theorem OwnL.mono {n m : Nat} {W : World} {l : List Nd} {v : Value} (h : OwnL n W l v) (hm : m ≤ n) : OwnL m W l v:=by
 obtain ⟨L,h1,h2⟩:=h
 refine ⟨L,⟨h1.1,?_⟩,h2.keep (fun k e=>⟨Nat.le_trans hm e.1,e.2⟩) (fun _ _=>rfl)⟩
 rcases h1.2 with hn | ⟨g,cap,cur,rfl,h2,h3⟩
 ·exact .inl hn
 ·exact .inr ⟨g,cap,cur,rfl,Nat.le_trans hm h2,h3⟩
theorem OwnL.nil (n : Nat) (W : World) : OwnL n W [] (.slice none 0 0):=⟨[],World.ownsRow_nil _ _ _ _,rfl⟩
theorem OwnL.slice {n : Nat} {W : World} {l : List Nd} {v : Value} (h : OwnL n W l v) : ∃ a c,v = .slice a l.length c:=by
 obtain ⟨L,h1,_⟩:=h
 obtain ⟨a,c,e,_⟩:=own_len' h1
 exact ⟨a,c,e⟩
theorem OwnL.kids {n : Nat} {W : World} {l : List Nd} {v : Value} (h : OwnL n W l v) : KidsAt (Fr n W) W (Fo.ofL l) v:=by
 obtain ⟨L,h1,h2⟩:=h
 exact own_kids (f:=Fo.ofL l) (by rw [Fo.ofL_len];exact h1) h2 (fun k e=>⟨e.1,e.2.1⟩) (fun k e=>h1.lt k e)
theorem cells_one {S : Nat → Prop} {W : World} {x : Nd} {s : Value} (h : KidsAt S W x.kids s) : CellsOf S W (Fo.ofL [x]) [.int .i64 x.k,.string x.t,s]:=⟨_,_,rfl,h,rfl⟩
theorem cells_two {S : Nat → Prop} {W : World} {x y : Nd} {s r : Value} (h : KidsAt S W x.kids s) (h2 : KidsAt S W y.kids r) : CellsOf S W (Fo.ofL [x,y]) [.int .i64 x.k,.string x.t,s,.int .i64 y.k,.string y.t,r]:=⟨_,_,rfl,h,⟨_,_,rfl,h2,rfl⟩⟩
theorem own_made {n : Nat} {W : World} {l : List Nd} {L : List Value} {g : Nat} (hc : CellsOf (Aw n W (.slice (some ⟨g,0,none⟩) l.length l.length)) W (Fo.ofL l) L) (hb : Blk W g 32 L.toArray) (hg : n ≤ g) (hl : l.length ≤ maxLen) : OwnL n W l (.slice (some ⟨g,0,none⟩) l.length l.length):=by
 have hlen : L.length = l.length * 3:=by rw [hc.len,Fo.ofL_len]
 refine ⟨L,⟨hlen,.inr ⟨g,l.length,_,rfl,hg,hb,Nat.le_refl _,hl,?_,?_⟩⟩,hc⟩
 ·rw [← hlen];simp
 ·rw [← hlen];simp
theorem kids_since {n : Nat} {w W : World} {l : List Nd} {f : Fo} {s v : Value} (h : KidsAt (New w W) W f s) (hv : OwnL n w l v) (hn : n ≤ w.heap.size) : KidsAt (Aw n W v) W f s:=by
 obtain ⟨L,h1,_⟩:=hv
 refine h.keep (fun k e=>⟨Nat.le_trans hn e.1,e.2,fun e'=>?_⟩) (fun _ _=>rfl)
 have:=(h1.lt k e').2
 have:=e.1
 omega
theorem kids_aux {n : Nat} {w W : World} {l : List Nd} {v : Value} {k : Nat} (e : New w W k) (hv : OwnL n w l v) (hn : n ≤ w.heap.size) : Aw n W v k:=by
 obtain ⟨L,h1,_⟩:=hv
 refine ⟨Nat.le_trans hn e.1,e.2,fun e'=>?_⟩
 have:=(h1.lt k e').2
 have:=e.1
 omega
theorem aw_below {n : Nat} {W W' : World} {f : Fo} {s v : Value} (h : KidsAt (Aw n W v) W f s) (hb : Below W.heap.size W W') : KidsAt (Aw n W' v) W' f s :=
 h.keep (fun k e=>⟨e.1,Nat.lt_of_lt_of_le e.2.1 hb.size,e.2.2⟩) (fun k e=>hb.block k e.2.1)
theorem Ps.grown {E : Env} {w w' : World} {j : Nat} {row : Option Nat} (h : Ps E w j) (hg : w.grownBy w' row) (hr : ∀ k,row = some k → ¬ Pm E k ∧ k ≠ E.T ∧ E.W0.heap.size ≤ k) : Ps E w' j:=by
 have keep : ∀ k,k < w.heap.size → (Pm E k ∨ k = E.T ∨ k < E.W0.heap.size) → w'.heap[k]? = w.heap[k]?:=fun k hk hc=>hg.block k hk (fun e=>by
  have:=hr k e.symm
  rcases hc with hc | hc | hc
  ·exact this.1 hc
  ·exact this.2.1 hc
  ·have:=this.2.2;omega)
 refine ⟨(keep _ h.lt (.inl (.inl rfl))).trans h.blk,h.le,h.old.trans ⟨hg.os,hg.tape,hg.output,hg.size,fun k hk=>keep k (by have:=h.old.size;omega) (.inr (.inr hk))⟩,MapT.of_heap h.terms (keep _ h.tlt (.inr (.inl rfl))),?_⟩
 obtain ⟨l,h1,h2⟩:=h.opers
 exact ⟨l,MapT.of_heap h1 (keep _ h1.lt (.inl (.inr rfl))),h2⟩
theorem Kp.grown {E : Env} {W w w' : World} {row : Option Nat} (h : Kp E W w) (hg : w.grownBy w' row) (hr : ∀ k,row = some k → W.heap.size ≤ k) : Kp E W w' :=
 But.grown h hg (Nat.le_refl _) (fun k e hk=>by have:=hr k e;omega)
structure Grew (E : Env) (n : Nat) (W w w' : World) (j : Nat) (l : List Nd) (v' : Value) : Prop where
 own : OwnL n w' l v'
 ps : Ps E w' j
 kp : Kp E W w'
 size : w.heap.size ≤ w'.heap.size
 blk : ∀ b t vs,Blk w b t vs → b < n → Blk w' b t vs
theorem wpList_append_nodes {E : Env} {W w : World} {ops : Array Oper} {rest : List Oper} {o : Oper} {a : Act} {Q : Exit → Act → World → Prop} (hgd : o.guard = none) (s x : Operand)
  (ho : o.op = .call { callee:=.builtin .append,args:=#[s,x],argTypes:=#[30,30] })
  (n j i' : Nat) (l ys : List Nd) (v : Value) (hs : a.eval s = v) (hown : OwnL n w l v) (hl : l.length ≤ 100000010) (hy0 : ys.length ≤ 10)
  (g : Nat) (L2 : List Value) (hx : a.eval x = .slice (some ⟨g,0,none⟩) ys.length ys.length) (hg : Blk w g 32 L2.toArray) (hc : CellsOf (Aw n w v) w (Fo.ofL ys) L2)
  (hbase : n ≤ w.heap.size) (hp : Ps E w j) (hk : Kp E W w) (hW : W.heap.size ≤ n) (hfar : ∀ k,W.heap.size ≤ k → ¬ Pm E k) (h0 : Ps E W i')
  (h : ∀ v' w',Grew E n W w w' j (l ++ ys) v' → wpList Tryz.prog ops Q rest (a.put o.dst v') w') : wpList Tryz.prog ops Q (o :: rest) a w:=by
 obtain ⟨i0,hi,hz0,hz1,hz2⟩:=info_parts infoN
 obtain ⟨L,h1,h2⟩:=hown
 have hlen : L2.length = ys.length * 3:=by rw [hc.len,Fo.ofL_len]
 refine wpList_append_own_at _ hgd s x 30 ho n 32 i0 _ 3 48 Tryz.underlying30 hi hz0 hz1 hz2 rfl (by decide) v l.length L hs h1 ⟨g,0,none⟩ ys.length ys.length L2 hx hlen ?_ hc.one (by unfold maxLen;omega) (by omega) hbase ?_
 ·intro j u hj
  rw [addr_add,Nat.zero_add,hg.cell j]
  simpa using hj
 ·intro v' w' hown' hgrow _ hat
  have hrow : ∀ k,v.ownBlock = some k → n ≤ k ∧ k < w.heap.size:=fun k e=>h1.lt k e
  have hS : ∀ k,Aw n w v k → Aw n w' v' k:=fun k e=>⟨e.1,Nat.lt_of_lt_of_le e.2.1 hgrow.size,fun e'=>by
   rcases hat with hat | hat
   ·rw [hat] at e';exact e.2.2 e'
   ·rw [hat] at e';cases e';have:=e.2.1;omega⟩
  have hH : ∀ k,Aw n w v k → w'.heap[k]? = w.heap[k]?:=fun k e=>hgrow.block k e.2.1 (fun e'=>e.2.2 e'.symm)
  refine h v' w' ⟨⟨L ++ L2,by rw [List.length_append];exact hown',?_⟩,hp.grown hgrow (fun k e=>?_),Kp.grown hk hgrow (fun k e=>Nat.le_trans hW (hrow k e).1),hgrow.size,fun b t vs hb hbn=>hb.kept hgrow (fun e=>by have:=(hrow b e.symm).1;omega)⟩
  ·rw [Fo.ofL_append]
   exact (h2.keep hS hH).app (hc.keep hS hH)
  ·have:=(hrow k e).1
   exact ⟨hfar k (by omega),fun e'=>by have:=h0.tlt;omega,by have:=h0.old.size;omega⟩
theorem listP_len {α : Type} {q : Pa α} {sep : Tk → Bool} : ∀ {n : Nat} {r r' : List Tk} {l : List α},(listP q sep n).run r = some (.ok r' l) → l.length ≤ n
 | 0,_,_,_,h=>by cases h
 | n + 1,r,r',l,h=>by
  obtain ⟨o1,h1,h2⟩:=bind_run (show (q.bind fun x=>Pa.look fun t=>if sep t = true then .move ((listP q sep n).bind fun l=>.ret (x :: l)) else .ret [x]).run r = some (.ok r' l) from h)
  cases o1 with
  | bad r1=>cases h2
  | ok r1 x =>
   have h3 : (if sep (tok r1) = true then Pa.move ((listP q sep n).bind fun l=>.ret (x :: l)) else .ret [x]).run r1 = some (.ok r' l):=h2
   cases hs : sep (tok r1) with
   | true =>
    rw [hs,if_yes] at h3
    obtain ⟨o2,h4,h5⟩:=bind_run (show ((listP q sep n).bind fun l=>Pa.ret (x :: l)).run r1.tail = some (.ok r' l) from h3)
    cases o2 with
    | bad r2=>cases h5
    | ok r2 m =>
     have e : some (Out.ok r2 (x :: m)) = some (.ok r' l):=h5
     cases e
     have:=listP_len h4
     simp;omega
   | false =>
    rw [hs,if_no] at h3
    cases h3
    simp
theorem encl_len {α : Type} {q : Pa α} {o1 s1 e1 : ByteArray} {n : Nat} {r r' : List Tk} {l : List α} (h : (need o1 ((listP q (op s1) n).bind fun l=>need e1 (.ret l))).run r = some (.ok r' l)) : l.length ≤ n:=by
 simp only [need_bind o1,need_bind e1] at h
 obtain ⟨o2,h2,h3⟩:=bind_run h
 cases o2 with
 | bad r2=>cases h3
 | ok r2 x =>
  obtain ⟨o4,h4,h5⟩:=bind_run (show ((listP q (op s1) n).bind fun l=>(mustP e1).bind fun _=>Pa.ret l).run r2 = some (.ok r' l) from h3)
  cases o4 with
  | bad r4=>cases h5
  | ok r4 m =>
   obtain ⟨o6,h6,h7⟩:=bind_run (show ((mustP e1).bind fun _=>Pa.ret m).run r4 = some (.ok r' l) from h5)
   cases o6 with
   | bad r6=>cases h7
   | ok r6 y =>
    have e : some (Out.ok r6 m) = some (.ok r' l):=h7
    cases e
    exact listP_len h4
abbrev C3 (b : Nat) (x y z : Value) (u : World) : Prop:=u.cell? ⟨b,0,none⟩ = some x ∧ u.cell? ⟨b,1,none⟩ = some y ∧ u.cell? ⟨b,2,none⟩ = some z
theorem C3.of {u : World} {b : Nat} {t : TypeId} {x y z : Value} (h : Blk u b t #[x,y,z]) : C3 b x y z u:=⟨h.cell 0,h.cell 1,h.cell 2⟩
theorem C3.alloc {u : World} {b : Nat} {x y z : Value} (h : C3 b x y z u) (o : Obj) : C3 b x y z (u.alloc o) :=
 ⟨(World.cell?_alloc_lt _ _ _ (World.block_lt_of_cell? u _ h.1)).trans h.1,(World.cell?_alloc_lt _ _ _ (World.block_lt_of_cell? u _ h.2.1)).trans h.2.1,(World.cell?_alloc_lt _ _ _ (World.block_lt_of_cell? u _ h.2.2)).trans h.2.2⟩
theorem C3.set {u : World} {b r : Nat} {x y z : Value} (h : C3 b x y z u) (hne : r ≠ b) (p q s : Value) : C3 b x y z (((u.setCell ⟨r,0,none⟩ p).setCell ⟨r,1,none⟩ q).setCell ⟨r,2,none⟩ s):=by
 have k : ∀ j,(((u.setCell ⟨r,0,none⟩ p).setCell ⟨r,1,none⟩ q).setCell ⟨r,2,none⟩ s).cell? ⟨b,j,none⟩ = u.cell? ⟨b,j,none⟩:=fun j=>by
  simp [World.cell?,set3h (u:=u) (B:=r) (k:=b) (Ne.symm hne) p q s]
 exact ⟨(k 0).trans h.1,(k 1).trans h.2.1,(k 2).trans h.2.2⟩
def FrS (S : Nat → Prop) (n : Nat) (W : World) (k : Nat) : Prop:=S k ∨ Fr n W k
def OldS (E : Env) (W : World) (S : Nat → Prop) : Prop:=∀ k,S k → k < W.heap.size ∧ ¬ Pm E k
abbrev RNS (S : Nat → Prop) (x : Nd) (v : Value) (W W' : World) : Prop:=NdAt (fun k=>S k ∨ New W W' k) W' x v
theorem kidsS_fr {S : Nat → Prop} {n : Nat} {w : World} {f : Fo} {v : Value} (h : KidsAt (Fr n w) w f v) : KidsAt (FrS S n w) w f v:=h.keep (fun _ e=>.inr e) (fun _ _=>rfl)
theorem kidsS_of {S : Nat → Prop} {n : Nat} {w : World} {f : Fo} {v : Value} (h : KidsAt S w f v) : KidsAt (FrS S n w) w f v:=h.keep (fun _ e=>.inl e) (fun _ _=>rfl)
theorem kidsS_kp {E : Env} {S : Nat → Prop} {n : Nat} {W w w' : World} {f : Fo} {v : Value} (h : KidsAt (FrS S n w) w f v) (hk : Kp E w w') (hn : ∀ k,n ≤ k → ¬ Pm E k) (hS : OldS E W S) (hW : W.heap.size ≤ w.heap.size) : KidsAt (FrS S n w') w' f v :=
 h.keep (fun k e=>e.imp id (fun e=>⟨e.1,Nat.lt_of_lt_of_le e.2 hk.size⟩)) (fun k e=>by
  rcases e with e | e
  ·exact hk.block k (Nat.lt_of_lt_of_le (hS k e).1 hW) (hS k e).2
  ·exact hk.block k e.2 (hn k e.1))
theorem kidsS_below {E : Env} {S : Nat → Prop} {n : Nat} {W w w' : World} {f : Fo} {v : Value} (h : KidsAt (FrS S n w) w f v) (hk : Below w.heap.size w w') (hS : OldS E W S) (hW : W.heap.size ≤ w.heap.size) : KidsAt (FrS S n w') w' f v :=
 h.keep (fun k e=>e.imp id (fun e=>⟨e.1,Nat.lt_of_lt_of_le e.2 hk.size⟩)) (fun k e=>by
  rcases e with e | e
  ·exact hk.block k (Nat.lt_of_lt_of_le (hS k e).1 hW)
  ·exact hk.block k e.2)
theorem kids_newS {w w' : World} {n : Nat} {x : Nd} {v : Value} (h : RNS (Fr n w) x v w w') (hn : n ≤ w.heap.size) (hs : w.heap.size ≤ w'.heap.size) : ∃ a c,v = .agg #[.int .i64 x.k,.string x.t,.slice a x.kids.len c] ∧ KidsAt (Fr n w') w' x.kids (.slice a x.kids.len c):=by
 obtain ⟨s,rfl,hk⟩:=h
 obtain ⟨a,c,rfl,hm⟩:=hk.slice
 exact ⟨a,c,rfl,hk.keep (fun k e=>by
  rcases e with e | e
  ·exact ⟨e.1,Nat.lt_of_lt_of_le e.2 hs⟩
  ·exact ⟨Nat.le_trans hn e.1,e.2⟩) (fun _ _=>rfl)⟩
theorem kids_rowS {S : Nat → Prop} {n : Nat} {w : World} {g : Nat} {l : List Nd} {L : List Value} (hc : CellsOf (FrS S n w) w (Fo.ofL l) L) (hb : Blk w g 32 L.toArray) (hg : n ≤ g) (m : Nat) (hm : (Fo.ofL l).len = m) (hmax : m ≤ maxLen) :
  KidsAt (FrS S n w) w (Fo.ofL l) (.slice (some ⟨g,0,none⟩) m m):=by
 subst hm
 refine ⟨_,_,rfl,hmax,fun _=>⟨g,0,rfl,.inr ⟨hg,hb.lt⟩,CellsOf.row (o:=0) hc fun j u hj=>?_⟩⟩
 rw [Nat.zero_add,hb.cell j]
 simpa using hj
theorem rowS1 {S : Nat → Prop} {n : Nat} {w : World} {g : Nat} {x : Nd} {s : Value} (h : KidsAt (FrS S n w) w x.kids s) (hb : Blk w g 32 #[.int .i64 x.k,.string x.t,s]) (hg : n ≤ g) : KidsAt (FrS S n w) w (Fo.ofL [x]) (.slice (some ⟨g,0,none⟩) 1 1) :=
 kids_rowS (l:=[x]) (L:=[.int .i64 x.k,.string x.t,s]) ⟨_,_,rfl,h,rfl⟩ hb hg 1 rfl (by decide)
theorem rowS2 {S : Nat → Prop} {n : Nat} {w : World} {g : Nat} {x y : Nd} {s r : Value} (h : KidsAt (FrS S n w) w x.kids s) (h2 : KidsAt (FrS S n w) w y.kids r) (hb : Blk w g 32 #[.int .i64 x.k,.string x.t,s,.int .i64 y.k,.string y.t,r]) (hg : n ≤ g) : KidsAt (FrS S n w) w (Fo.ofL [x,y]) (.slice (some ⟨g,0,none⟩) 2 2) :=
 kids_rowS (l:=[x,y]) (L:=[.int .i64 x.k,.string x.t,s,.int .i64 y.k,.string y.t,r]) ⟨_,_,rfl,h,⟨_,_,rfl,h2,rfl⟩⟩ hb hg 2 rfl (by decide)
theorem rowS3 {S : Nat → Prop} {n : Nat} {w : World} {g : Nat} {x y z : Nd} {s r q : Value} (h : KidsAt (FrS S n w) w x.kids s) (h2 : KidsAt (FrS S n w) w y.kids r) (h3 : KidsAt (FrS S n w) w z.kids q) (hb : Blk w g 32 #[.int .i64 x.k,.string x.t,s,.int .i64 y.k,.string y.t,r,.int .i64 z.k,.string z.t,q]) (hg : n ≤ g) : KidsAt (FrS S n w) w (Fo.ofL [x,y,z]) (.slice (some ⟨g,0,none⟩) 3 3) :=
 kids_rowS (l:=[x,y,z]) (L:=[.int .i64 x.k,.string x.t,s,.int .i64 y.k,.string y.t,r,.int .i64 z.k,.string z.t,q]) ⟨_,_,rfl,h,⟨_,_,rfl,h2,⟨_,_,rfl,h3,rfl⟩⟩⟩ hb hg 3 rfl (by decide)
theorem fin_nodeS {E : Env} (hE : EnvOk E) {S : Nat → Prop} {W u : World} {i j b : Nat} {x : Nd} {a : Option Addr} {c : Nat} {z1 z2 z3 : Value} (h0 : Ps E W i) (hS : OldS E W S) (hp : Ps E u j) (hk : Kp E W u) (hw : W.heap.size ≤ b) (hb : Blk u b 32 #[z1,z2,z3]) (hx : KidsAt (FrS S (b + 1) u) u x.kids (.slice a x.kids.len c)) :
  Blk (((u.setCell ⟨b,0,none⟩ (.int .i64 x.k)).setCell ⟨b,1,none⟩ (.string x.t)).setCell ⟨b,2,none⟩ (.slice a x.kids.len c)) b 32 (nV x a c) ∧
  Post E (RNS S) W (.ok (E.l.drop j) x) (.returned (.agg (nV x a c))) (((u.setCell ⟨b,0,none⟩ (.int .i64 x.k)).setCell ⟨b,1,none⟩ (.string x.t)).setCell ⟨b,2,none⟩ (.slice a x.kids.len c)):=by
 have hne : ¬ Pm E b:=h0.not_pm hw
 have ht : b ≠ E.T:=fun e=>by have:=h0.tlt;omega
 have h00 : E.W0.heap.size ≤ b:=Nat.le_trans h0.old.size hw
 refine ⟨set3b hb _ _ _,hk.set3 hw _ _ _,_,j,rfl,hp.set3 hE hne ht h00 _ _ _,rfl,NdAt.mk ?_⟩
 refine hx.keep (fun k e=>e.imp id (fun e=>⟨by have:=e.1;omega,?_⟩)) (fun k e=>set3h (fun e'=>?_) _ _ _)
 ·have:=(set3o (N:=0) (u:=u) (.int .i64 x.k) (.string x.t) (.slice a x.kids.len c) (B:=b) (Nat.zero_le _)).size
  have:=e.2
  omega
 ·rcases e with e | e
  ·have:=(hS k e).1;omega
  ·have:=e.1;omega
end Go.Proofs.YtlklhkkjcfmefaaGreatDoor.pa
namespace Go.Proofs.YtlklhkkjcfmefaaGreatDoor.pa
open Go.Lib (hid)
open Go.RowKit nd pr sx ed
def brkI (t : Tk) : Int:=if (t.1 == 9) = true then 1 else if (t.1 == 10) = true then -1 else if (t.1 == 13) = true then (if decide (t.2 = lpar) = true then 1 else if decide (t.2 = lbr) = true then 1 else if decide (t.2 = lbrace) = true then 1 else if decide (t.2 = rpar) = true then -1 else if decide (t.2 = rbr) = true then -1 else if decide (t.2 = rbrace) = true then -1 else 0) else 0
theorem lx_toList (s : ByteArray) : s.toList = s.data.toList:=by
 exact Lib.toList_data s
theorem str_eq (a : ByteArray) (l : List UInt8) : (a.data.toList == l) = decide (a = ⟨l.toArray⟩):=by
 rw [Bool.eq_iff_iff]
 simp only [beq_iff_eq,decide_eq_true_eq]
 constructor
 ·intro h;rw [← h]
 ·rintro rfl;simp
theorem bracket_calls (t : Tk) (W : World) : Calls Tryz.prog 42 #[.agg #[.int .i64 t.1,.string t.2]] W fun e w'=>e = .returned (.int .i64 (brkI t)) ∧ Below W.heap.size W w':=by
 obtain ⟨W0,hW0⟩ : ∃ W0,W.alloc (.cells #[.int .i64 t.1,.string t.2] 49) = W0:=⟨_,rfl⟩
 have hb0 : Below W.heap.size W W0:=by rw [← hW0];exact (Below.refl _ W).alloc (Nat.le_refl _) _
 have hbl : Blk W0 W.heap.size 49 #[.int .i64 t.1,.string t.2]:=by rw [← hW0];exact Blk.new W _ _
 have c0:=hbl.cell 0;have c1:=hbl.cell 1
 obtain ⟨r,hr⟩ : ∃ r,brkI t = r:=⟨_,rfl⟩
 unfold brkI at hr
 rw [show brkI t = r from by unfold brkI;exact hr]
 have HR:=hid hr;have HB0:=hid hb0;have HW0:=hid hW0
 obtain ⟨c9,h9⟩ : ∃ c,(t.1 == 9) = c:=⟨_,rfl⟩
 obtain ⟨c10,h10⟩ : ∃ c,(t.1 == 10) = c:=⟨_,rfl⟩
 obtain ⟨c13,h13⟩ : ∃ c,(t.1 == 13) = c:=⟨_,rfl⟩
 obtain ⟨dlpar,glpar⟩ : ∃ c,decide (t.2 = lpar) = c:=⟨_,rfl⟩
 have slpar : (t.2.toList == [40]) = dlpar:=by rw [lx_toList,str_eq];exact glpar
 obtain ⟨dlbr,glbr⟩ : ∃ c,decide (t.2 = lbr) = c:=⟨_,rfl⟩
 have slbr : (t.2.toList == [91]) = dlbr:=by rw [lx_toList,str_eq];exact glbr
 obtain ⟨dlbrace,glbrace⟩ : ∃ c,decide (t.2 = lbrace) = c:=⟨_,rfl⟩
 have slbrace : (t.2.toList == [123]) = dlbrace:=by rw [lx_toList,str_eq];exact glbrace
 obtain ⟨drpar,grpar⟩ : ∃ c,decide (t.2 = rpar) = c:=⟨_,rfl⟩
 have srpar : (t.2.toList == [41]) = drpar:=by rw [lx_toList,str_eq];exact grpar
 obtain ⟨drbr,grbr⟩ : ∃ c,decide (t.2 = rbr) = c:=⟨_,rfl⟩
 have srbr : (t.2.toList == [93]) = drbr:=by rw [lx_toList,str_eq];exact grbr
 obtain ⟨drbrace,grbrace⟩ : ∃ c,decide (t.2 = rbrace) = c:=⟨_,rfl⟩
 have srbrace : (t.2.toList == [125]) = drbrace:=by rw [lx_toList,str_eq];exact grbrace
 rw [h9,h10,h13,glpar,glbr,glbrace,grpar,grbr,grbrace] at hr
 clear HR
 have HR:=hid hr
 clear hr hb0 hW0 hbl glpar glbr glbrace grpar grbr grbrace
 go_enter Tryz.func42,Tryz.ntmps42
 go_upto_region 1 with fail
 rw [HW0.out]
 cases c9 with
 | true =>
  go_wp2_with fail
  go_ret
  exact ⟨by rw [← HR.out];rfl,HB0.out⟩
 | false =>
  cases c10 with
  | true =>
   go_wp2_with fail
   go_ret
   exact ⟨by rw [← HR.out];rfl,HB0.out⟩
  | false =>
   cases c13 with
   | false =>
    go_wp2_with fail
    go_ret
    exact ⟨by rw [← HR.out];rfl,HB0.out⟩
   | true =>
    cases dlpar with
    | true =>
     go_wp2_with fail
     go_ret
     exact ⟨by rw [← HR.out];rfl,HB0.out⟩
    | false =>
     cases dlbr with
     | true =>
      go_wp2_with fail
      go_ret
      exact ⟨by rw [← HR.out];rfl,HB0.out⟩
     | false =>
      cases dlbrace with
      | true =>
       go_wp2_with fail
       go_ret
       exact ⟨by rw [← HR.out];rfl,HB0.out⟩
      | false =>
       cases drpar with
       | true =>
        go_wp2_with fail
        go_ret
        exact ⟨by rw [← HR.out];rfl,HB0.out⟩
       | false =>
        cases drbr with
        | true =>
         go_wp2_with fail
         go_ret
         exact ⟨by rw [← HR.out];rfl,HB0.out⟩
        | false =>
         cases drbrace with
         | true =>
          go_wp2_with fail
          go_ret
          exact ⟨by rw [← HR.out];rfl,HB0.out⟩
         | false =>
          go_wp2_with fail
          go_ret
          exact ⟨by rw [← HR.out];rfl,HB0.out⟩
end Go.Proofs.YtlklhkkjcfmefaaGreatDoor.pa
namespace Go.Proofs.YtlklhkkjcfmefaaGreatDoor.pa
open Go.RowKit nd pr
def Fits (r : List Tk) : Prop:=∀ t ∈ r,FitT t
theorem Fits.suf {r r' : List Tk} (h : Fits r) (hs : r' <:+ r) : Fits r':=fun t ht=>h t (hs.subset ht)
theorem Fits.tail {r : List Tk} (h : Fits r) : Fits r.tail:=h.suf (List.tail_suffix r)
theorem Pa.rest {α : Type} : ∀ (p : Pa α) {r r' : List Tk} {x : α},p.run r = some (.ok r' x) → r' <:+ r:=by
 intro p
 induction p with
 | ret y=>intro r r' x h;cases h;exact List.suffix_refl _
 | bad=>intro r r' x h;cases h
 | out=>intro r r' x h;cases h
 | look k ih=>intro r r' x h;exact ih _ h
 | peek k ih=>intro r r' x h;exact ih _ h
 | ended k ih=>intro r r' x h;exact ih _ h
 | move k ih=>intro r r' x h;exact (ih h).trans (List.tail_suffix r)
def At {α : Type} (r : List Tk) (p q : Pa α) : Prop:=∀ o,p.run r = some o → q.run r = some o
def Sb {α : Type} (p q : Pa α) : Prop:=∀ r,Fits r → At r p q
theorem At.refl {α : Type} (r : List Tk) (p : Pa α) : At r p p:=fun _ h=>h
theorem At.trans {α : Type} {r : List Tk} {p q s : Pa α} (h : At r p q) (k : At r q s) : At r p s:=fun o e=>k o (h o e)
theorem Sb.refl {α : Type} (p : Pa α) : Sb p p:=fun _ _ _ h=>h
theorem Sb.trans {α : Type} {p q s : Pa α} (h : Sb p q) (k : Sb q s) : Sb p s:=fun r hr=>(h r hr).trans (k r hr)
theorem Sb.of_le {α : Type} {p q : Pa α} (h : p.Le q) : Sb p q:=fun _ _ _ e=>h.run e
theorem At.out {α : Type} {r : List Tk} (q : Pa α) : At r .out q:=fun _ h=>by cases h
theorem Sb.out {α : Type} (q : Pa α) : Sb .out q:=fun _ _=>At.out q
theorem At.look {α : Type} {r : List Tk} {k k' : Tk → Pa α} (h : At r (k (tok r)) (k' (tok r))) : At r (.look k) (.look k'):=h
theorem At.ended {α : Type} {r : List Tk} {k k' : Bool → Pa α} (h : At r (k r.isEmpty) (k' r.isEmpty)) : At r (.ended k) (.ended k'):=h
theorem At.move {α : Type} {r : List Tk} {p q : Pa α} (h : At r.tail p q) : At r (.move p) (.move q):=h
theorem At.bind {α β : Type} {r : List Tk} {p q : Pa α} {f g : α → Pa β} (hr : Fits r) (h : At r p q) (hf : ∀ x r',Fits r' → At r' (f x) (g x)) : At r (p.bind f) (q.bind g):=by
 intro o e
 obtain ⟨o1,h1,h2⟩:=bind_run e
 rw [Pa.run_bind,h o1 h1]
 cases o1 with
 | bad r'=>exact h2
 | ok r' x=>exact hf x r' (hr.suf (Pa.rest _ h1)) o h2
theorem Sb.bind {α β : Type} {p q : Pa α} {f g : α → Pa β} (h : Sb p q) (hf : ∀ x,Sb (f x) (g x)) : Sb (p.bind f) (q.bind g):=fun r hr=>At.bind hr (h r hr) (fun x r' hr'=>hf x r' hr')
theorem At.ite {α : Type} {r : List Tk} {c : Prop} [Decidable c] {p q p' q' : Pa α} (h : c → At r p q) (h' : ¬ c → At r p' q') : At r (if c then p else p') (if c then q else q'):=by
 split
 ·rename_i hc;exact h hc
 ·rename_i hc;exact h' hc
theorem Sb.go {n m : Nat} (h : n ≤ m) (f : Fn) : Sb (go n f) (go m f):=.of_le (go_le h f)
end Go.Proofs.YtlklhkkjcfmefaaGreatDoor.pa
