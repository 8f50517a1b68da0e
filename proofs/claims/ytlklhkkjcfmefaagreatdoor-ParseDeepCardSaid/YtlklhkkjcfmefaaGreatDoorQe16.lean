/- Ground of the law: PaP6, LxTurn2. -/
import Derived.Test.YtlklhkkjcfmefaaGreatDoorQe14
import Derived.Test.YtlklhkkjcfmefaaGreatDoorQe15
set_option maxRecDepth 100000
set_option maxHeartbeats 8000000
set_option linter.unusedVariables false
set_option linter.unusedSimpArgs false
namespace Go.Proofs.YtlklhkkjcfmefaaGreatDoor.pa
open Go.Lib (hid)
open Go.RowKit nd pr sx ed
theorem field_tl {E : Env} (hE : EnvOk E)  : Tl E ((cutP 4).bind fun s=>.ret (mk 3 s [])) RN 75 #[pB E]:=by
 intro W i o hp hr
 have HNP:=hid hp.far;have H00:=hid hp
 obtain ⟨W0,hW0⟩ : ∃ W0,W.alloc (.cells nodeZ 32) = W0:=⟨_,rfl⟩
 have hb0 : Below W.heap.size W W0:=by rw [← hW0];exact (Below.refl _ W).alloc (Nat.le_refl _) _
 have hk0 : Blk W0 W.heap.size 32 nodeZ:=by rw [← hW0];exact Blk.new W _ _
 have hs0 : W.heap.size + 1 ≤ W0.heap.size:=by rw [← hW0];simp
 have HW0:=hid hW0;have HK0:=hid (Kp.of_below (E:=E) hb0);have HP0:=hid (hp.next hb0);have HS0:=hid hs0;have HR0:=hid hr
 have HBr0:=hid hk0
 clear hW0 hb0 hk0 hs0 hp hr
 unfold pB
 go_enter Tryz.func75,Tryz.ntmps75
 go_upto_region 1 with fail
 rw [HW0.out]
 obtain ⟨o1,h1,hr1⟩:=bind_run HR0.out
 have hcall:=Tl.at (fieldName_tl hE) HP0.out h1
 have HC:=hid hcall;have HR1:=hid hr1
 clear hcall h1 hr1 HR0 HP0
 unfold pB at HC
 try unfold methV at HC
 go_wp2_with fail
 ((with_reducible refine HC.out.mono ?_);rintro e w1 ⟨hk,hm⟩)
 clear HC
 rcases o1 with ⟨r1,x1⟩ | ⟨r1⟩
 rotate_left
 ·obtain ⟨j,hj,hd,rfl⟩:=hm
  obtain rfl : o = .bad r1:=(Option.some.inj HR1.out).symm
  exact ⟨rfl,Kp.tr HK0.out hk,j,hj,hd,rfl⟩
 obtain ⟨v1,j1,rfl,hp,rfl,hR⟩:=hm
 have HK1:=hid (Kp.tr HK0.out hk)
 have HS1:=hid (show (W.heap.size + 1) ≤ w1.heap.size from Nat.le_trans HS0.out (hk).size)
 have HBr1:=hid (Kp.blk' (n:=W.heap.size) HBr0.out hk HNP.out (Nat.le_refl _))
 have HP1:=hid hp
 obtain rfl:=hR
 clear hk hp
 have hl:=HR1.out
 clear HR1
 dsimp only at hl
 have HR1:=hid hl
 clear hl
 clear HK0 HS0 HBr0
 go_wp2_with fail
 ((with_reducible refine (node_calls _ _ _ _ _ _).mono ?_);rintro e w2 ⟨rfl,hbn⟩)
 have hb:=hbn
 have HK2:=hid (Kp.sb HK1.out hb)
 have HS2:=hid (show (W.heap.size + 1) ≤ w2.heap.size from Nat.le_trans HS1.out (hb).size)
 have HBr2:=hid (HBr1.out.own hb)
 have HP2:=hid (HP1.out.next hb)
 have hx:=kids_nil (Fr (W.heap.size + 1) w2) w2 none 0
 have hfin:=fin_node hE (x:=mk 3 x1 []) H00.out HP2.out HK2.out (Nat.le_refl _) HBr2.out hx
 obtain rfl : o = .ok (E.l.drop j1) (mk 3 x1 []):=(Option.some.inj HR1.out).symm
 have rc0:=HBr2.out.cell 0;have rf0:=HBr2.out.frozen 0
 have rc1:=HBr2.out.cell 1;have rf1:=HBr2.out.frozen 1
 have rc2:=HBr2.out.cell 2;have rf2:=HBr2.out.frozen 2
 have g0:=hfin.1.cell 0;have g1:=hfin.1.cell 1;have g2:=hfin.1.cell 2
 have HF:=hid hfin.2
 simp only [mk,Fo.ofL,Fo.len] at g0 g1 g2
 clear hfin
 go_wp2_with fail
 refine bodyPost_ret (v:=.agg (nV (mk 3 x1 []) none 0)) (by simp [results,Tryz.results75,go_sem,g0,g1,g2,mk,Fo.ofL,Fo.len]) rfl ?_
 exact HF.out
theorem value_tl {E : Env} (hE : EnvOk E)  : Tl E ((cutP 5).bind fun s=>.ret (mk 4 s [])) RN 76 #[pB E]:=by
 intro W i o hp hr
 have HNP:=hid hp.far;have H00:=hid hp
 obtain ⟨W0,hW0⟩ : ∃ W0,W.alloc (.cells nodeZ 32) = W0:=⟨_,rfl⟩
 have hb0 : Below W.heap.size W W0:=by rw [← hW0];exact (Below.refl _ W).alloc (Nat.le_refl _) _
 have hk0 : Blk W0 W.heap.size 32 nodeZ:=by rw [← hW0];exact Blk.new W _ _
 have hs0 : W.heap.size + 1 ≤ W0.heap.size:=by rw [← hW0];simp
 have HW0:=hid hW0;have HK0:=hid (Kp.of_below (E:=E) hb0);have HP0:=hid (hp.next hb0);have HS0:=hid hs0;have HR0:=hid hr
 have HBr0:=hid hk0
 clear hW0 hb0 hk0 hs0 hp hr
 unfold pB
 go_enter Tryz.func76,Tryz.ntmps76
 go_upto_region 1 with fail
 rw [HW0.out]
 obtain ⟨o1,h1,hr1⟩:=bind_run HR0.out
 have hcall:=Tl.at (variable_tl hE) HP0.out h1
 have HC:=hid hcall;have HR1:=hid hr1
 clear hcall h1 hr1 HR0 HP0
 unfold pB at HC
 try unfold methV at HC
 go_wp2_with fail
 ((with_reducible refine HC.out.mono ?_);rintro e w1 ⟨hk,hm⟩)
 clear HC
 rcases o1 with ⟨r1,x1⟩ | ⟨r1⟩
 rotate_left
 ·obtain ⟨j,hj,hd,rfl⟩:=hm
  obtain rfl : o = .bad r1:=(Option.some.inj HR1.out).symm
  exact ⟨rfl,Kp.tr HK0.out hk,j,hj,hd,rfl⟩
 obtain ⟨v1,j1,rfl,hp,rfl,hR⟩:=hm
 have HK1:=hid (Kp.tr HK0.out hk)
 have HS1:=hid (show (W.heap.size + 1) ≤ w1.heap.size from Nat.le_trans HS0.out (hk).size)
 have HBr1:=hid (Kp.blk' (n:=W.heap.size) HBr0.out hk HNP.out (Nat.le_refl _))
 have HP1:=hid hp
 obtain rfl:=hR
 clear hk hp
 have hl:=HR1.out
 clear HR1
 dsimp only at hl
 have HR1:=hid hl
 clear hl
 clear HK0 HS0 HBr0
 go_wp2_with fail
 ((with_reducible refine (node_calls _ _ _ _ _ _).mono ?_);rintro e w2 ⟨rfl,hbn⟩)
 have hb:=hbn
 have HK2:=hid (Kp.sb HK1.out hb)
 have HS2:=hid (show (W.heap.size + 1) ≤ w2.heap.size from Nat.le_trans HS1.out (hb).size)
 have HBr2:=hid (HBr1.out.own hb)
 have HP2:=hid (HP1.out.next hb)
 have hx:=kids_nil (Fr (W.heap.size + 1) w2) w2 none 0
 have hfin:=fin_node hE (x:=mk 4 x1 []) H00.out HP2.out HK2.out (Nat.le_refl _) HBr2.out hx
 obtain rfl : o = .ok (E.l.drop j1) (mk 4 x1 []):=(Option.some.inj HR1.out).symm
 have rc0:=HBr2.out.cell 0;have rf0:=HBr2.out.frozen 0
 have rc1:=HBr2.out.cell 1;have rf1:=HBr2.out.frozen 1
 have rc2:=HBr2.out.cell 2;have rf2:=HBr2.out.frozen 2
 have g0:=hfin.1.cell 0;have g1:=hfin.1.cell 1;have g2:=hfin.1.cell 2
 have HF:=hid hfin.2
 simp only [mk,Fo.ofL,Fo.len] at g0 g1 g2
 clear hfin
 go_wp2_with fail
 refine bodyPost_ret (v:=.agg (nV (mk 4 x1 []) none 0)) (by simp [results,Tryz.results76,go_sem,g0,g1,g2,mk,Fo.ofL,Fo.len]) rfl ?_
 exact HF.out
theorem number_tl {E : Env} (hE : EnvOk E)  : Tl E ((ofP 6).bind fun s=>.ret (mk 5 s [])) RN 77 #[pB E]:=by
 intro W i o hp hr
 have HNP:=hid hp.far;have H00:=hid hp
 obtain ⟨W0,hW0⟩ : ∃ W0,W.alloc (.cells nodeZ 32) = W0:=⟨_,rfl⟩
 have hb0 : Below W.heap.size W W0:=by rw [← hW0];exact (Below.refl _ W).alloc (Nat.le_refl _) _
 have hk0 : Blk W0 W.heap.size 32 nodeZ:=by rw [← hW0];exact Blk.new W _ _
 have hs0 : W.heap.size + 1 ≤ W0.heap.size:=by rw [← hW0];simp
 have HW0:=hid hW0;have HK0:=hid (Kp.of_below (E:=E) hb0);have HP0:=hid (hp.next hb0);have HS0:=hid hs0;have HR0:=hid hr
 have HBr0:=hid hk0
 clear hW0 hb0 hk0 hs0 hp hr
 unfold pB
 go_enter Tryz.func77,Tryz.ntmps77
 go_upto_region 1 with fail
 rw [HW0.out]
 obtain ⟨o1,h1,hr1⟩:=bind_run HR0.out
 have hcall:=Tl.at (of_tl hE 6 (by decide)) HP0.out h1
 have HC:=hid hcall;have HR1:=hid hr1
 clear hcall h1 hr1 HR0 HP0
 unfold pB at HC
 try unfold methV at HC
 go_wp2_with fail
 ((with_reducible refine HC.out.mono ?_);rintro e w1 ⟨hk,hm⟩)
 clear HC
 rcases o1 with ⟨r1,x1⟩ | ⟨r1⟩
 rotate_left
 ·obtain ⟨j,hj,hd,rfl⟩:=hm
  obtain rfl : o = .bad r1:=(Option.some.inj HR1.out).symm
  exact ⟨rfl,Kp.tr HK0.out hk,j,hj,hd,rfl⟩
 obtain ⟨v1,j1,rfl,hp,rfl,hR⟩:=hm
 have HK1:=hid (Kp.tr HK0.out hk)
 have HS1:=hid (show (W.heap.size + 1) ≤ w1.heap.size from Nat.le_trans HS0.out (hk).size)
 have HBr1:=hid (Kp.blk' (n:=W.heap.size) HBr0.out hk HNP.out (Nat.le_refl _))
 have HP1:=hid hp
 obtain rfl:=hR
 clear hk hp
 have hl:=HR1.out
 clear HR1
 dsimp only at hl
 have HR1:=hid hl
 clear hl
 clear HK0 HS0 HBr0
 go_wp2_with fail
 ((with_reducible refine (node_calls _ _ _ _ _ _).mono ?_);rintro e w2 ⟨rfl,hbn⟩)
 have hb:=hbn
 have HK2:=hid (Kp.sb HK1.out hb)
 have HS2:=hid (show (W.heap.size + 1) ≤ w2.heap.size from Nat.le_trans HS1.out (hb).size)
 have HBr2:=hid (HBr1.out.own hb)
 have HP2:=hid (HP1.out.next hb)
 have hx:=kids_nil (Fr (W.heap.size + 1) w2) w2 none 0
 have hfin:=fin_node hE (x:=mk 5 x1 []) H00.out HP2.out HK2.out (Nat.le_refl _) HBr2.out hx
 obtain rfl : o = .ok (E.l.drop j1) (mk 5 x1 []):=(Option.some.inj HR1.out).symm
 have rc0:=HBr2.out.cell 0;have rf0:=HBr2.out.frozen 0
 have rc1:=HBr2.out.cell 1;have rf1:=HBr2.out.frozen 1
 have rc2:=HBr2.out.cell 2;have rf2:=HBr2.out.frozen 2
 have g0:=hfin.1.cell 0;have g1:=hfin.1.cell 1;have g2:=hfin.1.cell 2
 have HF:=hid hfin.2
 simp only [mk,Fo.ofL,Fo.len] at g0 g1 g2
 clear hfin
 go_wp2_with fail
 refine bodyPost_ret (v:=.agg (nV (mk 5 x1 []) none 0)) (by simp [results,Tryz.results77,go_sem,g0,g1,g2,mk,Fo.ofL,Fo.len]) rfl ?_
 exact HF.out
theorem chunk_tl {E : Env} (hE : EnvOk E)  : Tl E ((ofP 8).bind fun s=>.ret (mk 7 s [])) RN 162 #[pB E]:=by
 intro W i o hp hr
 have HNP:=hid hp.far;have H00:=hid hp
 obtain ⟨W0,hW0⟩ : ∃ W0,W.alloc (.cells nodeZ 32) = W0:=⟨_,rfl⟩
 have hb0 : Below W.heap.size W W0:=by rw [← hW0];exact (Below.refl _ W).alloc (Nat.le_refl _) _
 have hk0 : Blk W0 W.heap.size 32 nodeZ:=by rw [← hW0];exact Blk.new W _ _
 have hs0 : W.heap.size + 1 ≤ W0.heap.size:=by rw [← hW0];simp
 have HW0:=hid hW0;have HK0:=hid (Kp.of_below (E:=E) hb0);have HP0:=hid (hp.next hb0);have HS0:=hid hs0;have HR0:=hid hr
 have HBr0:=hid hk0
 clear hW0 hb0 hk0 hs0 hp hr
 unfold pB
 go_enter Tryz.func162,Tryz.ntmps162
 go_upto_region 1 with fail
 rw [HW0.out]
 obtain ⟨o1,h1,hr1⟩:=bind_run HR0.out
 have hcall:=Tl.at (of_tl hE 8 (by decide)) HP0.out h1
 have HC:=hid hcall;have HR1:=hid hr1
 clear hcall h1 hr1 HR0 HP0
 unfold pB at HC
 try unfold methV at HC
 go_wp2_with fail
 ((with_reducible refine HC.out.mono ?_);rintro e w1 ⟨hk,hm⟩)
 clear HC
 rcases o1 with ⟨r1,x1⟩ | ⟨r1⟩
 rotate_left
 ·obtain ⟨j,hj,hd,rfl⟩:=hm
  obtain rfl : o = .bad r1:=(Option.some.inj HR1.out).symm
  exact ⟨rfl,Kp.tr HK0.out hk,j,hj,hd,rfl⟩
 obtain ⟨v1,j1,rfl,hp,rfl,hR⟩:=hm
 have HK1:=hid (Kp.tr HK0.out hk)
 have HS1:=hid (show (W.heap.size + 1) ≤ w1.heap.size from Nat.le_trans HS0.out (hk).size)
 have HBr1:=hid (Kp.blk' (n:=W.heap.size) HBr0.out hk HNP.out (Nat.le_refl _))
 have HP1:=hid hp
 obtain rfl:=hR
 clear hk hp
 have hl:=HR1.out
 clear HR1
 dsimp only at hl
 have HR1:=hid hl
 clear hl
 clear HK0 HS0 HBr0
 go_wp2_with fail
 ((with_reducible refine (node_calls _ _ _ _ _ _).mono ?_);rintro e w2 ⟨rfl,hbn⟩)
 have hb:=hbn
 have HK2:=hid (Kp.sb HK1.out hb)
 have HS2:=hid (show (W.heap.size + 1) ≤ w2.heap.size from Nat.le_trans HS1.out (hb).size)
 have HBr2:=hid (HBr1.out.own hb)
 have HP2:=hid (HP1.out.next hb)
 have hx:=kids_nil (Fr (W.heap.size + 1) w2) w2 none 0
 have hfin:=fin_node hE (x:=mk 7 x1 []) H00.out HP2.out HK2.out (Nat.le_refl _) HBr2.out hx
 obtain rfl : o = .ok (E.l.drop j1) (mk 7 x1 []):=(Option.some.inj HR1.out).symm
 have rc0:=HBr2.out.cell 0;have rf0:=HBr2.out.frozen 0
 have rc1:=HBr2.out.cell 1;have rf1:=HBr2.out.frozen 1
 have rc2:=HBr2.out.cell 2;have rf2:=HBr2.out.frozen 2
 have g0:=hfin.1.cell 0;have g1:=hfin.1.cell 1;have g2:=hfin.1.cell 2
 have HF:=hid hfin.2
 simp only [mk,Fo.ofL,Fo.len] at g0 g1 g2
 clear hfin
 go_wp2_with fail
 refine bodyPost_ret (v:=.agg (nV (mk 7 x1 []) none 0)) (by simp [results,Tryz.results162,go_sem,g0,g1,g2,mk,Fo.ofL,Fo.len]) rfl ?_
 exact HF.out
theorem leave_tl {E : Env} (hE : EnvOk E)  : Tl E (need wbreak ((cutP 5).bind fun s=>.ret (mk 28 s []))) RN 73 #[pB E]:=by
 intro W i o hp hr
 rw [need_bind wbreak] at hr
 have HNP:=hid hp.far;have H00:=hid hp
 obtain ⟨W0,hW0⟩ : ∃ W0,W.alloc (.cells nodeZ 32) = W0:=⟨_,rfl⟩
 have hb0 : Below W.heap.size W W0:=by rw [← hW0];exact (Below.refl _ W).alloc (Nat.le_refl _) _
 have hk0 : Blk W0 W.heap.size 32 nodeZ:=by rw [← hW0];exact Blk.new W _ _
 have hs0 : W.heap.size + 1 ≤ W0.heap.size:=by rw [← hW0];simp
 have HW0:=hid hW0;have HK0:=hid (Kp.of_below (E:=E) hb0);have HP0:=hid (hp.next hb0);have HS0:=hid hs0;have HR0:=hid hr
 have HBr0:=hid hk0
 clear hW0 hb0 hk0 hs0 hp hr
 unfold pB
 go_enter Tryz.func73,Tryz.ntmps73
 go_upto_region 1 with fail
 rw [HW0.out]
 go_wp2_with fail
 ((with_reducible refine (word_calls' _ _).mono ?_);rintro e w1 ⟨rfl,hb⟩)
 have HK1:=hid (Kp.sb HK0.out hb)
 have HS1:=hid (show (W.heap.size + 1) ≤ w1.heap.size from Nat.le_trans HS0.out (hb).size)
 have HBr1:=hid (HBr0.out.own hb)
 have HP1:=hid (HP0.out.next hb)
 have HR1:=HR0
 clear HK0 HS0 HBr0
 clear hb HP0 HR0
 obtain ⟨o2,h2,hr2⟩:=bind_run HR1.out
 have hcall:=Tl.at (must_word hE in_wbreak) HP1.out h2
 have HC:=hid hcall;have HR2:=hid hr2
 clear hcall h2 hr2 HR1 HP1
 unfold pB at HC
 try unfold methV at HC
 go_wp2_with fail
 ((with_reducible refine HC.out.mono ?_);rintro e w2 ⟨hk,hm⟩)
 clear HC
 rcases o2 with ⟨r2,x2⟩ | ⟨r2⟩
 rotate_left
 ·obtain ⟨j,hj,hd,rfl⟩:=hm
  obtain rfl : o = .bad r2:=(Option.some.inj HR2.out).symm
  exact ⟨rfl,Kp.tr HK1.out hk,j,hj,hd,rfl⟩
 obtain ⟨v2,j2,rfl,hp,rfl,hR⟩:=hm
 have HK2:=hid (Kp.tr HK1.out hk)
 have HS2:=hid (show (W.heap.size + 1) ≤ w2.heap.size from Nat.le_trans HS1.out (hk).size)
 have HBr2:=hid (Kp.blk' (n:=W.heap.size) HBr1.out hk HNP.out (Nat.le_refl _))
 have HP2:=hid hp
 obtain rfl:=hR
 clear hk hp
 have hl:=HR2.out
 clear HR2
 dsimp only at hl
 have HR2:=hid hl
 clear hl
 clear HK1 HS1 HBr1
 obtain ⟨o3,h3,hr3⟩:=bind_run HR2.out
 have hcall:=Tl.at (variable_tl hE) HP2.out h3
 have HC:=hid hcall;have HR3:=hid hr3
 clear hcall h3 hr3 HR2 HP2
 unfold pB at HC
 try unfold methV at HC
 go_wp2_with fail
 ((with_reducible refine HC.out.mono ?_);rintro e w3 ⟨hk,hm⟩)
 clear HC
 rcases o3 with ⟨r3,x3⟩ | ⟨r3⟩
 rotate_left
 ·obtain ⟨j,hj,hd,rfl⟩:=hm
  obtain rfl : o = .bad r3:=(Option.some.inj HR3.out).symm
  exact ⟨rfl,Kp.tr HK2.out hk,j,hj,hd,rfl⟩
 obtain ⟨v3,j3,rfl,hp,rfl,hR⟩:=hm
 have HK3:=hid (Kp.tr HK2.out hk)
 have HS3:=hid (show (W.heap.size + 1) ≤ w3.heap.size from Nat.le_trans HS2.out (hk).size)
 have HBr3:=hid (Kp.blk' (n:=W.heap.size) HBr2.out hk HNP.out (Nat.le_refl _))
 have HP3:=hid hp
 obtain rfl:=hR
 clear hk hp
 have hl:=HR3.out
 clear HR3
 dsimp only at hl
 have HR3:=hid hl
 clear hl
 clear HK2 HS2 HBr2
 go_wp2_with fail
 ((with_reducible refine (node_calls _ _ _ _ _ _).mono ?_);rintro e w4 ⟨rfl,hbn⟩)
 have hb:=hbn
 have HK4:=hid (Kp.sb HK3.out hb)
 have HS4:=hid (show (W.heap.size + 1) ≤ w4.heap.size from Nat.le_trans HS3.out (hb).size)
 have HBr4:=hid (HBr3.out.own hb)
 have HP4:=hid (HP3.out.next hb)
 have hx:=kids_nil (Fr (W.heap.size + 1) w4) w4 none 0
 have hfin:=fin_node hE (x:=mk 28 x3 []) H00.out HP4.out HK4.out (Nat.le_refl _) HBr4.out hx
 obtain rfl : o = .ok (E.l.drop j3) (mk 28 x3 []):=(Option.some.inj HR3.out).symm
 have rc0:=HBr4.out.cell 0;have rf0:=HBr4.out.frozen 0
 have rc1:=HBr4.out.cell 1;have rf1:=HBr4.out.frozen 1
 have rc2:=HBr4.out.cell 2;have rf2:=HBr4.out.frozen 2
 have g0:=hfin.1.cell 0;have g1:=hfin.1.cell 1;have g2:=hfin.1.cell 2
 have HF:=hid hfin.2
 simp only [mk,Fo.ofL,Fo.len] at g0 g1 g2
 clear hfin
 go_wp2_with fail
 refine bodyPost_ret (v:=.agg (nV (mk 28 x3 []) none 0)) (by simp [results,Tryz.results73,go_sem,g0,g1,g2,mk,Fo.ofL,Fo.len]) rfl ?_
 exact HF.out
theorem label_tl {E : Env} (hE : EnvOk E) {q : Pa Nd} (hq : Tl E q RN 123 #[pB E]) : Tl E (need wlabel ((cutP 5).bind fun s=>need bar (q.bind fun x=>.ret (mk 27 s [x])))) RN 214 #[pB E]:=by
 intro W i o hp hr
 simp only [need_bind wlabel,need_bind bar] at hr
 have HNP:=hid hp.far;have H00:=hid hp
 obtain ⟨W0,hW0⟩ : ∃ W0,W.alloc (.cells nodeZ 32) = W0:=⟨_,rfl⟩
 have hb0 : Below W.heap.size W W0:=by rw [← hW0];exact (Below.refl _ W).alloc (Nat.le_refl _) _
 have hk0 : Blk W0 W.heap.size 32 nodeZ:=by rw [← hW0];exact Blk.new W _ _
 have hs0 : W.heap.size + 1 ≤ W0.heap.size:=by rw [← hW0];simp
 have HW0:=hid hW0;have HK0:=hid (Kp.of_below (E:=E) hb0);have HP0:=hid (hp.next hb0);have HS0:=hid hs0;have HR0:=hid hr
 have HBr0:=hid hk0
 clear hW0 hb0 hk0 hs0 hp hr
 unfold pB
 go_enter Tryz.func214,Tryz.ntmps214
 go_upto_region 1 with fail
 rw [HW0.out]
 go_wp2_with fail
 ((with_reducible refine (word_calls' _ _).mono ?_);rintro e w1 ⟨rfl,hb⟩)
 have HK1:=hid (Kp.sb HK0.out hb)
 have HS1:=hid (show (W.heap.size + 1) ≤ w1.heap.size from Nat.le_trans HS0.out (hb).size)
 have HBr1:=hid (HBr0.out.own hb)
 have HP1:=hid (HP0.out.next hb)
 have HR1:=HR0
 clear HK0 HS0 HBr0
 clear hb HP0 HR0
 obtain ⟨o2,h2,hr2⟩:=bind_run HR1.out
 have hcall:=Tl.at (must_word hE in_wlabel) HP1.out h2
 have HC:=hid hcall;have HR2:=hid hr2
 clear hcall h2 hr2 HR1 HP1
 unfold pB at HC
 try unfold methV at HC
 go_wp2_with fail
 ((with_reducible refine HC.out.mono ?_);rintro e w2 ⟨hk,hm⟩)
 clear HC
 rcases o2 with ⟨r2,x2⟩ | ⟨r2⟩
 rotate_left
 ·obtain ⟨j,hj,hd,rfl⟩:=hm
  obtain rfl : o = .bad r2:=(Option.some.inj HR2.out).symm
  exact ⟨rfl,Kp.tr HK1.out hk,j,hj,hd,rfl⟩
 obtain ⟨v2,j2,rfl,hp,rfl,hR⟩:=hm
 have HK2:=hid (Kp.tr HK1.out hk)
 have HS2:=hid (show (W.heap.size + 1) ≤ w2.heap.size from Nat.le_trans HS1.out (hk).size)
 have HBr2:=hid (Kp.blk' (n:=W.heap.size) HBr1.out hk HNP.out (Nat.le_refl _))
 have HP2:=hid hp
 obtain rfl:=hR
 clear hk hp
 have hl:=HR2.out
 clear HR2
 dsimp only at hl
 have HR2:=hid hl
 clear hl
 clear HK1 HS1 HBr1
 obtain ⟨o3,h3,hr3⟩:=bind_run HR2.out
 have hcall:=Tl.at (variable_tl hE) HP2.out h3
 have HC:=hid hcall;have HR3:=hid hr3
 clear hcall h3 hr3 HR2 HP2
 unfold pB at HC
 try unfold methV at HC
 go_wp2_with fail
 ((with_reducible refine HC.out.mono ?_);rintro e w3 ⟨hk,hm⟩)
 clear HC
 rcases o3 with ⟨r3,x3⟩ | ⟨r3⟩
 rotate_left
 ·obtain ⟨j,hj,hd,rfl⟩:=hm
  obtain rfl : o = .bad r3:=(Option.some.inj HR3.out).symm
  exact ⟨rfl,Kp.tr HK2.out hk,j,hj,hd,rfl⟩
 obtain ⟨v3,j3,rfl,hp,rfl,hR⟩:=hm
 have HK3:=hid (Kp.tr HK2.out hk)
 have HS3:=hid (show (W.heap.size + 1) ≤ w3.heap.size from Nat.le_trans HS2.out (hk).size)
 have HBr3:=hid (Kp.blk' (n:=W.heap.size) HBr2.out hk HNP.out (Nat.le_refl _))
 have HP3:=hid hp
 obtain rfl:=hR
 clear hk hp
 have hl:=HR3.out
 clear HR3
 dsimp only at hl
 have HR3:=hid hl
 clear hl
 clear HK2 HS2 HBr2
 go_wp2_with fail
 ((with_reducible refine (op_calls' _ _).mono ?_);rintro e w4 ⟨rfl,hb⟩)
 have HK4:=hid (Kp.sb HK3.out hb)
 have HS4:=hid (show (W.heap.size + 1) ≤ w4.heap.size from Nat.le_trans HS3.out (hb).size)
 have HBr4:=hid (HBr3.out.own hb)
 have HP4:=hid (HP3.out.next hb)
 have HR4:=HR3
 clear HK3 HS3 HBr3
 clear hb HP3 HR3
 obtain ⟨o5,h5,hr5⟩:=bind_run HR4.out
 have hcall:=Tl.at (must_op hE in_bar) HP4.out h5
 have HC:=hid hcall;have HR5:=hid hr5
 clear hcall h5 hr5 HR4 HP4
 unfold pB at HC
 try unfold methV at HC
 go_wp2_with fail
 ((with_reducible refine HC.out.mono ?_);rintro e w5 ⟨hk,hm⟩)
 clear HC
 rcases o5 with ⟨r5,x5⟩ | ⟨r5⟩
 rotate_left
 ·obtain ⟨j,hj,hd,rfl⟩:=hm
  obtain rfl : o = .bad r5:=(Option.some.inj HR5.out).symm
  exact ⟨rfl,Kp.tr HK4.out hk,j,hj,hd,rfl⟩
 obtain ⟨v5,j5,rfl,hp,rfl,hR⟩:=hm
 have HK5:=hid (Kp.tr HK4.out hk)
 have HS5:=hid (show (W.heap.size + 1) ≤ w5.heap.size from Nat.le_trans HS4.out (hk).size)
 have HBr5:=hid (Kp.blk' (n:=W.heap.size) HBr4.out hk HNP.out (Nat.le_refl _))
 have HP5:=hid hp
 obtain rfl:=hR
 clear hk hp
 have hl:=HR5.out
 clear HR5
 dsimp only at hl
 have HR5:=hid hl
 clear hl
 clear HK4 HS4 HBr4
 obtain ⟨o6,h6,hr6⟩:=bind_run HR5.out
 have hcall:=Tl.at hq HP5.out h6
 have HC:=hid hcall;have HR6:=hid hr6
 clear hcall h6 hr6 HR5 HP5
 unfold pB at HC
 try unfold methV at HC
 go_wp2_with fail
 ((with_reducible refine HC.out.mono ?_);rintro e w6 ⟨hk,hm⟩)
 clear HC
 rcases o6 with ⟨r6,x6⟩ | ⟨r6⟩
 rotate_left
 ·obtain ⟨j,hj,hd,rfl⟩:=hm
  obtain rfl : o = .bad r6:=(Option.some.inj HR6.out).symm
  exact ⟨rfl,Kp.tr HK5.out hk,j,hj,hd,rfl⟩
 obtain ⟨v6,j6,rfl,hp,rfl,hR⟩:=hm
 have HK6:=hid (Kp.tr HK5.out hk)
 have HS6:=hid (show (W.heap.size + 1) ≤ w6.heap.size from Nat.le_trans HS5.out (hk).size)
 have HBr6:=hid (Kp.blk' (n:=W.heap.size) HBr5.out hk HNP.out (Nat.le_refl _))
 have HP6:=hid hp
 obtain ⟨ax,cx,rfl,hx⟩:=kids_new (n:=(W.heap.size + 1)) hR HS5.out
 have HXx6:=hid hx
 clear hk hp hR hx
 have hl:=HR6.out
 clear HR6
 dsimp only at hl
 have HR6:=hid hl
 clear hl
 clear HK5 HS5 HBr5
 have hrow:=Blk.new w6 32 #[.int .i64 x6.k,.string x6.t,.slice ax x6.kids.len cx]
 have hba : Below w6.heap.size w6 (w6.alloc (.cells #[.int .i64 x6.k,.string x6.t,.slice ax x6.kids.len cx] 32)):=(Below.refl _ _).alloc (Nat.le_refl _) _
 go_wp2_with fail
 ((with_reducible refine (node_calls _ _ _ _ _ _).mono ?_);rintro e w7 ⟨rfl,hbn⟩)
 have hb:=hba.trans (hbn.mono hba.size)
 have hrw:=hrow.own hbn
 have HK7:=hid (Kp.sb HK6.out hb)
 have HS7:=hid (show (W.heap.size + 1) ≤ w7.heap.size from Nat.le_trans HS6.out (hb).size)
 have HBr7:=hid (HBr6.out.own hb)
 have HXx7:=hid (kids_below HXx6.out hb)
 have HP7:=hid (HP6.out.next hb)
 have hx:=row1 HXx7.out hrw HS6.out
 have hfin:=fin_node hE (x:=mk 27 x3 [x6]) H00.out HP7.out HK7.out (Nat.le_refl _) HBr7.out hx
 obtain rfl : o = .ok (E.l.drop j6) (mk 27 x3 [x6]):=(Option.some.inj HR6.out).symm
 have rc0:=HBr7.out.cell 0;have rf0:=HBr7.out.frozen 0
 have rc1:=HBr7.out.cell 1;have rf1:=HBr7.out.frozen 1
 have rc2:=HBr7.out.cell 2;have rf2:=HBr7.out.frozen 2
 have g0:=hfin.1.cell 0;have g1:=hfin.1.cell 1;have g2:=hfin.1.cell 2
 have HF:=hid hfin.2
 simp only [mk,Fo.ofL,Fo.len] at g0 g1 g2
 clear hfin
 go_wp2_with fail
 refine bodyPost_ret (v:=.agg (nV (mk 27 x3 [x6]) (some ⟨w6.heap.size,0,none⟩) 1)) (by simp [results,Tryz.results214,go_sem,g0,g1,g2,mk,Fo.ofL,Fo.len]) rfl ?_
 exact HF.out
theorem negated_tl {E : Env} (hE : EnvOk E) {q : Pa Nd} (hq : Tl E q RN 158 #[pB E,.int .i64 9]) : Tl E (q) RN 213 #[pB E]:=by
 intro W i o hp hr
 rw [← bind_ret q] at hr
 have HNP:=hid hp.far;have H00:=hid hp
 obtain ⟨W0,hW0⟩ : ∃ W0,W.alloc (.cells nodeZ 32) = W0:=⟨_,rfl⟩
 have hb0 : Below W.heap.size W W0:=by rw [← hW0];exact (Below.refl _ W).alloc (Nat.le_refl _) _
 have hk0 : Blk W0 W.heap.size 32 nodeZ:=by rw [← hW0];exact Blk.new W _ _
 have hs0 : W.heap.size + 1 ≤ W0.heap.size:=by rw [← hW0];simp
 have HW0:=hid hW0;have HK0:=hid (Kp.of_below (E:=E) hb0);have HP0:=hid (hp.next hb0);have HS0:=hid hs0;have HR0:=hid hr
 have HBr0:=hid hk0
 clear hW0 hb0 hk0 hs0 hp hr
 unfold pB
 go_enter Tryz.func213,Tryz.ntmps213
 go_upto_region 1 with fail
 rw [HW0.out]
 obtain ⟨o1,h1,hr1⟩:=bind_run HR0.out
 have hcall:=Tl.at hq HP0.out h1
 have HC:=hid hcall;have HR1:=hid hr1
 clear hcall h1 hr1 HR0 HP0
 unfold pB at HC
 try unfold methV at HC
 go_wp2_with fail
 ((with_reducible refine HC.out.mono ?_);rintro e w1 ⟨hk,hm⟩)
 clear HC
 rcases o1 with ⟨r1,x1⟩ | ⟨r1⟩
 rotate_left
 ·obtain ⟨j,hj,hd,rfl⟩:=hm
  obtain rfl : o = .bad r1:=(Option.some.inj HR1.out).symm
  exact ⟨rfl,Kp.tr HK0.out hk,j,hj,hd,rfl⟩
 obtain ⟨v1,j1,rfl,hp,rfl,hR⟩:=hm
 have HK1:=hid (Kp.tr HK0.out hk)
 have HS1:=hid (show (W.heap.size + 1) ≤ w1.heap.size from Nat.le_trans HS0.out (hk).size)
 have HBr1:=hid (Kp.blk' (n:=W.heap.size) HBr0.out hk HNP.out (Nat.le_refl _))
 have HP1:=hid hp
 obtain ⟨ax,cx,rfl,hx⟩:=kids_new (n:=(W.heap.size + 1)) hR HS0.out
 have HXx1:=hid hx
 clear hk hp hR hx
 have hl:=HR1.out
 clear HR1
 dsimp only at hl
 have HR1:=hid hl
 clear hl
 clear HK0 HS0 HBr0
 obtain rfl : o = .ok (E.l.drop j1) x1:=(Option.some.inj HR1.out).symm
 have hfin:=fin_node hE H00.out HP1.out HK1.out (Nat.le_refl _) HBr1.out HXx1.out
 have rc0:=HBr1.out.cell 0;have rf0:=HBr1.out.frozen 0
 have rc1:=HBr1.out.cell 1;have rf1:=HBr1.out.frozen 1
 have rc2:=HBr1.out.cell 2;have rf2:=HBr1.out.frozen 2
 have g0:=hfin.1.cell 0;have g1:=hfin.1.cell 1;have g2:=hfin.1.cell 2
 have HF:=hid hfin.2
 skip
 clear hfin
 go_wp2_with fail
 refine bodyPost_ret (v:=.agg (nV x1 ax cx)) (by simp [results,Tryz.results213,go_sem,g0,g1,g2]) rfl ?_
 exact HF.out
theorem array_tl {E : Env} (hE : EnvOk E) {q : Pa Nd} (hq : Tl E q RN 116 #[pB E,.string rbr]) : Tl E (need lbr (.look fun t=>if op rbr t then .move (.ret (mk 9 eB [])) else q.bind fun x=>.ret (mk 9 eB [x]))) RN 66 #[pB E]:=by
 intro W i o hp hr
 rw [need_bind lbr] at hr
 have HNP:=hid hp.far;have H00:=hid hp
 obtain ⟨W0,hW0⟩ : ∃ W0,W.alloc (.cells nodeZ 32) = W0:=⟨_,rfl⟩
 have hb0 : Below W.heap.size W W0:=by rw [← hW0];exact (Below.refl _ W).alloc (Nat.le_refl _) _
 have hk0 : Blk W0 W.heap.size 32 nodeZ:=by rw [← hW0];exact Blk.new W _ _
 have hs0 : W.heap.size + 1 ≤ W0.heap.size:=by rw [← hW0];simp
 have HW0:=hid hW0;have HK0:=hid (Kp.of_below (E:=E) hb0);have HP0:=hid (hp.next hb0);have HS0:=hid hs0;have HR0:=hid hr
 have HBr0:=hid hk0
 clear hW0 hb0 hk0 hs0 hp hr
 unfold pB
 go_enter Tryz.func66,Tryz.ntmps66
 go_upto_region 1 with fail
 rw [HW0.out]
 go_wp2_with fail
 ((with_reducible refine (op_calls' _ _).mono ?_);rintro e w1 ⟨rfl,hb⟩)
 have HK1:=hid (Kp.sb HK0.out hb)
 have HS1:=hid (show (W.heap.size + 1) ≤ w1.heap.size from Nat.le_trans HS0.out (hb).size)
 have HBr1:=hid (HBr0.out.own hb)
 have HP1:=hid (HP0.out.next hb)
 have HR1:=HR0
 clear HK0 HS0 HBr0
 clear hb HP0 HR0
 obtain ⟨o2,h2,hr2⟩:=bind_run HR1.out
 have hcall:=Tl.at (must_op hE in_lbr) HP1.out h2
 have HC:=hid hcall;have HR2:=hid hr2
 clear hcall h2 hr2 HR1 HP1
 unfold pB at HC
 try unfold methV at HC
 go_wp2_with fail
 ((with_reducible refine HC.out.mono ?_);rintro e w2 ⟨hk,hm⟩)
 clear HC
 rcases o2 with ⟨r2,x2⟩ | ⟨r2⟩
 rotate_left
 ·obtain ⟨j,hj,hd,rfl⟩:=hm
  obtain rfl : o = .bad r2:=(Option.some.inj HR2.out).symm
  exact ⟨rfl,Kp.tr HK1.out hk,j,hj,hd,rfl⟩
 obtain ⟨v2,j2,rfl,hp,rfl,hR⟩:=hm
 have HK2:=hid (Kp.tr HK1.out hk)
 have HS2:=hid (show (W.heap.size + 1) ≤ w2.heap.size from Nat.le_trans HS1.out (hk).size)
 have HBr2:=hid (Kp.blk' (n:=W.heap.size) HBr1.out hk HNP.out (Nat.le_refl _))
 have HP2:=hid hp
 obtain rfl:=hR
 clear hk hp
 have hl:=HR2.out
 clear HR2
 dsimp only at hl
 have HR2:=hid hl
 clear hl
 clear HK1 HS1 HBr1
 have hl:=HR2.out
 clear HR2
 rw [run_look] at hl
 obtain ⟨t,ht⟩ : ∃ t,tk E j2 = t:=⟨_,rfl⟩
 have HNX:=hid (fun W' (hb : Below w2.heap.size w2 W')=>next_calls hE (HP2.out.next hb))
 have hnx:=HNX.out
 clear HNX
 rw [ht] at hnx
 have HNX:=hid hnx
 rw [show tok (E.l.drop j2) = t from ht] at hl
 obtain ⟨c,hc⟩ : ∃ c,op rbr t = c:=⟨_,rfl⟩
 rw [hc] at hl
 have HR2:=hid hl;have HTt:=hid ht;have HCt:=hid hc
 clear hl hnx ht
 have hdc : decide (tk E j2 = (13,rbr)) = c:=by rw [HTt.out];exact same_op hc
 have HDC:=hid hdc
 clear hc hdc HNX
 go_wp2_with fail
 ((with_reducible refine (op_calls' _ _).mono ?_);rintro e w3 ⟨rfl,hb⟩)
 have HK3:=hid (Kp.sb HK2.out hb)
 have HS3:=hid (show (W.heap.size + 1) ≤ w3.heap.size from Nat.le_trans HS2.out (hb).size)
 have HBr3:=hid (HBr2.out.own hb)
 have HP3:=hid (HP2.out.next hb)
 have HR3:=HR2
 clear HK2 HS2 HBr2
 clear hb HP2 HR2
 have htk:=took_calls hE HP3.out (13,rbr) (fun e=>by cases e) c HDC.out
 unfold pB at htk
 have HTK:=hid htk
 clear htk HDC
 cases c with
 | true =>
  have hl:=HR3.out
  clear HR3
  rw [if_yes] at hl
  have HR3:=hid hl
  clear hl
  go_wp2_with fail
  ((with_reducible refine HTK.out.mono ?_);rintro e w4 ⟨rfl,hk,hp⟩)
  have HK4:=hid (Kp.tr HK3.out hk)
  have HS4:=hid (show (W.heap.size + 1) ≤ w4.heap.size from Nat.le_trans HS3.out (hk).size)
  have HBr4:=hid (Kp.blk' (n:=W.heap.size) HBr3.out hk HNP.out (Nat.le_refl _))
  have hl:=HR3.out
  obtain ⟨j4,hj⟩ : ∃ n,j2 + 1 = n:=⟨_,rfl⟩
  have hp2 : Ps E w4 (j2 + 1):=hp
  rw [hj] at hp2
  have HP4:=hid hp2
  rw [run_move,hj] at hl
  have HR4:=hid hl
  clear hp2 hj
  clear HK3 HS3 HBr3
  clear hk hp hl HTK HR3 HP3
  go_wp2_with fail
  ((with_reducible refine (node_calls _ _ _ _ _ _).mono ?_);rintro e w5 ⟨rfl,hbn⟩)
  have hb:=hbn
  have HK5:=hid (Kp.sb HK4.out hb)
  have HS5:=hid (show (W.heap.size + 1) ≤ w5.heap.size from Nat.le_trans HS4.out (hb).size)
  have HBr5:=hid (HBr4.out.own hb)
  have HP5:=hid (HP4.out.next hb)
  have hx:=kids_nil (Fr (W.heap.size + 1) w5) w5 none 0
  have hfin:=fin_node hE (x:=mk 9 eB []) H00.out HP5.out HK5.out (Nat.le_refl _) HBr5.out hx
  obtain rfl : o = .ok (E.l.drop j4) (mk 9 eB []):=(Option.some.inj HR4.out).symm
  have rc0:=HBr5.out.cell 0;have rf0:=HBr5.out.frozen 0
  have rc1:=HBr5.out.cell 1;have rf1:=HBr5.out.frozen 1
  have rc2:=HBr5.out.cell 2;have rf2:=HBr5.out.frozen 2
  have g0:=hfin.1.cell 0;have g1:=hfin.1.cell 1;have g2:=hfin.1.cell 2
  have HF:=hid hfin.2
  simp only [mk,Fo.ofL,Fo.len] at g0 g1 g2
  clear hfin
  go_wp2_with fail
  refine bodyPost_ret (v:=.agg (nV (mk 9 eB []) none 0)) (by simp [results,Tryz.results66,go_sem,g0,g1,g2,mk,Fo.ofL,Fo.len]) rfl ?_
  exact HF.out
 | false =>
  have hl:=HR3.out
  clear HR3
  rw [if_no] at hl
  have HR3:=hid hl
  clear hl
  go_wp2_with fail
  ((with_reducible refine HTK.out.mono ?_);rintro e w4 ⟨rfl,hk,hp⟩)
  have HK4:=hid (Kp.tr HK3.out hk)
  have HS4:=hid (show (W.heap.size + 1) ≤ w4.heap.size from Nat.le_trans HS3.out (hk).size)
  have HBr4:=hid (Kp.blk' (n:=W.heap.size) HBr3.out hk HNP.out (Nat.le_refl _))
  have hl:=HR3.out
  have HP4:=hid (show Ps E w4 j2 from hp)
  have HR4:=hid hl
  clear HK3 HS3 HBr3
  clear hk hp hl HTK HR3 HP3
  obtain ⟨o5,h5,hr5⟩:=bind_run HR4.out
  have hcall:=Tl.at hq HP4.out h5
  have HC:=hid hcall;have HR5:=hid hr5
  clear hcall h5 hr5 HR4 HP4
  unfold pB at HC
  try unfold methV at HC
  go_wp2_with fail
  ((with_reducible refine HC.out.mono ?_);rintro e w5 ⟨hk,hm⟩)
  clear HC
  rcases o5 with ⟨r5,x5⟩ | ⟨r5⟩
  rotate_left
  ·obtain ⟨j,hj,hd,rfl⟩:=hm
   obtain rfl : o = .bad r5:=(Option.some.inj HR5.out).symm
   exact ⟨rfl,Kp.tr HK4.out hk,j,hj,hd,rfl⟩
  obtain ⟨v5,j5,rfl,hp,rfl,hR⟩:=hm
  have HK5:=hid (Kp.tr HK4.out hk)
  have HS5:=hid (show (W.heap.size + 1) ≤ w5.heap.size from Nat.le_trans HS4.out (hk).size)
  have HBr5:=hid (Kp.blk' (n:=W.heap.size) HBr4.out hk HNP.out (Nat.le_refl _))
  have HP5:=hid hp
  obtain ⟨ax,cx,rfl,hx⟩:=kids_new (n:=(W.heap.size + 1)) hR HS4.out
  have HXx5:=hid hx
  clear hk hp hR hx
  have hl:=HR5.out
  clear HR5
  dsimp only at hl
  have HR5:=hid hl
  clear hl
  clear HK4 HS4 HBr4
  have hrow:=Blk.new w5 32 #[.int .i64 x5.k,.string x5.t,.slice ax x5.kids.len cx]
  have hba : Below w5.heap.size w5 (w5.alloc (.cells #[.int .i64 x5.k,.string x5.t,.slice ax x5.kids.len cx] 32)):=(Below.refl _ _).alloc (Nat.le_refl _) _
  go_wp2_with fail
  ((with_reducible refine (node_calls _ _ _ _ _ _).mono ?_);rintro e w6 ⟨rfl,hbn⟩)
  have hb:=hba.trans (hbn.mono hba.size)
  have hrw:=hrow.own hbn
  have HK6:=hid (Kp.sb HK5.out hb)
  have HS6:=hid (show (W.heap.size + 1) ≤ w6.heap.size from Nat.le_trans HS5.out (hb).size)
  have HBr6:=hid (HBr5.out.own hb)
  have HXx6:=hid (kids_below HXx5.out hb)
  have HP6:=hid (HP5.out.next hb)
  have hx:=row1 HXx6.out hrw HS5.out
  have hfin:=fin_node hE (x:=mk 9 eB [x5]) H00.out HP6.out HK6.out (Nat.le_refl _) HBr6.out hx
  obtain rfl : o = .ok (E.l.drop j5) (mk 9 eB [x5]):=(Option.some.inj HR5.out).symm
  have rc0:=HBr6.out.cell 0;have rf0:=HBr6.out.frozen 0
  have rc1:=HBr6.out.cell 1;have rf1:=HBr6.out.frozen 1
  have rc2:=HBr6.out.cell 2;have rf2:=HBr6.out.frozen 2
  have g0:=hfin.1.cell 0;have g1:=hfin.1.cell 1;have g2:=hfin.1.cell 2
  have HF:=hid hfin.2
  simp only [mk,Fo.ofL,Fo.len] at g0 g1 g2
  clear hfin
  go_wp2_with fail
  refine bodyPost_ret (v:=.agg (nV (mk 9 eB [x5]) (some ⟨w5.heap.size,0,none⟩) 1)) (by simp [results,Tryz.results66,go_sem,g0,g1,g2,mk,Fo.ofL,Fo.len]) rfl ?_
  exact HF.out
theorem called_tl {E : Env} (hE : EnvOk E)  : Tl E (.look fun t=>if (t.1 == 5) = true then (cutP 5).bind (fun s=>.ret (mk 4 s [])) else nameP.bind fun s=>.ret (mk 31 s [])) RN 132 #[pB E]:=by
 intro W i o hp hr
 have HNP:=hid hp.far;have H00:=hid hp
 obtain ⟨W0,hW0⟩ : ∃ W0,W.alloc (.cells nodeZ 32) = W0:=⟨_,rfl⟩
 have hb0 : Below W.heap.size W W0:=by rw [← hW0];exact (Below.refl _ W).alloc (Nat.le_refl _) _
 have hk0 : Blk W0 W.heap.size 32 nodeZ:=by rw [← hW0];exact Blk.new W _ _
 have hs0 : W.heap.size + 1 ≤ W0.heap.size:=by rw [← hW0];simp
 have HW0:=hid hW0;have HK0:=hid (Kp.of_below (E:=E) hb0);have HP0:=hid (hp.next hb0);have HS0:=hid hs0;have HR0:=hid hr
 have HBr0:=hid hk0
 clear hW0 hb0 hk0 hs0 hp hr
 unfold pB
 go_enter Tryz.func132,Tryz.ntmps132
 go_upto_region 1 with fail
 rw [HW0.out]
 have hl:=HR0.out
 clear HR0
 rw [run_look] at hl
 obtain ⟨t,ht⟩ : ∃ t,tk E i = t:=⟨_,rfl⟩
 have HNX:=hid (fun W' (hb : Below W0.heap.size W0 W')=>next_calls hE (HP0.out.next hb))
 have hnx:=HNX.out
 clear HNX
 rw [ht] at hnx
 have HNX:=hid hnx
 rw [show tok (E.l.drop i) = t from ht] at hl
 obtain ⟨c,hc⟩ : ∃ c,(t.1 == 5) = c:=⟨_,rfl⟩
 rw [hc] at hl
 have HR0:=hid hl;have HTt:=hid ht;have HCt:=hid hc
 clear hl hnx ht
 have hq1:=field_kindV
 unfold pB at HNX
 go_wp2_with fail
 ((with_reducible refine (HNX.out _ (Below.refl _ _)).mono ?_);rintro e w1 ⟨rfl,hb⟩)
 have HK1:=hid (Kp.sb HK0.out hb)
 have HS1:=hid (show (W.heap.size + 1) ≤ w1.heap.size from Nat.le_trans HS0.out (hb).size)
 have HBr1:=hid (HBr0.out.own hb)
 have HP1:=hid (HP0.out.next hb)
 have HR1:=HR0
 clear HK0 HS0 HBr0
 clear hb HNX HP0 HR0
 cases c with
 | true =>
  have hl:=HR1.out
  clear HR1
  rw [if_yes] at hl
  have HR1:=hid hl
  clear hl
  have hl:=HR1.out
  rw [← bind_ret ((cutP 5).bind _)] at hl
  have HR1:=hid hl
  clear hl
  obtain ⟨o2,h2,hr2⟩:=bind_run HR1.out
  have hcall:=Tl.at (value_tl hE) HP1.out h2
  have HC:=hid hcall;have HR2:=hid hr2
  clear hcall h2 hr2 HR1 HP1
  unfold pB at HC
  try unfold methV at HC
  go_wp2_with fail
  ((with_reducible refine HC.out.mono ?_);rintro e w2 ⟨hk,hm⟩)
  clear HC
  rcases o2 with ⟨r2,x2⟩ | ⟨r2⟩
  rotate_left
  ·obtain ⟨j,hj,hd,rfl⟩:=hm
   obtain rfl : o = .bad r2:=(Option.some.inj HR2.out).symm
   exact ⟨rfl,Kp.tr HK1.out hk,j,hj,hd,rfl⟩
  obtain ⟨v2,j2,rfl,hp,rfl,hR⟩:=hm
  have HK2:=hid (Kp.tr HK1.out hk)
  have HS2:=hid (show (W.heap.size + 1) ≤ w2.heap.size from Nat.le_trans HS1.out (hk).size)
  have HBr2:=hid (Kp.blk' (n:=W.heap.size) HBr1.out hk HNP.out (Nat.le_refl _))
  have HP2:=hid hp
  obtain ⟨ax,cx,rfl,hx⟩:=kids_new (n:=(W.heap.size + 1)) hR HS1.out
  have HXx2:=hid hx
  clear hk hp hR hx
  have hl:=HR2.out
  clear HR2
  dsimp only at hl
  have HR2:=hid hl
  clear hl
  clear HK1 HS1 HBr1
  obtain rfl : o = .ok (E.l.drop j2) x2:=(Option.some.inj HR2.out).symm
  have hfin:=fin_node hE H00.out HP2.out HK2.out (Nat.le_refl _) HBr2.out HXx2.out
  have rc0:=HBr2.out.cell 0;have rf0:=HBr2.out.frozen 0
  have rc1:=HBr2.out.cell 1;have rf1:=HBr2.out.frozen 1
  have rc2:=HBr2.out.cell 2;have rf2:=HBr2.out.frozen 2
  have g0:=hfin.1.cell 0;have g1:=hfin.1.cell 1;have g2:=hfin.1.cell 2
  have HF:=hid hfin.2
  skip
  clear hfin
  go_wp2_with fail
  refine bodyPost_ret (v:=.agg (nV x2 ax cx)) (by simp [results,Tryz.results132,go_sem,g0,g1,g2]) rfl ?_
  exact HF.out
 | false =>
  have hl:=HR1.out
  clear HR1
  rw [if_no] at hl
  have HR1:=hid hl
  clear hl
  obtain ⟨o2,h2,hr2⟩:=bind_run HR1.out
  have hcall:=Tl.at (name_tl hE) HP1.out h2
  have HC:=hid hcall;have HR2:=hid hr2
  clear hcall h2 hr2 HR1 HP1
  unfold pB at HC
  try unfold methV at HC
  go_wp2_with fail
  ((with_reducible refine HC.out.mono ?_);rintro e w2 ⟨hk,hm⟩)
  clear HC
  rcases o2 with ⟨r2,x2⟩ | ⟨r2⟩
  rotate_left
  ·obtain ⟨j,hj,hd,rfl⟩:=hm
   obtain rfl : o = .bad r2:=(Option.some.inj HR2.out).symm
   exact ⟨rfl,Kp.tr HK1.out hk,j,hj,hd,rfl⟩
  obtain ⟨v2,j2,rfl,hp,rfl,hR⟩:=hm
  have HK2:=hid (Kp.tr HK1.out hk)
  have HS2:=hid (show (W.heap.size + 1) ≤ w2.heap.size from Nat.le_trans HS1.out (hk).size)
  have HBr2:=hid (Kp.blk' (n:=W.heap.size) HBr1.out hk HNP.out (Nat.le_refl _))
  have HP2:=hid hp
  obtain rfl:=hR
  clear hk hp
  have hl:=HR2.out
  clear HR2
  dsimp only at hl
  have HR2:=hid hl
  clear hl
  clear HK1 HS1 HBr1
  go_wp2_with fail
  ((with_reducible refine (node_calls _ _ _ _ _ _).mono ?_);rintro e w3 ⟨rfl,hbn⟩)
  have hb:=hbn
  have HK3:=hid (Kp.sb HK2.out hb)
  have HS3:=hid (show (W.heap.size + 1) ≤ w3.heap.size from Nat.le_trans HS2.out (hb).size)
  have HBr3:=hid (HBr2.out.own hb)
  have HP3:=hid (HP2.out.next hb)
  have hx:=kids_nil (Fr (W.heap.size + 1) w3) w3 none 0
  have hfin:=fin_node hE (x:=mk 31 x2 []) H00.out HP3.out HK3.out (Nat.le_refl _) HBr3.out hx
  obtain rfl : o = .ok (E.l.drop j2) (mk 31 x2 []):=(Option.some.inj HR2.out).symm
  have rc0:=HBr3.out.cell 0;have rf0:=HBr3.out.frozen 0
  have rc1:=HBr3.out.cell 1;have rf1:=HBr3.out.frozen 1
  have rc2:=HBr3.out.cell 2;have rf2:=HBr3.out.frozen 2
  have g0:=hfin.1.cell 0;have g1:=hfin.1.cell 1;have g2:=hfin.1.cell 2
  have HF:=hid hfin.2
  simp only [mk,Fo.ofL,Fo.len] at g0 g1 g2
  clear hfin
  go_wp2_with fail
  refine bodyPost_ret (v:=.agg (nV (mk 31 x2 []) none 0)) (by simp [results,Tryz.results132,go_sem,g0,g1,g2,mk,Fo.ofL,Fo.len]) rfl ?_
  exact HF.out
end Go.Proofs.YtlklhkkjcfmefaaGreatDoor.pa
namespace Go.Proofs.YtlklhkkjcfmefaaGreatDoor.lx
open Go.RowKit Go.Shelf
open sg (lst_len extract_drop ext_size)
open sx
theorem turn_err (Lb : Nat) (k : Int) (t : ByteArray) (W : World) (base : Nat) (rest : ByteArray) (x : Lx.Lex) (vO vC vI bv : Value) (h : LexV W Lb base rest x vO vC vI bv) (e' : Int) (ht : Lx.turn x k t.data.toList = .error e') :
  e' = 21 ∧ Calls Tryz.prog 147 #[ptr Lb,.agg #[.int .i64 k,.string t]] W fun e w'=>e = .returned (.int .u16 e') ∧ Below W.heap.size W w':=by
 unfold Lx.turn at ht
 split at ht
 ·cases ht
 ·split at ht
  ·cases ht
  ·split at ht
   ·rename_i hk
    subst hk
    split at ht
    ·rename_i hd
     cases ht
     exact ⟨rfl,turn_deep Lb t W base rest x vO vC vI bv h hd⟩
    ·cases ht
   ·split at ht
    ·cases ht
    ·split at ht <;> cases ht
theorem lastD_eq {α : Type} (l : List α) (h : l ≠ []) (d : α) : l.getLastD d = l.getLast h:=by
 cases l with
 | nil=>exact absurd rfl h
 | cons a r=>rfl
theorem turn_ok (Lb : Nat) (k : Int) (t : ByteArray) (W : World) (base : Nat) (rest : ByteArray) (x y : Lx.Lex) (vO vC vI bv : Value) (h : LexV W Lb base rest x vO vC vI bv) (hbase : base ≤ W.heap.size) (hd : x.below.length ≤ 256) (h10 : k = 10 → x.below ≠ [])
  (ht : Lx.turn x k t.data.toList = .ok y) :
  Calls Tryz.prog 147 #[ptr Lb,.agg #[.int .i64 k,.string t]] W fun e w'=>e = .returned (.int .u16 0) ∧ Turned W Lb base rest y vO vC vI bv w':=by
 unfold Lx.turn at ht
 split at ht
 ·rename_i hk
  cases ht
  exact turn_text Lb k t W base rest x vO vC vI bv h true (.inl ⟨hk,rfl⟩)
 ·rename_i k7
  split at ht
  ·rename_i hk
   cases ht
   exact turn_text Lb k t W base rest x vO vC vI bv h false (.inr ⟨hk,rfl⟩)
  ·rename_i k11
   split at ht
   ·rename_i hk
    subst hk
    split at ht
    ·cases ht
    ·rename_i hn
     cases ht
     exact turn_open Lb t W base rest x vO vC vI bv h (by omega) hbase
   ·rename_i k9
    split at ht
    ·rename_i hk
     subst hk
     cases ht
     have hne:=h10 rfl
     have hx : x.below = x.below.dropLast ++ [x.below.getLast hne]:=(List.dropLast_concat_getLast hne).symm
     rw [lastD_eq _ hne]
     exact turn_close Lb t W base rest x vO vC vI bv h _ _ hx hd
    ·rename_i k10
     split at ht
     ·rename_i hk
      subst hk
      cases ht
      exact turn_op Lb t W base rest x vO vC vI bv h
     ·rename_i k13
      cases ht
      exact (turn_none Lb k t W k7 k11 k9 k10 k13).mono fun e w' ⟨he,hb⟩=>⟨he,bv,h.own hb,But.of_below hb⟩
def triedV (x : Lx.Lex) (vO vC vI : Value) : Value:=if x.top.text then vI else if 0 < x.below.length ∧ x.top.br = 0 then vC else vO
theorem triedV_on {bl : List (Nat × TypeId × Array Value)} {vO vC vI : Value} (x : Lx.Lex) (hO : ShapesOn bl vO Lx.outside) (hC : ShapesOn bl vC Lx.closing) (hI : ShapesOn bl vI Lx.inside) : ShapesOn bl (triedV x vO vC vI) (Lx.tried x):=by
 unfold triedV Lx.tried
 split
 ·exact hI
 ·split
  ·exact hC
  ·exact hO
theorem tried_calls (Lb : Nat) (W : World) (base : Nat) (rest : ByteArray) (x : Lx.Lex) (vO vC vI bv : Value) (h : LexV W Lb base rest x vO vC vI bv) (v : Value) (hv : triedV x vO vC vI = v) :
  Calls Tryz.prog 146 #[ptr Lb] W fun e w'=>e = .returned v ∧ w' = W:=by
 obtain ⟨ao,cap,rfl⟩:=h.slice
 have hdc:=depth_calls Lb _ _ _ _ (h.1.cell 3)
 have c1 : W.cell? ⟨Lb,1,none⟩ = some (.bool x.top.text):=h.1.cell 1
 have c2 : W.cell? ⟨Lb,2,none⟩ = some (.int .i64 x.top.br):=h.1.cell 2
 have c4 : W.cell? ⟨Lb,4,none⟩ = some vO:=h.1.cell 4
 have c5 : W.cell? ⟨Lb,5,none⟩ = some vC:=h.1.cell 5
 have c6 : W.cell? ⟨Lb,6,none⟩ = some vI:=h.1.cell 6
 clear h
 obtain ⟨⟨tx,br⟩,below⟩:=x
 simp only at c1 c2 hdc
 unfold triedV at hv
 simp only at hv
 cases tx with
 | true =>
  rw [if_pos rfl] at hv
  subst hv
  go_enter Tryz.func146,Tryz.ntmps146
  go_wp2_with fail
  go_ret
  exact ⟨rfl,rfl⟩
 | false =>
  rw [if_neg (by decide)] at hv
  obtain ⟨d,hd⟩ : ∃ d,below.length = d:=⟨_,rfl⟩
  rw [hd] at hdc hv
  clear hd
  by_cases h0 : 0 < d
  ·have t0 : decide ((0 : Int) < (d : Int)) = true:=decide_eq_true (by omega)
   by_cases h1 : br = 0
   ·rw [if_pos ⟨h0,h1⟩] at hv
    subst hv
    subst h1
    go_enter Tryz.func146,Tryz.ntmps146
    go_wp2_with fail
    ((with_reducible refine hdc.mono ?_);rintro e w1 ⟨rfl,rfl⟩)
    go_wp2_with fail
    go_ret
    exact ⟨rfl,rfl⟩
   ·rw [if_neg (fun e=>h1 e.2)] at hv
    subst hv
    have t1 : (br == 0) = false:=by rw [beq_eq_false_iff_ne];exact h1
    go_enter Tryz.func146,Tryz.ntmps146
    go_wp2_with fail
    ((with_reducible refine hdc.mono ?_);rintro e w1 ⟨rfl,rfl⟩)
    go_wp2_with fail
    go_ret
    exact ⟨rfl,rfl⟩
  ·rw [if_neg (fun e=>h0 e.1)] at hv
   subst hv
   have t0 : decide ((0 : Int) < (d : Int)) = false:=decide_eq_false (by omega)
   go_enter Tryz.func146,Tryz.ntmps146
   go_wp2_with fail
   ((with_reducible refine hdc.mono ?_);rintro e w1 ⟨rfl,rfl⟩)
   go_wp2_with fail
   go_ret
   exact ⟨rfl,rfl⟩
theorem ended_calls (Lb : Nat) (W : World) (base : Nat) (rest : ByteArray) (x : Lx.Lex) (vO vC vI bv : Value) (h : LexV W Lb base rest x vO vC vI bv) (v : Bool) (hv : Lx.ended x = v) :
  Calls Tryz.prog 98 #[ptr Lb] W fun e w'=>e = .returned (.bool v) ∧ w' = W:=by
 obtain ⟨ao,cap,rfl⟩:=h.slice
 have hdc:=depth_calls Lb _ _ _ _ (h.1.cell 3)
 have c1 : W.cell? ⟨Lb,1,none⟩ = some (.bool x.top.text):=h.1.cell 1
 clear h
 obtain ⟨⟨tx,br⟩,below⟩:=x
 simp only at c1 hdc
 unfold Lx.ended at hv
 simp only at hv
 cases below with
 | nil =>
  have hdc' : Calls Tryz.prog 148 #[.pointer (some ⟨Lb,1,none⟩)] W fun e w'=>e = .returned (.int .i64 0) ∧ w' = W:=hdc
  clear hdc
  subst hv
  go_enter Tryz.func98,Tryz.ntmps98
  go_wp2_with fail
  ((with_reducible refine hdc'.mono ?_);rintro e w1 ⟨rfl,rfl⟩)
  go_wp2_with fail
  go_ret
  exact ⟨by simp,rfl⟩
 | cons a r =>
  obtain ⟨d,hd⟩ : ∃ d,(a :: r).length = d:=⟨_,rfl⟩
  have h0 : d ≠ 0:=by rw [← hd];simp
  rw [hd] at hdc
  have t0 : ((d : Int) == 0) = false:=by rw [beq_eq_false_iff_ne];omega
  have hv' : v = false:=by rw [← hv];rfl
  subst hv'
  clear hd hv
  go_enter Tryz.func98,Tryz.ntmps98
  go_wp2_with fail
  ((with_reducible refine hdc.mono ?_);rintro e w1 ⟨rfl,rfl⟩)
  go_wp2_with fail
  go_ret
  exact ⟨rfl,rfl⟩
end Go.Proofs.YtlklhkkjcfmefaaGreatDoor.lx
