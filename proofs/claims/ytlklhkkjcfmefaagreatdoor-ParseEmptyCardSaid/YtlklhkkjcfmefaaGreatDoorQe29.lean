/- Ground of the law: PaP20. -/
import Derived.Test.YtlklhkkjcfmefaaGreatDoorQe26
import Derived.Test.YtlklhkkjcfmefaaGreatDoorQe18
set_option maxRecDepth 100000
set_option maxHeartbeats 8000000
set_option linter.unusedVariables false
set_option linter.unusedSimpArgs false
namespace Go.Proofs.YtlklhkkjcfmefaaGreatDoor.pa
open Go.Lib (hid)
open Go.RowKit nd pr sx ed
theorem build_br (k1 : Int) (s1 : ByteArray) (a1 : Option Addr) (l1 c1 : Nat) (k2 : Int) (s2 : ByteArray) (a2 : Option Addr) (l2 c2 : Nat) (w : World) : (Instr.build 133 #[(0,.agg #[.int .i64 k1,.string s1,.slice a1 l1 c1]),(1,.agg #[.int .i64 k2,.string s2,.slice a2 l2 c2])]).run Tryz.prog w = .ok (.agg #[.int .i64 k1,.string s1,.slice a1 l1 c1,.int .i64 k2,.string s2,.slice a2 l2 c2]) w:=run_build w _ _ _ (by kernel_rfl)
theorem branch_tl {E : Env} (hE : EnvOk E) {q : Pa Nd} (hq : Tl E q RN 123 #[pB E]) : Tl E (q.bind fun x=>need wthen (q.bind fun y=>.ret (x,y))) RBr 121 #[pB E]:=by
 intro W i o hp hr
 simp only [need_bind wthen] at hr
 have HNP:=hid hp.far;have H00:=hid hp
 obtain ⟨W0,hW0⟩ : ∃ W0,W.alloc (.cells brZ 133) = W0:=⟨_,rfl⟩
 have hb0 : Below W.heap.size W W0:=by rw [← hW0];exact (Below.refl _ W).alloc (Nat.le_refl _) _
 have hk0 : Blk W0 W.heap.size 133 brZ:=by rw [← hW0];exact Blk.new W _ _
 have hs0 : W.heap.size + 1 ≤ W0.heap.size:=by rw [← hW0];simp
 have HW0:=hid hW0;have HK0:=hid (Kp.of_below (E:=E) hb0);have HP0:=hid (hp.next hb0);have HS0:=hid hs0;have HR0:=hid hr
 have HBr0:=hid hk0
 clear hW0 hb0 hk0 hs0 hp hr
 unfold pB
 go_enter Tryz.func121,Tryz.ntmps121
 go_upto_region 1 with fail
 rw [HW0.out]
 obtain ⟨o1,h1,hr1⟩:=bind_run HR0.out
 have hcall:=Tl.at hq HP0.out h1
 have HC:=hid hcall;have HR1:=hid hr1
 clear hcall h1 hr1 HR0 HP0
 unfold pB at HC
 try unfold methV at HC
 go_wp2_with fail
 ((with_reducible refine HC.out.mono ?_);rintro e w1 ⟨hk,hm⟩)
 clear HC
 rcases o1 with ⟨r1,x1⟩ | ⟨r1⟩
 rotate_left
 ·obtain ⟨j,hj,hd,rfl⟩:=hm
  obtain rfl : o = .bad r1:=(Option.some.inj HR1.out).symm
  exact ⟨rfl,Kp.tr HK0.out hk,j,hj,hd,rfl⟩
 obtain ⟨v1,j1,rfl,hp,rfl,hR⟩:=hm
 have HK1:=hid (Kp.tr HK0.out hk)
 have HS1:=hid (show (W.heap.size + 1) ≤ w1.heap.size from Nat.le_trans HS0.out (hk).size)
 have HBr1:=hid (Kp.blk' (n:=W.heap.size) HBr0.out hk HNP.out (Nat.le_refl _))
 have HP1:=hid hp
 obtain ⟨ax,cx,rfl,hx⟩:=kids_new (n:=(W.heap.size + 1)) hR HS0.out
 have HXx1:=hid hx
 clear hk hp hR hx
 have hl:=HR1.out
 clear HR1
 dsimp only at hl
 have HR1:=hid hl
 clear hl
 clear HK0 HS0 HBr0
 go_upto_region 2 with fail
 obtain ⟨w2,hw⟩ : ∃ w',w1.alloc (.cells (nV x1 ax cx) 32) = w':=⟨_,rfl⟩
 rw [hw]
 have hb : Below w1.heap.size w1 w2:=by rw [← hw];exact (Below.refl _ _).alloc (Nat.le_refl _) _
 have HBx2:=hid (show Blk w2 w1.heap.size 32 (nV x1 ax cx) by rw [← hw];exact Blk.new _ _ _)
 have HLx:=hid (show W.heap.size ≤ w1.heap.size by have:=HS1.out;omega);have HNEx:=hid (show W.heap.size < w1.heap.size by have:=HS1.out;omega)
 have HK2:=hid (Kp.sb HK1.out hb)
 have HS2:=hid (show (W.heap.size + 1) ≤ w2.heap.size from Nat.le_trans HS1.out (hb).size)
 have HBr2:=hid (HBr1.out.own hb)
 have HXx2:=hid (kids_below HXx1.out hb)
 have HP2:=hid (HP1.out.next hb)
 have HR2:=HR1
 clear HK1 HS1 HBr1 HXx1
 clear hb hw HP1 HR1
 go_wp2_with fail
 ((with_reducible refine (word_calls' _ _).mono ?_);rintro e w3 ⟨rfl,hb⟩)
 have HK3:=hid (Kp.sb HK2.out hb)
 have HS3:=hid (show (W.heap.size + 1) ≤ w3.heap.size from Nat.le_trans HS2.out (hb).size)
 have HBr3:=hid (HBr2.out.own hb)
 have HBx3:=hid (HBx2.out.own hb)
 have HXx3:=hid (kids_below HXx2.out hb)
 have HP3:=hid (HP2.out.next hb)
 have HR3:=HR2
 clear HK2 HS2 HBr2 HBx2 HXx2
 clear hb HP2 HR2
 obtain ⟨o4,h4,hr4⟩:=bind_run HR3.out
 have hcall:=Tl.at (must_word hE in_wthen) HP3.out h4
 have HC:=hid hcall;have HR4:=hid hr4
 clear hcall h4 hr4 HR3 HP3
 unfold pB at HC
 try unfold methV at HC
 go_wp2_with fail
 ((with_reducible refine HC.out.mono ?_);rintro e w4 ⟨hk,hm⟩)
 clear HC
 rcases o4 with ⟨r4,x4⟩ | ⟨r4⟩
 rotate_left
 ·obtain ⟨j,hj,hd,rfl⟩:=hm
  obtain rfl : o = .bad r4:=(Option.some.inj HR4.out).symm
  exact ⟨rfl,Kp.tr HK3.out hk,j,hj,hd,rfl⟩
 obtain ⟨v4,j4,rfl,hp,rfl,hR⟩:=hm
 have HK4:=hid (Kp.tr HK3.out hk)
 have HS4:=hid (show (W.heap.size + 1) ≤ w4.heap.size from Nat.le_trans HS3.out (hk).size)
 have HBr4:=hid (Kp.blk' (n:=W.heap.size) HBr3.out hk HNP.out (Nat.le_refl _))
 have HBx4:=hid (Kp.blk' (n:=W.heap.size) HBx3.out hk HNP.out HLx.out)
 have HXx4:=hid (kids_kp HXx3.out hk (fun k hk=>HNP.out k (by omega)))
 have HP4:=hid hp
 obtain rfl:=hR
 clear hk hp
 have hl:=HR4.out
 clear HR4
 dsimp only at hl
 have HR4:=hid hl
 clear hl
 clear HK3 HS3 HBr3 HBx3 HXx3
 have hnex : W.heap.size ≠ w1.heap.size:=by have:=HNEx.out;omega
 have hbr:=build_br
 go_upto_region 3 with fail
 have hb:=(Below.refl w4.heap.size w4).drew
 have HK5:=hid (Kp.sb HK4.out hb)
 have HS5:=hid (show (W.heap.size + 1) ≤ w4.drew.heap.size from Nat.le_trans HS4.out (hb).size)
 have HBr5:=hid (HBr4.out.own hb)
 have HBx5:=hid (HBx4.out.own hb)
 have HXx5:=hid (kids_below HXx4.out hb)
 have HP5:=hid (HP4.out.next hb)
 have HR5:=HR4
 clear HK4 HS4 HBr4 HBx4 HXx4
 clear hb HP4 HR4
 have hS0 : C3 w1.heap.size (.int .i64 x1.k) (.string x1.t) (.slice ax x1.kids.len cx) w4.drew:=C3.of HBx5.out
 obtain ⟨o6,h6,hr6⟩:=bind_run HR5.out
 have hcall:=Tl.at hq HP5.out h6
 have HC:=hid hcall;have HR6:=hid hr6
 clear hcall h6 hr6 HR5 HP5
 unfold pB at HC
 try unfold methV at HC
 have yc0:=HBx5.out.cell 0;have yc1:=HBx5.out.cell 1;have yc2:=HBx5.out.cell 2
 go_region_with (first
   | (go_at_call 123;(with_reducible refine HC.out.mono ?_);rintro e w6 ⟨hk,hm⟩;clear HC;rcases o6 with ⟨r6,x6⟩ | ⟨r6⟩;rotate_left;(obtain ⟨j,hj,hd,rfl⟩:=hm;obtain rfl : o = .bad r6:=(Option.some.inj HR6.out).symm;exact ⟨rfl,Kp.tr HK5.out hk,j,hj,hd,rfl⟩);obtain ⟨v6,j6,rfl,hp,rfl,hR⟩:=hm;have HK6:=hid (Kp.tr HK5.out hk);have HS6:=hid (show (W.heap.size + 1) ≤ w6.heap.size from Nat.le_trans HS5.out (hk).size);have HBr6:=hid (Kp.blk' (n:=W.heap.size) HBr5.out hk HNP.out (Nat.le_refl _));have HBx6:=hid (Kp.blk' (n:=W.heap.size) HBx5.out hk HNP.out HLx.out);have HXx6:=hid (kids_kp HXx5.out hk (fun k hk=>HNP.out k (by omega)));have HP6:=hid hp;obtain ⟨ay,cy,rfl,hx⟩:=kids_new (n:=(W.heap.size + 1)) hR HS5.out;have HXy6:=hid hx;clear hk hp hR hx;have hl:=HR6.out;clear HR6;dsimp only at hl;have HR6:=hid hl;clear hl;clear HK5 HS5 HBr5 HBx5 HXx5;have rc0 : w6.cell? ⟨W.heap.size,0,none⟩ = some (.int .i64 0):=HBr6.out.cell 0;have rf0 : w6.frozen? ⟨W.heap.size,0,none⟩ = false:=HBr6.out.frozen 0;have rc1 : w6.cell? ⟨W.heap.size,1,none⟩ = some (.string ⟨#[]⟩):=HBr6.out.cell 1;have rf1 : w6.frozen? ⟨W.heap.size,1,none⟩ = false:=HBr6.out.frozen 1;have rc2 : w6.cell? ⟨W.heap.size,2,none⟩ = some (.slice none 0 0):=HBr6.out.cell 2;have rf2 : w6.frozen? ⟨W.heap.size,2,none⟩ = false:=HBr6.out.frozen 2;have rc3 : w6.cell? ⟨W.heap.size,3,none⟩ = some (.int .i64 0):=HBr6.out.cell 3;have rf3 : w6.frozen? ⟨W.heap.size,3,none⟩ = false:=HBr6.out.frozen 3;have rc4 : w6.cell? ⟨W.heap.size,4,none⟩ = some (.string ⟨#[]⟩):=HBr6.out.cell 4;have rf4 : w6.frozen? ⟨W.heap.size,4,none⟩ = false:=HBr6.out.frozen 4;have rc5 : w6.cell? ⟨W.heap.size,5,none⟩ = some (.slice none 0 0):=HBr6.out.cell 5;have rf5 : w6.frozen? ⟨W.heap.size,5,none⟩ = false:=HBr6.out.frozen 5;have xc0:=HBx6.out.cell 0;have xc1:=HBx6.out.cell 1;have xc2:=HBx6.out.cell 2))
 all_goals
  have hbl:=blk6 HBr6.out (.int .i64 x1.k) (.string x1.t) (.slice ax x1.kids.len cx) (.int .i64 x6.k) (.string x6.t) (.slice ay x6.kids.len cy)
  have hon:=only6 (B:=W.heap.size) w6 (.int .i64 x1.k) (.string x1.t) (.slice ax x1.kids.len cx) (.int .i64 x6.k) (.string x6.t) (.slice ay x6.kids.len cy)
  have g0:=hbl.cell 0
  have g1:=hbl.cell 1
  have g2:=hbl.cell 2
  have g3:=hbl.cell 3
  have g4:=hbl.cell 4
  have g5:=hbl.cell 5
  have HON:=hid hon;clear hbl hon
  go_wp2_with fail
  obtain rfl : o = .ok (E.l.drop j6) (x1,x6):=(Option.some.inj HR6.out).symm
  refine bodyPost_ret (v:=.agg (brV x1 x6 ax cx ay cy)) (by simp [results,Tryz.results121,go_sem,g0,g1,g2,g3,g4,g5]) rfl ?_
  refine ⟨HON.out.kp HK6.out (Nat.le_refl _),_,j6,rfl,HON.out.ps HP6.out (HNP.out _ (Nat.le_refl _)) (fun e=>by have:=H00.out.tlt;omega) H00.out.old.size,rfl,_,_,_,_,rfl,kids_New (HON.out.kids HXx6.out (Nat.lt_succ_self _)) (Nat.le_succ _),kids_New (HON.out.kids HXy6.out (Nat.lt_succ_self _)) (Nat.le_succ _)⟩
theorem en_branch : Enters 121:=enters_of Tryz.func121 (by kernel_rfl) rfl
end Go.Proofs.YtlklhkkjcfmefaaGreatDoor.pa
