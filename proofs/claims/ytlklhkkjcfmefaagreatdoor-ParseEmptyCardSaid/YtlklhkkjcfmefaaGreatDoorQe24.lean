/- Ground of the law: PaP11. -/
import Derived.Test.YtlklhkkjcfmefaaGreatDoorQe23
set_option maxRecDepth 100000
set_option maxHeartbeats 8000000
set_option linter.unusedVariables false
set_option linter.unusedSimpArgs false
namespace Go.Proofs.YtlklhkkjcfmefaaGreatDoor.pa
open Go.Lib (hid)
open Go.RowKit nd pr sx ed
theorem each_tl {E : Env} (hE : EnvOk E) {qf : Pa (List Nd)} (hq : Tl E qf RL 124 #[pB E,.string wforeach]) (hfl : ∀ r r' l,qf.run r = some (.ok r' l) → l.length ≤ 100000000) {q : Pa Nd} (hp2 : Tl E q RN 123 #[pB E]) : Tl E (qf.bind fun l=>.look fun t=>if op semi t then .move (q.bind fun x=>need rpar (.ret (mk 17 eB (l ++ [x])))) else need rpar (.ret (mk 17 eB l))) RN 72 #[pB E]:=by
 intro W i o hp hr
 simp only [need_bind rpar] at hr
 have HFL:=hid hfl;clear hfl
 have HNP:=hid hp.far;have H00:=hid hp
 obtain ⟨W0,hW0⟩ : ∃ W0,W.alloc (.cells nodeZ 32) = W0:=⟨_,rfl⟩
 have hb0 : Below W.heap.size W W0:=by rw [← hW0];exact (Below.refl _ W).alloc (Nat.le_refl _) _
 have hk0 : Blk W0 W.heap.size 32 nodeZ:=by rw [← hW0];exact Blk.new W _ _
 have hs0 : W.heap.size + 1 ≤ W0.heap.size:=by rw [← hW0];simp
 have HW0:=hid hW0;have HK0:=hid (Kp.of_below (E:=E) hb0);have HP0:=hid (hp.next hb0);have HS0:=hid hs0;have HR0:=hid hr
 have HBr0:=hid hk0
 clear hW0 hb0 hk0 hs0 hp hr
 unfold pB
 go_enter Tryz.func72,Tryz.ntmps72
 go_upto_region 1 with fail
 rw [HW0.out]
 obtain ⟨o1,h1,hr1⟩:=bind_run HR0.out
 have hcall:=Tl.at hq HP0.out h1
 have HNOTE:=hid h1
 have HC:=hid hcall;have HR1:=hid hr1
 clear hcall h1 hr1 HR0 HP0
 unfold pB at HC
 try unfold methV at HC
 go_wp2_with fail
 ((with_reducible refine HC.out.mono ?_);rintro e w1 ⟨hk,hm⟩)
 clear HC
 rcases o1 with ⟨r1,x1⟩ | ⟨r1⟩
 rotate_left
 ·obtain ⟨j,hj,hd,rfl⟩:=hm
  obtain rfl : o = .bad r1:=(Option.some.inj HR1.out).symm
  exact ⟨rfl,Kp.tr HK0.out hk,j,hj,hd,rfl⟩
 obtain ⟨v1,j1,rfl,hp,rfl,hR⟩:=hm
 have HK1:=hid (Kp.tr HK0.out hk)
 have HS1:=hid (show (W.heap.size + 1) ≤ w1.heap.size from Nat.le_trans HS0.out (hk).size)
 have HBr1:=hid (Kp.blk' (n:=W.heap.size) HBr0.out hk HNP.out (Nat.le_refl _))
 have HP1:=hid hp
 obtain ⟨al,cl,rfl⟩:=OwnL.slice hR
 have HOl1:=hid (OwnL.mono hR HS0.out)
 clear hk hp hR
 have hl:=HR1.out
 clear HR1
 dsimp only at hl
 have HR1:=hid hl
 clear hl
 clear HK0 HS0 HBr0
 have hll:=HFL.out _ _ _ HNOTE.out
 have HLL:=hid hll;clear hll HNOTE HFL
 have hl:=HR1.out
 clear HR1
 rw [run_look] at hl
 obtain ⟨t,ht⟩ : ∃ t,tk E j1 = t:=⟨_,rfl⟩
 have HNX:=hid (fun W' (hb : Below w1.heap.size w1 W')=>next_calls hE (HP1.out.next hb))
 have hnx:=HNX.out
 clear HNX
 rw [ht] at hnx
 have HNX:=hid hnx
 rw [show tok (E.l.drop j1) = t from ht] at hl
 obtain ⟨c,hc⟩ : ∃ c,op semi t = c:=⟨_,rfl⟩
 rw [hc] at hl
 have HR1:=hid hl;have HTt:=hid ht;have HCt:=hid hc
 clear hl hnx ht
 have hdc : decide (tk E j1 = (13,semi)) = c:=by rw [HTt.out];exact same_op hc
 have HDC:=hid hdc
 clear hc hdc HNX
 go_wp2_with fail
 ((with_reducible refine (op_calls' _ _).mono ?_);rintro e w2 ⟨rfl,hb⟩)
 have HK2:=hid (Kp.sb HK1.out hb)
 have HS2:=hid (show (W.heap.size + 1) ≤ w2.heap.size from Nat.le_trans HS1.out (hb).size)
 have HBr2:=hid (HBr1.out.own hb)
 have HOl2:=hid (OwnL.below HOl1.out hb)
 have HP2:=hid (HP1.out.next hb)
 have HR2:=HR1
 clear HK1 HS1 HBr1 HOl1
 clear hb HP1 HR1
 have htk:=took_calls hE HP2.out (13,semi) (fun e=>by cases e) c HDC.out
 unfold pB at htk
 have HTK:=hid htk
 clear htk HDC
 cases c with
 | true =>
  have hl:=HR2.out
  clear HR2
  rw [if_yes] at hl
  have HR2:=hid hl
  clear hl
  go_wp2_with fail
  ((with_reducible refine HTK.out.mono ?_);rintro e w3 ⟨rfl,hk,hp⟩)
  have HK3:=hid (Kp.tr HK2.out hk)
  have HS3:=hid (show (W.heap.size + 1) ≤ w3.heap.size from Nat.le_trans HS2.out (hk).size)
  have HBr3:=hid (Kp.blk' (n:=W.heap.size) HBr2.out hk HNP.out (Nat.le_refl _))
  have HOl3:=hid (OwnL.kp HOl2.out hk (fun k hk=>HNP.out k (by omega)))
  have hl:=HR2.out
  obtain ⟨j3,hj⟩ : ∃ n,j1 + 1 = n:=⟨_,rfl⟩
  have hp2 : Ps E w3 (j1 + 1):=hp
  rw [hj] at hp2
  have HP3:=hid hp2
  rw [run_move,hj] at hl
  have HR3:=hid hl
  clear hp2 hj
  clear HK2 HS2 HBr2 HOl2
  clear hk hp hl HTK HR2 HP2
  obtain ⟨o4,h4,hr4⟩:=bind_run HR3.out
  have hcall:=Tl.at hp2 HP3.out h4
  have HC:=hid hcall;have HR4:=hid hr4
  clear hcall h4 hr4 HR3 HP3
  unfold pB at HC
  try unfold methV at HC
  go_wp2_with fail
  ((with_reducible refine HC.out.mono ?_);rintro e w4 ⟨hk,hm⟩)
  clear HC
  rcases o4 with ⟨r4,x4⟩ | ⟨r4⟩
  rotate_left
  ·obtain ⟨j,hj,hd,rfl⟩:=hm
   obtain rfl : o = .bad r4:=(Option.some.inj HR4.out).symm
   exact ⟨rfl,Kp.tr HK3.out hk,j,hj,hd,rfl⟩
  obtain ⟨v4,j4,rfl,hp,rfl,hR⟩:=hm
  have HK4:=hid (Kp.tr HK3.out hk)
  have HS4:=hid (show (W.heap.size + 1) ≤ w4.heap.size from Nat.le_trans HS3.out (hk).size)
  have HBr4:=hid (Kp.blk' (n:=W.heap.size) HBr3.out hk HNP.out (Nat.le_refl _))
  have HOl4:=hid (OwnL.kp HOl3.out hk (fun k hk=>HNP.out k (by omega)))
  have HP4:=hid hp
  obtain ⟨sx,rfl,hks⟩:=hR
  obtain ⟨ax,cx,rfl,_⟩:=hks.slice
  have hks2:=hks.keep (S':=Aw (W.heap.size + 1) w4 (.slice al x1.length cl)) (fun k e=>(kids_aux e (HOl3.out) HS3.out)) (fun _ _=>rfl)
  have HAx:=hid hks2
  clear hk hp hks hks2
  have hl:=HR4.out
  clear HR4
  dsimp only at hl
  have HR4:=hid hl
  clear hl
  clear HK3 HS3 HBr3 HOl3
  have hrow:=Blk.new w4 32 (nV x4 ax cx)
  have hba : Below w4.heap.size w4 (w4.alloc (.cells (nV x4 ax cx) 32)):=(Below.refl _ _).alloc (Nat.le_refl _) _
  have HOWN:=hid (HOl4.out.below hba);have HCE:=hid (cells_one (aw_below HAx.out hba));have HROW:=hid hrow
  have HPA:=hid (HP4.out.next hba);have HKA:=hid (Kp.sb HK4.out hba);have HSA:=hid (Nat.le_trans HS4.out hba.size)
  have HBAr:=hid (HBr4.out.own hba)
  clear hrow hba
  go_wp2_with (at_builtin;refine wpList_append_nodes rfl _ _ rfl (W.heap.size + 1) j4 i x1 [x4] _ rfl HOWN.out (by have:=HLL.out;omega) (by simp) w4.heap.size [.int .i64 x4.k,.string x4.t,.slice ax x4.kids.len cx] rfl HROW.out HCE.out HSA.out HPA.out HKA.out (by omega) HNP.out H00.out ?_;intro v' w5 hgrew;obtain ⟨al5,cl5,hv5⟩:=hgrew.own.slice;rw [show (x1 ++ [x4]).length = x1.length + 1 by simp] at hv5;subst hv5;have HG:=hid hgrew;clear hgrew)
  have HK5:=hid HG.out.kp;have HP5:=hid HG.out.ps;have HS5:=hid (Nat.le_trans HSA.out HG.out.size);have HOl5:=hid HG.out.own
  have HBr5:=hid (HG.out.blk _ _ _ HBAr.out (by omega))
  have HR5:=HR4
  clear HK4 HS4 HBr4 HOl4
  clear HOWN HCE HROW HPA HKA HSA HG HR4 HP4 HAx HBAr
  go_wp2_with fail
  ((with_reducible refine (op_calls' _ _).mono ?_);rintro e w6 ⟨rfl,hb⟩)
  have HK6:=hid (Kp.sb HK5.out hb)
  have HS6:=hid (show (W.heap.size + 1) ≤ w6.heap.size from Nat.le_trans HS5.out (hb).size)
  have HBr6:=hid (HBr5.out.own hb)
  have HOl6:=hid (OwnL.below HOl5.out hb)
  have HP6:=hid (HP5.out.next hb)
  have HR6:=HR5
  clear HK5 HS5 HBr5 HOl5
  clear hb HP5 HR5
  obtain ⟨o7,h7,hr7⟩:=bind_run HR6.out
  have hcall:=Tl.at (must_op hE in_rpar) HP6.out h7
  have HC:=hid hcall;have HR7:=hid hr7
  clear hcall h7 hr7 HR6 HP6
  unfold pB at HC
  try unfold methV at HC
  go_wp2_with fail
  ((with_reducible refine HC.out.mono ?_);rintro e w7 ⟨hk,hm⟩)
  clear HC
  rcases o7 with ⟨r7,x7⟩ | ⟨r7⟩
  rotate_left
  ·obtain ⟨j,hj,hd,rfl⟩:=hm
   obtain rfl : o = .bad r7:=(Option.some.inj HR7.out).symm
   exact ⟨rfl,Kp.tr HK6.out hk,j,hj,hd,rfl⟩
  obtain ⟨v7,j7,rfl,hp,rfl,hR⟩:=hm
  have HK7:=hid (Kp.tr HK6.out hk)
  have HS7:=hid (show (W.heap.size + 1) ≤ w7.heap.size from Nat.le_trans HS6.out (hk).size)
  have HBr7:=hid (Kp.blk' (n:=W.heap.size) HBr6.out hk HNP.out (Nat.le_refl _))
  have HOl7:=hid (OwnL.kp HOl6.out hk (fun k hk=>HNP.out k (by omega)))
  have HP7:=hid hp
  obtain rfl:=hR
  clear hk hp
  have hl:=HR7.out
  clear HR7
  dsimp only at hl
  have HR7:=hid hl
  clear hl
  clear HK6 HS6 HBr6 HOl6
  go_wp2_with fail
  ((with_reducible refine (node_calls _ _ _ _ _ _).mono ?_);rintro e w8 ⟨rfl,hb⟩)
  have HK8:=hid (Kp.sb HK7.out hb)
  have HS8:=hid (show (W.heap.size + 1) ≤ w8.heap.size from Nat.le_trans HS7.out (hb).size)
  have HBr8:=hid (HBr7.out.own hb)
  have HOl8:=hid (OwnL.below HOl7.out hb)
  have HP8:=hid (HP7.out.next hb)
  have hx:=HOl8.out.kids
  have hx2 : KidsAt (Fr (W.heap.size + 1) w8) w8 (mk 17 eB (x1 ++ [x4])).kids (.slice al5 (mk 17 eB (x1 ++ [x4])).kids.len cl5):=by rw [show (mk 17 eB (x1 ++ [x4])).kids.len = (x1.length + 1) from (Fo.ofL_len _).trans (by simp)];exact hx
  have hfin:=fin_node hE (x:=(mk 17 eB (x1 ++ [x4]))) H00.out HP8.out HK8.out (Nat.le_refl _) HBr8.out hx2
  obtain rfl : o = .ok (E.l.drop j7) (mk 17 eB (x1 ++ [x4])):=(Option.some.inj HR7.out).symm
  have rc0:=HBr8.out.cell 0;have rf0:=HBr8.out.frozen 0
  have rc1:=HBr8.out.cell 1;have rf1:=HBr8.out.frozen 1
  have rc2:=HBr8.out.cell 2;have rf2:=HBr8.out.frozen 2
  have hln : (mk 17 eB (x1 ++ [x4])).kids.len = (x1.length + 1):=(Fo.ofL_len _).trans (by simp)
  have g0:=hfin.1.cell 0;have g1:=hfin.1.cell 1;have g2 : _ = some (Value.slice al5 (mk 17 eB (x1 ++ [x4])).kids.len cl5):=hfin.1.cell 2
  have hF2:=hfin.2
  dsimp only [nV] at hF2
  rw [hln] at hF2 g0 g1 g2
  simp only [mk] at g0 g1 g2
  have HF:=hid hF2
  clear hfin hx hx2 hln hF2
  go_wp2_with fail
  refine bodyPost_ret (v:=.agg #[.int .i64 17,.string eB,.slice al5 (x1.length + 1) cl5]) (by simp [results,Tryz.results72,go_sem,g0,g1,g2]) rfl ?_
  exact HF.out
 | false =>
  have hl:=HR2.out
  clear HR2
  rw [if_no] at hl
  have HR2:=hid hl
  clear hl
  go_wp2_with fail
  ((with_reducible refine HTK.out.mono ?_);rintro e w3 ⟨rfl,hk,hp⟩)
  have HK3:=hid (Kp.tr HK2.out hk)
  have HS3:=hid (show (W.heap.size + 1) ≤ w3.heap.size from Nat.le_trans HS2.out (hk).size)
  have HBr3:=hid (Kp.blk' (n:=W.heap.size) HBr2.out hk HNP.out (Nat.le_refl _))
  have HOl3:=hid (OwnL.kp HOl2.out hk (fun k hk=>HNP.out k (by omega)))
  have hl:=HR2.out
  have HP3:=hid (show Ps E w3 j1 from hp)
  have HR3:=hid hl
  clear HK2 HS2 HBr2 HOl2
  clear hk hp hl HTK HR2 HP2
  go_wp2_with fail
  ((with_reducible refine (op_calls' _ _).mono ?_);rintro e w4 ⟨rfl,hb⟩)
  have HK4:=hid (Kp.sb HK3.out hb)
  have HS4:=hid (show (W.heap.size + 1) ≤ w4.heap.size from Nat.le_trans HS3.out (hb).size)
  have HBr4:=hid (HBr3.out.own hb)
  have HOl4:=hid (OwnL.below HOl3.out hb)
  have HP4:=hid (HP3.out.next hb)
  have HR4:=HR3
  clear HK3 HS3 HBr3 HOl3
  clear hb HP3 HR3
  obtain ⟨o5,h5,hr5⟩:=bind_run HR4.out
  have hcall:=Tl.at (must_op hE in_rpar) HP4.out h5
  have HC:=hid hcall;have HR5:=hid hr5
  clear hcall h5 hr5 HR4 HP4
  unfold pB at HC
  try unfold methV at HC
  go_wp2_with fail
  ((with_reducible refine HC.out.mono ?_);rintro e w5 ⟨hk,hm⟩)
  clear HC
  rcases o5 with ⟨r5,x5⟩ | ⟨r5⟩
  rotate_left
  ·obtain ⟨j,hj,hd,rfl⟩:=hm
   obtain rfl : o = .bad r5:=(Option.some.inj HR5.out).symm
   exact ⟨rfl,Kp.tr HK4.out hk,j,hj,hd,rfl⟩
  obtain ⟨v5,j5,rfl,hp,rfl,hR⟩:=hm
  have HK5:=hid (Kp.tr HK4.out hk)
  have HS5:=hid (show (W.heap.size + 1) ≤ w5.heap.size from Nat.le_trans HS4.out (hk).size)
  have HBr5:=hid (Kp.blk' (n:=W.heap.size) HBr4.out hk HNP.out (Nat.le_refl _))
  have HOl5:=hid (OwnL.kp HOl4.out hk (fun k hk=>HNP.out k (by omega)))
  have HP5:=hid hp
  obtain rfl:=hR
  clear hk hp
  have hl:=HR5.out
  clear HR5
  dsimp only at hl
  have HR5:=hid hl
  clear hl
  clear HK4 HS4 HBr4 HOl4
  go_wp2_with fail
  ((with_reducible refine (node_calls _ _ _ _ _ _).mono ?_);rintro e w6 ⟨rfl,hb⟩)
  have HK6:=hid (Kp.sb HK5.out hb)
  have HS6:=hid (show (W.heap.size + 1) ≤ w6.heap.size from Nat.le_trans HS5.out (hb).size)
  have HBr6:=hid (HBr5.out.own hb)
  have HOl6:=hid (OwnL.below HOl5.out hb)
  have HP6:=hid (HP5.out.next hb)
  have hx:=HOl6.out.kids
  have hx2 : KidsAt (Fr (W.heap.size + 1) w6) w6 (mk 17 eB x1).kids (.slice al (mk 17 eB x1).kids.len cl):=by rw [show (mk 17 eB x1).kids.len = x1.length from (Fo.ofL_len _).trans (by simp)];exact hx
  have hfin:=fin_node hE (x:=(mk 17 eB x1)) H00.out HP6.out HK6.out (Nat.le_refl _) HBr6.out hx2
  obtain rfl : o = .ok (E.l.drop j5) (mk 17 eB x1):=(Option.some.inj HR5.out).symm
  have rc0:=HBr6.out.cell 0;have rf0:=HBr6.out.frozen 0
  have rc1:=HBr6.out.cell 1;have rf1:=HBr6.out.frozen 1
  have rc2:=HBr6.out.cell 2;have rf2:=HBr6.out.frozen 2
  have hln : (mk 17 eB x1).kids.len = x1.length:=(Fo.ofL_len _).trans (by simp)
  have g0:=hfin.1.cell 0;have g1:=hfin.1.cell 1;have g2 : _ = some (Value.slice al (mk 17 eB x1).kids.len cl):=hfin.1.cell 2
  have hF2:=hfin.2
  dsimp only [nV] at hF2
  rw [hln] at hF2 g0 g1 g2
  simp only [mk] at g0 g1 g2
  have HF:=hid hF2
  clear hfin hx hx2 hln hF2
  go_wp2_with fail
  refine bodyPost_ret (v:=.agg #[.int .i64 17,.string eB,.slice al x1.length cl]) (by simp [results,Tryz.results72,go_sem,g0,g1,g2]) rfl ?_
  exact HF.out
theorem try_tl {E : Env} (hE : EnvOk E) {q : Pa Nd} (hq : Tl E q RN 159 #[pB E]) : Tl E (need wtry (q.bind fun x=>.look fun u=>if word wcatch u then .move (q.bind fun y=>.ret (mk 15 eB [x,y])) else .ret (mk 15 eB [x]))) RN 215 #[pB E]:=by
 intro W i o hp hr
 rw [need_bind wtry] at hr
 have HNP:=hid hp.far;have H00:=hid hp
 obtain ⟨W0,hW0⟩ : ∃ W0,W.alloc (.cells nodeZ 32) = W0:=⟨_,rfl⟩
 have hb0 : Below W.heap.size W W0:=by rw [← hW0];exact (Below.refl _ W).alloc (Nat.le_refl _) _
 have hk0 : Blk W0 W.heap.size 32 nodeZ:=by rw [← hW0];exact Blk.new W _ _
 have hs0 : W.heap.size + 1 ≤ W0.heap.size:=by rw [← hW0];simp
 have HW0:=hid hW0;have HK0:=hid (Kp.of_below (E:=E) hb0);have HP0:=hid (hp.next hb0);have HS0:=hid hs0;have HR0:=hid hr
 have HBr0:=hid hk0
 clear hW0 hb0 hk0 hs0 hp hr
 unfold pB
 go_enter Tryz.func215,Tryz.ntmps215
 go_upto_region 1 with fail
 rw [HW0.out]
 go_wp2_with fail
 ((with_reducible refine (word_calls' _ _).mono ?_);rintro e w1 ⟨rfl,hb⟩)
 have HK1:=hid (Kp.sb HK0.out hb)
 have HS1:=hid (show (W.heap.size + 1) ≤ w1.heap.size from Nat.le_trans HS0.out (hb).size)
 have HBr1:=hid (HBr0.out.own hb)
 have HP1:=hid (HP0.out.next hb)
 have HR1:=HR0
 clear HK0 HS0 HBr0
 clear hb HP0 HR0
 obtain ⟨o2,h2,hr2⟩:=bind_run HR1.out
 have hcall:=Tl.at (must_word hE in_wtry) HP1.out h2
 have HC:=hid hcall;have HR2:=hid hr2
 clear hcall h2 hr2 HR1 HP1
 unfold pB at HC
 try unfold methV at HC
 go_wp2_with fail
 ((with_reducible refine HC.out.mono ?_);rintro e w2 ⟨hk,hm⟩)
 clear HC
 rcases o2 with ⟨r2,x2⟩ | ⟨r2⟩
 rotate_left
 ·obtain ⟨j,hj,hd,rfl⟩:=hm
  obtain rfl : o = .bad r2:=(Option.some.inj HR2.out).symm
  exact ⟨rfl,Kp.tr HK1.out hk,j,hj,hd,rfl⟩
 obtain ⟨v2,j2,rfl,hp,rfl,hR⟩:=hm
 have HK2:=hid (Kp.tr HK1.out hk)
 have HS2:=hid (show (W.heap.size + 1) ≤ w2.heap.size from Nat.le_trans HS1.out (hk).size)
 have HBr2:=hid (Kp.blk' (n:=W.heap.size) HBr1.out hk HNP.out (Nat.le_refl _))
 have HP2:=hid hp
 obtain rfl:=hR
 clear hk hp
 have hl:=HR2.out
 clear HR2
 dsimp only at hl
 have HR2:=hid hl
 clear hl
 clear HK1 HS1 HBr1
 obtain ⟨o3,h3,hr3⟩:=bind_run HR2.out
 have hcall:=Tl.at hq HP2.out h3
 have HC:=hid hcall;have HR3:=hid hr3
 clear hcall h3 hr3 HR2 HP2
 unfold pB at HC
 try unfold methV at HC
 go_wp2_with fail
 ((with_reducible refine HC.out.mono ?_);rintro e w3 ⟨hk,hm⟩)
 clear HC
 rcases o3 with ⟨r3,x3⟩ | ⟨r3⟩
 rotate_left
 ·obtain ⟨j,hj,hd,rfl⟩:=hm
  obtain rfl : o = .bad r3:=(Option.some.inj HR3.out).symm
  exact ⟨rfl,Kp.tr HK2.out hk,j,hj,hd,rfl⟩
 obtain ⟨v3,j3,rfl,hp,rfl,hR⟩:=hm
 have HK3:=hid (Kp.tr HK2.out hk)
 have HS3:=hid (show (W.heap.size + 1) ≤ w3.heap.size from Nat.le_trans HS2.out (hk).size)
 have HBr3:=hid (Kp.blk' (n:=W.heap.size) HBr2.out hk HNP.out (Nat.le_refl _))
 have HP3:=hid hp
 obtain ⟨ax,cx,rfl,hx⟩:=kids_new (n:=(W.heap.size + 1)) hR HS2.out
 have HXx3:=hid hx
 clear hk hp hR hx
 have hl:=HR3.out
 clear HR3
 dsimp only at hl
 have HR3:=hid hl
 clear hl
 clear HK2 HS2 HBr2
 have hrow:=Blk.new w3 32 (nV x3 ax cx)
 have hba : Below w3.heap.size w3 (w3.alloc (.cells (nV x3 ax cx) 32)):=(Below.refl _ _).alloc (Nat.le_refl _) _
 have hown : OwnL (W.heap.size + 1) (w3.alloc (.cells (nV x3 ax cx) 32)) [x3] (.slice (some ⟨w3.heap.size,0,none⟩) 1 1):=own_made (l:=[x3]) (cells_one (HXx3.out.keep (fun k e=>⟨e.1,Nat.lt_of_lt_of_le e.2 hba.size,fun e'=>by cases e';exact Nat.lt_irrefl _ e.2⟩) (fun k e=>hba.block k e.2))) hrow HS3.out (by unfold maxLen;simp)
 go_upto_region 3 with fail
 obtain ⟨w4,hw⟩ : ∃ w',w3.alloc (.cells (nV x3 ax cx) 32) = w':=⟨_,rfl⟩
 rw [hw] at hba hown ⊢
 have HOl4:=hid hown;have hb:=hba
 have HK4:=hid (Kp.sb HK3.out hb)
 have HS4:=hid (show (W.heap.size + 1) ≤ w4.heap.size from Nat.le_trans HS3.out (hb).size)
 have HBr4:=hid (HBr3.out.own hb)
 have HP4:=hid (HP3.out.next hb)
 have HR4:=HR3
 clear HK3 HS3 HBr3
 clear hb hba hw hrow hown HP3 HR3 HXx3
 have hl:=HR4.out
 clear HR4
 rw [run_look] at hl
 obtain ⟨t,ht⟩ : ∃ t,tk E j3 = t:=⟨_,rfl⟩
 have HNX:=hid (fun W' (hb : Below w4.heap.size w4 W')=>next_calls hE (HP4.out.next hb))
 have hnx:=HNX.out
 clear HNX
 rw [ht] at hnx
 have HNX:=hid hnx
 rw [show tok (E.l.drop j3) = t from ht] at hl
 obtain ⟨c,hc⟩ : ∃ c,word wcatch t = c:=⟨_,rfl⟩
 rw [hc] at hl
 have HR4:=hid hl;have HTt:=hid ht;have HCt:=hid hc
 clear hl hnx ht
 have hdc : decide (tk E j3 = (3,wcatch)) = c:=by rw [HTt.out];exact same_word hc
 have HDC:=hid hdc
 clear hc hdc HNX
 go_wp2_with fail
 ((with_reducible refine (word_calls' _ _).mono ?_);rintro e w5 ⟨rfl,hb⟩)
 have HK5:=hid (Kp.sb HK4.out hb)
 have HS5:=hid (show (W.heap.size + 1) ≤ w5.heap.size from Nat.le_trans HS4.out (hb).size)
 have HBr5:=hid (HBr4.out.own hb)
 have HOl5:=hid (OwnL.below HOl4.out hb)
 have HP5:=hid (HP4.out.next hb)
 have HR5:=HR4
 clear HK4 HS4 HBr4 HOl4
 clear hb HP4 HR4
 have htk:=took_calls hE HP5.out (3,wcatch) (fun e=>by cases e) c HDC.out
 unfold pB at htk
 have HTK:=hid htk
 clear htk HDC
 cases c with
 | true =>
  have hl:=HR5.out
  clear HR5
  rw [if_yes] at hl
  have HR5:=hid hl
  clear hl
  go_wp2_with fail
  ((with_reducible refine HTK.out.mono ?_);rintro e w6 ⟨rfl,hk,hp⟩)
  have HK6:=hid (Kp.tr HK5.out hk)
  have HS6:=hid (show (W.heap.size + 1) ≤ w6.heap.size from Nat.le_trans HS5.out (hk).size)
  have HBr6:=hid (Kp.blk' (n:=W.heap.size) HBr5.out hk HNP.out (Nat.le_refl _))
  have HOl6:=hid (OwnL.kp HOl5.out hk (fun k hk=>HNP.out k (by omega)))
  have hl:=HR5.out
  obtain ⟨j6,hj⟩ : ∃ n,j3 + 1 = n:=⟨_,rfl⟩
  have hp2 : Ps E w6 (j3 + 1):=hp
  rw [hj] at hp2
  have HP6:=hid hp2
  rw [run_move,hj] at hl
  have HR6:=hid hl
  clear hp2 hj
  clear HK5 HS5 HBr5 HOl5
  clear hk hp hl HTK HR5 HP5
  obtain ⟨o7,h7,hr7⟩:=bind_run HR6.out
  have hcall:=Tl.at hq HP6.out h7
  have HC:=hid hcall;have HR7:=hid hr7
  clear hcall h7 hr7 HR6 HP6
  unfold pB at HC
  try unfold methV at HC
  go_wp2_with fail
  ((with_reducible refine HC.out.mono ?_);rintro e w7 ⟨hk,hm⟩)
  clear HC
  rcases o7 with ⟨r7,x7⟩ | ⟨r7⟩
  rotate_left
  ·obtain ⟨j,hj,hd,rfl⟩:=hm
   obtain rfl : o = .bad r7:=(Option.some.inj HR7.out).symm
   exact ⟨rfl,Kp.tr HK6.out hk,j,hj,hd,rfl⟩
  obtain ⟨v7,j7,rfl,hp,rfl,hR⟩:=hm
  have HK7:=hid (Kp.tr HK6.out hk)
  have HS7:=hid (show (W.heap.size + 1) ≤ w7.heap.size from Nat.le_trans HS6.out (hk).size)
  have HBr7:=hid (Kp.blk' (n:=W.heap.size) HBr6.out hk HNP.out (Nat.le_refl _))
  have HOl7:=hid (OwnL.kp HOl6.out hk (fun k hk=>HNP.out k (by omega)))
  have HP7:=hid hp
  obtain ⟨sy,rfl,hks⟩:=hR
  obtain ⟨ay,cy,rfl,_⟩:=hks.slice
  have hks2:=hks.keep (S':=Aw (W.heap.size + 1) w7 (.slice (some ⟨w3.heap.size,0,none⟩) 1 1)) (fun k e=>(kids_aux e (HOl6.out) HS6.out)) (fun _ _=>rfl)
  have HAy:=hid hks2
  clear hk hp hks hks2
  have hl:=HR7.out
  clear HR7
  dsimp only at hl
  have HR7:=hid hl
  clear hl
  clear HK6 HS6 HBr6 HOl6
  have hrow:=Blk.new w7 32 (nV x7 ay cy)
  have hba : Below w7.heap.size w7 (w7.alloc (.cells (nV x7 ay cy) 32)):=(Below.refl _ _).alloc (Nat.le_refl _) _
  have HOWN:=hid (HOl7.out.below hba);have HCE:=hid (cells_one (aw_below HAy.out hba));have HROW:=hid hrow
  have HPA:=hid (HP7.out.next hba);have HKA:=hid (Kp.sb HK7.out hba);have HSA:=hid (Nat.le_trans HS7.out hba.size)
  have HBAr:=hid (HBr7.out.own hba)
  clear hrow hba
  go_wp2_with (at_builtin;refine wpList_append_nodes rfl _ _ rfl (W.heap.size + 1) j7 i [x3] [x7] _ rfl HOWN.out (by simp) (by simp) w7.heap.size [.int .i64 x7.k,.string x7.t,.slice ay x7.kids.len cy] rfl HROW.out HCE.out HSA.out HPA.out HKA.out (by omega) HNP.out H00.out ?_;intro v' w8 hgrew;obtain ⟨al8,cl8,hv5⟩:=hgrew.own.slice;rw [show ([x3] ++ [x7]).length = 1 + 1 by simp] at hv5;subst hv5;have HG:=hid hgrew;clear hgrew)
  have HK8:=hid HG.out.kp;have HP8:=hid HG.out.ps;have HS8:=hid (Nat.le_trans HSA.out HG.out.size);have HOl8:=hid HG.out.own
  have HBr8:=hid (HG.out.blk _ _ _ HBAr.out (by omega))
  have HR8:=HR7
  clear HK7 HS7 HBr7 HOl7
  clear HOWN HCE HROW HPA HKA HSA HG HR7 HP7 HAy HBAr
  go_wp2_with fail
  ((with_reducible refine (node_calls _ _ _ _ _ _).mono ?_);rintro e w9 ⟨rfl,hb⟩)
  have HK9:=hid (Kp.sb HK8.out hb)
  have HS9:=hid (show (W.heap.size + 1) ≤ w9.heap.size from Nat.le_trans HS8.out (hb).size)
  have HBr9:=hid (HBr8.out.own hb)
  have HOl9:=hid (OwnL.below HOl8.out hb)
  have HP9:=hid (HP8.out.next hb)
  have hx:=HOl9.out.kids
  have hx2 : KidsAt (Fr (W.heap.size + 1) w9) w9 (mk 15 eB ([x3] ++ [x7])).kids (.slice al8 (mk 15 eB ([x3] ++ [x7])).kids.len cl8):=by rw [show (mk 15 eB ([x3] ++ [x7])).kids.len = (1 + 1) from (Fo.ofL_len _).trans (by simp)];exact hx
  have hfin:=fin_node hE (x:=(mk 15 eB ([x3] ++ [x7]))) H00.out HP9.out HK9.out (Nat.le_refl _) HBr9.out hx2
  obtain rfl : o = .ok (E.l.drop j7) (mk 15 eB ([x3] ++ [x7])):=(Option.some.inj HR8.out).symm
  have rc0:=HBr9.out.cell 0;have rf0:=HBr9.out.frozen 0
  have rc1:=HBr9.out.cell 1;have rf1:=HBr9.out.frozen 1
  have rc2:=HBr9.out.cell 2;have rf2:=HBr9.out.frozen 2
  have hln : (mk 15 eB ([x3] ++ [x7])).kids.len = (1 + 1):=(Fo.ofL_len _).trans (by simp)
  have g0:=hfin.1.cell 0;have g1:=hfin.1.cell 1;have g2 : _ = some (Value.slice al8 (mk 15 eB ([x3] ++ [x7])).kids.len cl8):=hfin.1.cell 2
  have hF2:=hfin.2
  dsimp only [nV] at hF2
  rw [hln] at hF2 g0 g1 g2
  simp only [mk] at g0 g1 g2
  have HF:=hid hF2
  clear hfin hx hx2 hln hF2
  go_wp2_with fail
  refine bodyPost_ret (v:=.agg #[.int .i64 15,.string eB,.slice al8 (1 + 1) cl8]) (by simp [results,Tryz.results215,go_sem,g0,g1,g2]) rfl ?_
  exact HF.out
 | false =>
  have hl:=HR5.out
  clear HR5
  rw [if_no] at hl
  have HR5:=hid hl
  clear hl
  go_wp2_with fail
  ((with_reducible refine HTK.out.mono ?_);rintro e w6 ⟨rfl,hk,hp⟩)
  have HK6:=hid (Kp.tr HK5.out hk)
  have HS6:=hid (show (W.heap.size + 1) ≤ w6.heap.size from Nat.le_trans HS5.out (hk).size)
  have HBr6:=hid (Kp.blk' (n:=W.heap.size) HBr5.out hk HNP.out (Nat.le_refl _))
  have HOl6:=hid (OwnL.kp HOl5.out hk (fun k hk=>HNP.out k (by omega)))
  have hl:=HR5.out
  have HP6:=hid (show Ps E w6 j3 from hp)
  have HR6:=hid hl
  clear HK5 HS5 HBr5 HOl5
  clear hk hp hl HTK HR5 HP5
  go_wp2_with fail
  ((with_reducible refine (node_calls _ _ _ _ _ _).mono ?_);rintro e w7 ⟨rfl,hb⟩)
  have HK7:=hid (Kp.sb HK6.out hb)
  have HS7:=hid (show (W.heap.size + 1) ≤ w7.heap.size from Nat.le_trans HS6.out (hb).size)
  have HBr7:=hid (HBr6.out.own hb)
  have HOl7:=hid (OwnL.below HOl6.out hb)
  have HP7:=hid (HP6.out.next hb)
  have hx:=HOl7.out.kids
  have hx2 : KidsAt (Fr (W.heap.size + 1) w7) w7 (mk 15 eB [x3]).kids (.slice (some ⟨w3.heap.size,0,none⟩) (mk 15 eB [x3]).kids.len 1):=by rw [show (mk 15 eB [x3]).kids.len = 1 from (Fo.ofL_len _).trans (by simp)];exact hx
  have hfin:=fin_node hE (x:=(mk 15 eB [x3])) H00.out HP7.out HK7.out (Nat.le_refl _) HBr7.out hx2
  obtain rfl : o = .ok (E.l.drop j3) (mk 15 eB [x3]):=(Option.some.inj HR6.out).symm
  have rc0:=HBr7.out.cell 0;have rf0:=HBr7.out.frozen 0
  have rc1:=HBr7.out.cell 1;have rf1:=HBr7.out.frozen 1
  have rc2:=HBr7.out.cell 2;have rf2:=HBr7.out.frozen 2
  have hln : (mk 15 eB [x3]).kids.len = 1:=(Fo.ofL_len _).trans (by simp)
  have g0:=hfin.1.cell 0;have g1:=hfin.1.cell 1;have g2 : _ = some (Value.slice (some ⟨w3.heap.size,0,none⟩) (mk 15 eB [x3]).kids.len 1):=hfin.1.cell 2
  have hF2:=hfin.2
  dsimp only [nV] at hF2
  rw [hln] at hF2 g0 g1 g2
  simp only [mk] at g0 g1 g2
  have HF:=hid hF2
  clear hfin hx hx2 hln hF2
  go_wp2_with fail
  refine bodyPost_ret (v:=.agg #[.int .i64 15,.string eB,.slice (some ⟨w3.heap.size,0,none⟩) 1 1]) (by simp [results,Tryz.results215,go_sem,g0,g1,g2]) rfl ?_
  exact HF.out
theorem bring_tl {E : Env} (hE : EnvOk E) {qp qc : Pa Nd} (hq : Tl E qp RN 131 #[pB E]) (hc2 : Tl E qc RN 132 #[pB E]) : Tl E (.look fun t=>if t.1 = 0 then .out else .move (qp.bind fun x=>if t.2 = wimport then need was (qc.bind fun y=>need semi (.ret (mk 33 t.2 [x,y]))) else need semi (.ret (mk 33 t.2 [x])))) RN 81 #[pB E]:=by
 intro W i o hp hr
 simp only [need_bind was,need_bind semi] at hr
 have HNP:=hid hp.far;have H00:=hid hp
 obtain ⟨W0,hW0⟩ : ∃ W0,W.alloc (.cells nodeZ 32) = W0:=⟨_,rfl⟩
 have hb0 : Below W.heap.size W W0:=by rw [← hW0];exact (Below.refl _ W).alloc (Nat.le_refl _) _
 have hk0 : Blk W0 W.heap.size 32 nodeZ:=by rw [← hW0];exact Blk.new W _ _
 have hs0 : W.heap.size + 1 ≤ W0.heap.size:=by rw [← hW0];simp
 have HW0:=hid hW0;have HK0:=hid (Kp.of_below (E:=E) hb0);have HP0:=hid (hp.next hb0);have HS0:=hid hs0;have HR0:=hid hr
 have HBr0:=hid hk0
 clear hW0 hb0 hk0 hs0 hp hr
 unfold pB
 go_enter Tryz.func81,Tryz.ntmps81
 go_upto_region 1 with fail
 rw [HW0.out]
 have hl:=HR0.out
 clear HR0
 rw [run_look] at hl
 obtain ⟨t,ht⟩ : ∃ t,tk E i = t:=⟨_,rfl⟩
 rw [show tok (E.l.drop i) = t from ht] at hl
 have hk0 : t.1 ≠ 0:=fun e=>by rw [if_pos e] at hl;cases hl
 rw [if_neg hk0] at hl
 have HTt:=hid ht;have HK0t:=hid hk0
 have HR0:=hid hl
 clear hl ht hk0
 have htk:=take_calls hE HP0.out (tok_lt HTt.out HK0t.out)
 rw [HTt.out] at htk
 unfold pB at htk
 have HTK:=hid htk
 clear htk
 go_wp2_with fail
 ((with_reducible refine HTK.out.mono ?_);rintro e w1 ⟨rfl,hk,hp⟩)
 have HK1:=hid (Kp.tr HK0.out hk)
 have HS1:=hid (show (W.heap.size + 1) ≤ w1.heap.size from Nat.le_trans HS0.out (hk).size)
 have HBr1:=hid (Kp.blk' (n:=W.heap.size) HBr0.out hk HNP.out (Nat.le_refl _))
 have hl:=HR0.out
 obtain ⟨j1,hj⟩ : ∃ n,i + 1 = n:=⟨_,rfl⟩
 rw [hj] at hp
 have HP1:=hid hp
 rw [run_move,hj] at hl
 have HR1:=hid hl
 clear HK0 HS0 HBr0
 clear hk hp hj hl HTK HR0 HP0
 obtain ⟨o2,h2,hr2⟩:=bind_run HR1.out
 have hcall:=Tl.at hq HP1.out h2
 have HC:=hid hcall;have HR2:=hid hr2
 clear hcall h2 hr2 HR1 HP1
 unfold pB at HC
 try unfold methV at HC
 go_wp2_with fail
 ((with_reducible refine HC.out.mono ?_);rintro e w2 ⟨hk,hm⟩)
 clear HC
 rcases o2 with ⟨r2,x2⟩ | ⟨r2⟩
 rotate_left
 ·obtain ⟨j,hj,hd,rfl⟩:=hm
  obtain rfl : o = .bad r2:=(Option.some.inj HR2.out).symm
  exact ⟨rfl,Kp.tr HK1.out hk,j,hj,hd,rfl⟩
 obtain ⟨v2,j2,rfl,hp,rfl,hR⟩:=hm
 have HK2:=hid (Kp.tr HK1.out hk)
 have HS2:=hid (show (W.heap.size + 1) ≤ w2.heap.size from Nat.le_trans HS1.out (hk).size)
 have HBr2:=hid (Kp.blk' (n:=W.heap.size) HBr1.out hk HNP.out (Nat.le_refl _))
 have HP2:=hid hp
 obtain ⟨ax,cx,rfl,hx⟩:=kids_new (n:=(W.heap.size + 1)) hR HS1.out
 have HXx2:=hid hx
 clear hk hp hR hx
 have hl:=HR2.out
 clear HR2
 dsimp only at hl
 have HR2:=hid hl
 clear hl
 clear HK1 HS1 HBr1
 have hrow:=Blk.new w2 32 (nV x2 ax cx)
 have hba : Below w2.heap.size w2 (w2.alloc (.cells (nV x2 ax cx) 32)):=(Below.refl _ _).alloc (Nat.le_refl _) _
 have hown : OwnL (W.heap.size + 1) (w2.alloc (.cells (nV x2 ax cx) 32)) [x2] (.slice (some ⟨w2.heap.size,0,none⟩) 1 1):=own_made (l:=[x2]) (cells_one (HXx2.out.keep (fun k e=>⟨e.1,Nat.lt_of_lt_of_le e.2 hba.size,fun e'=>by cases e';exact Nat.lt_irrefl _ e.2⟩) (fun k e=>hba.block k e.2))) hrow HS2.out (by unfold maxLen;simp)
 go_upto_region 3 with fail
 obtain ⟨w3,hw⟩ : ∃ w',w2.alloc (.cells (nV x2 ax cx) 32) = w':=⟨_,rfl⟩
 rw [hw] at hba hown ⊢
 have HOl3:=hid hown;have hb:=hba
 have HK3:=hid (Kp.sb HK2.out hb)
 have HS3:=hid (show (W.heap.size + 1) ≤ w3.heap.size from Nat.le_trans HS2.out (hb).size)
 have HBr3:=hid (HBr2.out.own hb)
 have HP3:=hid (HP2.out.next hb)
 have HR3:=HR2
 clear HK2 HS2 HBr2
 clear hb hba hw hrow hown HP2 HR2 HXx2
 by_cases him : t.2 = wimport
 ·
  have hti : (t.2.toList == [105,109,112,111,114,116]) = true:=by rw [him,Lib.toList_data];decide
  have hl:=HR3.out
  clear HR3
  rw [if_pos him] at hl
  have HR3:=hid hl
  have HIM:=hid him
  clear hl him
  go_wp2_with fail
  ((with_reducible refine (word_calls' _ _).mono ?_);rintro e w4 ⟨rfl,hb⟩)
  have HK4:=hid (Kp.sb HK3.out hb)
  have HS4:=hid (show (W.heap.size + 1) ≤ w4.heap.size from Nat.le_trans HS3.out (hb).size)
  have HBr4:=hid (HBr3.out.own hb)
  have HOl4:=hid (OwnL.below HOl3.out hb)
  have HP4:=hid (HP3.out.next hb)
  have HR4:=HR3
  clear HK3 HS3 HBr3 HOl3
  clear hb HP3 HR3
  obtain ⟨o5,h5,hr5⟩:=bind_run HR4.out
  have hcall:=Tl.at (must_word hE in_was) HP4.out h5
  have HC:=hid hcall;have HR5:=hid hr5
  clear hcall h5 hr5 HR4 HP4
  unfold pB at HC
  try unfold methV at HC
  go_wp2_with fail
  ((with_reducible refine HC.out.mono ?_);rintro e w5 ⟨hk,hm⟩)
  clear HC
  rcases o5 with ⟨r5,x5⟩ | ⟨r5⟩
  rotate_left
  ·obtain ⟨j,hj,hd,rfl⟩:=hm
   obtain rfl : o = .bad r5:=(Option.some.inj HR5.out).symm
   exact ⟨rfl,Kp.tr HK4.out hk,j,hj,hd,rfl⟩
  obtain ⟨v5,j5,rfl,hp,rfl,hR⟩:=hm
  have HK5:=hid (Kp.tr HK4.out hk)
  have HS5:=hid (show (W.heap.size + 1) ≤ w5.heap.size from Nat.le_trans HS4.out (hk).size)
  have HBr5:=hid (Kp.blk' (n:=W.heap.size) HBr4.out hk HNP.out (Nat.le_refl _))
  have HOl5:=hid (OwnL.kp HOl4.out hk (fun k hk=>HNP.out k (by omega)))
  have HP5:=hid hp
  obtain rfl:=hR
  clear hk hp
  have hl:=HR5.out
  clear HR5
  dsimp only at hl
  have HR5:=hid hl
  clear hl
  clear HK4 HS4 HBr4 HOl4
  obtain ⟨o6,h6,hr6⟩:=bind_run HR5.out
  have hcall:=Tl.at hc2 HP5.out h6
  have HC:=hid hcall;have HR6:=hid hr6
  clear hcall h6 hr6 HR5 HP5
  unfold pB at HC
  try unfold methV at HC
  go_wp2_with fail
  ((with_reducible refine HC.out.mono ?_);rintro e w6 ⟨hk,hm⟩)
  clear HC
  rcases o6 with ⟨r6,x6⟩ | ⟨r6⟩
  rotate_left
  ·obtain ⟨j,hj,hd,rfl⟩:=hm
   obtain rfl : o = .bad r6:=(Option.some.inj HR6.out).symm
   exact ⟨rfl,Kp.tr HK5.out hk,j,hj,hd,rfl⟩
  obtain ⟨v6,j6,rfl,hp,rfl,hR⟩:=hm
  have HK6:=hid (Kp.tr HK5.out hk)
  have HS6:=hid (show (W.heap.size + 1) ≤ w6.heap.size from Nat.le_trans HS5.out (hk).size)
  have HBr6:=hid (Kp.blk' (n:=W.heap.size) HBr5.out hk HNP.out (Nat.le_refl _))
  have HOl6:=hid (OwnL.kp HOl5.out hk (fun k hk=>HNP.out k (by omega)))
  have HP6:=hid hp
  obtain ⟨sy,rfl,hks⟩:=hR
  obtain ⟨ay,cy,rfl,_⟩:=hks.slice
  have hks2:=hks.keep (S':=Aw (W.heap.size + 1) w6 (.slice (some ⟨w2.heap.size,0,none⟩) 1 1)) (fun k e=>(kids_aux e (HOl5.out) HS5.out)) (fun _ _=>rfl)
  have HAy:=hid hks2
  clear hk hp hks hks2
  have hl:=HR6.out
  clear HR6
  dsimp only at hl
  have HR6:=hid hl
  clear hl
  clear HK5 HS5 HBr5 HOl5
  have hrow:=Blk.new w6 32 (nV x6 ay cy)
  have hba : Below w6.heap.size w6 (w6.alloc (.cells (nV x6 ay cy) 32)):=(Below.refl _ _).alloc (Nat.le_refl _) _
  have HOWN:=hid (HOl6.out.below hba);have HCE:=hid (cells_one (aw_below HAy.out hba));have HROW:=hid hrow
  have HPA:=hid (HP6.out.next hba);have HKA:=hid (Kp.sb HK6.out hba);have HSA:=hid (Nat.le_trans HS6.out hba.size)
  have HBAr:=hid (HBr6.out.own hba)
  clear hrow hba
  go_wp2_with (at_builtin;refine wpList_append_nodes rfl _ _ rfl (W.heap.size + 1) j6 i [x2] [x6] _ rfl HOWN.out (by simp) (by simp) w6.heap.size [.int .i64 x6.k,.string x6.t,.slice ay x6.kids.len cy] rfl HROW.out HCE.out HSA.out HPA.out HKA.out (by omega) HNP.out H00.out ?_;intro v' w7 hgrew;obtain ⟨al7,cl7,hv5⟩:=hgrew.own.slice;rw [show ([x2] ++ [x6]).length = 1 + 1 by simp] at hv5;subst hv5;have HG:=hid hgrew;clear hgrew)
  have HK7:=hid HG.out.kp;have HP7:=hid HG.out.ps;have HS7:=hid (Nat.le_trans HSA.out HG.out.size);have HOl7:=hid HG.out.own
  have HBr7:=hid (HG.out.blk _ _ _ HBAr.out (by omega))
  have HR7:=HR6
  clear HK6 HS6 HBr6 HOl6
  clear HOWN HCE HROW HPA HKA HSA HG HR6 HP6 HAy HBAr
  go_wp2_with fail
  ((with_reducible refine (op_calls' _ _).mono ?_);rintro e w8 ⟨rfl,hb⟩)
  have HK8:=hid (Kp.sb HK7.out hb)
  have HS8:=hid (show (W.heap.size + 1) ≤ w8.heap.size from Nat.le_trans HS7.out (hb).size)
  have HBr8:=hid (HBr7.out.own hb)
  have HOl8:=hid (OwnL.below HOl7.out hb)
  have HP8:=hid (HP7.out.next hb)
  have HR8:=HR7
  clear HK7 HS7 HBr7 HOl7
  clear hb HP7 HR7
  obtain ⟨o9,h9,hr9⟩:=bind_run HR8.out
  have hcall:=Tl.at (must_op hE in_semi) HP8.out h9
  have HC:=hid hcall;have HR9:=hid hr9
  clear hcall h9 hr9 HR8 HP8
  unfold pB at HC
  try unfold methV at HC
  go_wp2_with fail
  ((with_reducible refine HC.out.mono ?_);rintro e w9 ⟨hk,hm⟩)
  clear HC
  rcases o9 with ⟨r9,x9⟩ | ⟨r9⟩
  rotate_left
  ·obtain ⟨j,hj,hd,rfl⟩:=hm
   obtain rfl : o = .bad r9:=(Option.some.inj HR9.out).symm
   exact ⟨rfl,Kp.tr HK8.out hk,j,hj,hd,rfl⟩
  obtain ⟨v9,j9,rfl,hp,rfl,hR⟩:=hm
  have HK9:=hid (Kp.tr HK8.out hk)
  have HS9:=hid (show (W.heap.size + 1) ≤ w9.heap.size from Nat.le_trans HS8.out (hk).size)
  have HBr9:=hid (Kp.blk' (n:=W.heap.size) HBr8.out hk HNP.out (Nat.le_refl _))
  have HOl9:=hid (OwnL.kp HOl8.out hk (fun k hk=>HNP.out k (by omega)))
  have HP9:=hid hp
  obtain rfl:=hR
  clear hk hp
  have hl:=HR9.out
  clear HR9
  dsimp only at hl
  have HR9:=hid hl
  clear hl
  clear HK8 HS8 HBr8 HOl8
  go_wp2_with fail
  ((with_reducible refine (node_calls _ _ _ _ _ _).mono ?_);rintro e w10 ⟨rfl,hb⟩)
  have HK10:=hid (Kp.sb HK9.out hb)
  have HS10:=hid (show (W.heap.size + 1) ≤ w10.heap.size from Nat.le_trans HS9.out (hb).size)
  have HBr10:=hid (HBr9.out.own hb)
  have HOl10:=hid (OwnL.below HOl9.out hb)
  have HP10:=hid (HP9.out.next hb)
  have hx:=HOl10.out.kids
  have hx2 : KidsAt (Fr (W.heap.size + 1) w10) w10 (mk 33 t.2 ([x2] ++ [x6])).kids (.slice al7 (mk 33 t.2 ([x2] ++ [x6])).kids.len cl7):=by rw [show (mk 33 t.2 ([x2] ++ [x6])).kids.len = (1 + 1) from (Fo.ofL_len _).trans (by simp)];exact hx
  have hfin:=fin_node hE (x:=(mk 33 t.2 ([x2] ++ [x6]))) H00.out HP10.out HK10.out (Nat.le_refl _) HBr10.out hx2
  obtain rfl : o = .ok (E.l.drop j9) (mk 33 t.2 ([x2] ++ [x6])):=(Option.some.inj HR9.out).symm
  have rc0:=HBr10.out.cell 0;have rf0:=HBr10.out.frozen 0
  have rc1:=HBr10.out.cell 1;have rf1:=HBr10.out.frozen 1
  have rc2:=HBr10.out.cell 2;have rf2:=HBr10.out.frozen 2
  have hln : (mk 33 t.2 ([x2] ++ [x6])).kids.len = (1 + 1):=(Fo.ofL_len _).trans (by simp)
  have g0:=hfin.1.cell 0;have g1:=hfin.1.cell 1;have g2 : _ = some (Value.slice al7 (mk 33 t.2 ([x2] ++ [x6])).kids.len cl7):=hfin.1.cell 2
  have hF2:=hfin.2
  dsimp only [nV] at hF2
  rw [hln] at hF2 g0 g1 g2
  simp only [mk] at g0 g1 g2
  have HF:=hid hF2
  clear hfin hx hx2 hln hF2
  go_wp2_with fail
  refine bodyPost_ret (v:=.agg #[.int .i64 33,.string t.2,.slice al7 (1 + 1) cl7]) (by simp [results,Tryz.results81,go_sem,g0,g1,g2]) rfl ?_
  exact HF.out
 ·
  have hti : (t.2.toList == [105,109,112,111,114,116]) = false:=by rw [beq_eq_false_iff_ne];exact fun e=>him ((bytes_eq _ _).1 (e.trans (show _ = wimport.toList by rw [Lib.toList_data])))
  have hl:=HR3.out
  clear HR3
  rw [if_neg him] at hl
  have HR3:=hid hl
  have HIM:=hid him
  clear hl him
  go_wp2_with fail
  ((with_reducible refine (op_calls' _ _).mono ?_);rintro e w4 ⟨rfl,hb⟩)
  have HK4:=hid (Kp.sb HK3.out hb)
  have HS4:=hid (show (W.heap.size + 1) ≤ w4.heap.size from Nat.le_trans HS3.out (hb).size)
  have HBr4:=hid (HBr3.out.own hb)
  have HOl4:=hid (OwnL.below HOl3.out hb)
  have HP4:=hid (HP3.out.next hb)
  have HR4:=HR3
  clear HK3 HS3 HBr3 HOl3
  clear hb HP3 HR3
  obtain ⟨o5,h5,hr5⟩:=bind_run HR4.out
  have hcall:=Tl.at (must_op hE in_semi) HP4.out h5
  have HC:=hid hcall;have HR5:=hid hr5
  clear hcall h5 hr5 HR4 HP4
  unfold pB at HC
  try unfold methV at HC
  go_wp2_with fail
  ((with_reducible refine HC.out.mono ?_);rintro e w5 ⟨hk,hm⟩)
  clear HC
  rcases o5 with ⟨r5,x5⟩ | ⟨r5⟩
  rotate_left
  ·obtain ⟨j,hj,hd,rfl⟩:=hm
   obtain rfl : o = .bad r5:=(Option.some.inj HR5.out).symm
   exact ⟨rfl,Kp.tr HK4.out hk,j,hj,hd,rfl⟩
  obtain ⟨v5,j5,rfl,hp,rfl,hR⟩:=hm
  have HK5:=hid (Kp.tr HK4.out hk)
  have HS5:=hid (show (W.heap.size + 1) ≤ w5.heap.size from Nat.le_trans HS4.out (hk).size)
  have HBr5:=hid (Kp.blk' (n:=W.heap.size) HBr4.out hk HNP.out (Nat.le_refl _))
  have HOl5:=hid (OwnL.kp HOl4.out hk (fun k hk=>HNP.out k (by omega)))
  have HP5:=hid hp
  obtain rfl:=hR
  clear hk hp
  have hl:=HR5.out
  clear HR5
  dsimp only at hl
  have HR5:=hid hl
  clear hl
  clear HK4 HS4 HBr4 HOl4
  go_wp2_with fail
  ((with_reducible refine (node_calls _ _ _ _ _ _).mono ?_);rintro e w6 ⟨rfl,hb⟩)
  have HK6:=hid (Kp.sb HK5.out hb)
  have HS6:=hid (show (W.heap.size + 1) ≤ w6.heap.size from Nat.le_trans HS5.out (hb).size)
  have HBr6:=hid (HBr5.out.own hb)
  have HOl6:=hid (OwnL.below HOl5.out hb)
  have HP6:=hid (HP5.out.next hb)
  have hx:=HOl6.out.kids
  have hx2 : KidsAt (Fr (W.heap.size + 1) w6) w6 (mk 33 t.2 [x2]).kids (.slice (some ⟨w2.heap.size,0,none⟩) (mk 33 t.2 [x2]).kids.len 1):=by rw [show (mk 33 t.2 [x2]).kids.len = 1 from (Fo.ofL_len _).trans (by simp)];exact hx
  have hfin:=fin_node hE (x:=(mk 33 t.2 [x2])) H00.out HP6.out HK6.out (Nat.le_refl _) HBr6.out hx2
  obtain rfl : o = .ok (E.l.drop j5) (mk 33 t.2 [x2]):=(Option.some.inj HR5.out).symm
  have rc0:=HBr6.out.cell 0;have rf0:=HBr6.out.frozen 0
  have rc1:=HBr6.out.cell 1;have rf1:=HBr6.out.frozen 1
  have rc2:=HBr6.out.cell 2;have rf2:=HBr6.out.frozen 2
  have hln : (mk 33 t.2 [x2]).kids.len = 1:=(Fo.ofL_len _).trans (by simp)
  have g0:=hfin.1.cell 0;have g1:=hfin.1.cell 1;have g2 : _ = some (Value.slice (some ⟨w2.heap.size,0,none⟩) (mk 33 t.2 [x2]).kids.len 1):=hfin.1.cell 2
  have hF2:=hfin.2
  dsimp only [nV] at hF2
  rw [hln] at hF2 g0 g1 g2
  simp only [mk] at g0 g1 g2
  have HF:=hid hF2
  clear hfin hx hx2 hln hF2
  go_wp2_with fail
  refine bodyPost_ret (v:=.agg #[.int .i64 33,.string t.2,.slice (some ⟨w2.heap.size,0,none⟩) 1 1]) (by simp [results,Tryz.results81,go_sem,g0,g1,g2]) rfl ?_
  exact HF.out
end Go.Proofs.YtlklhkkjcfmefaaGreatDoor.pa
