/- Ground of the law: PaP16, PaP26. -/
import Derived.Test.YtlklhkkjcfmefaaGreatDoorQe30
import Derived.Test.YtlklhkkjcfmefaaGreatDoorQe31
import Derived.Test.YtlklhkkjcfmefaaGreatDoorQe17
set_option maxRecDepth 100000
set_option maxHeartbeats 8000000
set_option linter.unusedVariables false
set_option linter.unusedSimpArgs false
namespace Go.Proofs.YtlklhkkjcfmefaaGreatDoor.pa
open Go.Lib (hid)
open Go.RowKit nd pr sx ed
theorem picked_of {E : Env} (hE : EnvOk E) {q qt : Pa Nd} (hq : Tl E q RN 123 #[pB E]) (hqt : Tl E qt RN 116 #[pB E,.string rbr]) (d : ByteArray) {S : Nat → Prop} (x : Nd) (a : Option Addr) (c : Nat) : ∀ W i o,KidsAt S W x.kids (.slice a x.kids.len c) → OldS E W S → Ps E W i → ((need lbr (.look fun t=>if op rbr t = true then .move (.ret (mk 20 d [x])) else .look fun t=>if op colon t = true then .move (qt.bind fun y=>.ret (mk 19 d [x,none0,y])) else q.bind fun f=>.look fun t=>if op rbr t = true then .move (.ret (mk 18 d [x,f])) else need colon (.look fun t=>if op rbr t = true then .move (.ret (mk 19 d [x,f,none0])) else qt.bind fun y=>.ret (mk 19 d [x,f,y])))) : Pa Nd).run (E.l.drop i) = some o → Calls Tryz.prog 190 #[pB E,.agg (nV x a c),.string d] W (Post E (RNS S) W o):=by
 intro W i o hxi hos hp hr
 have HXI:=hid hxi;have HOS:=hid hos;clear hxi hos
 simp only [need_bind lbr,need_bind colon] at hr
 have HNP:=hid hp.far;have H00:=hid hp
 obtain ⟨W0,hW0⟩ : ∃ W0,(W.alloc (.cells (nV x a c) 32)).alloc (.cells nodeZ 32) = W0:=⟨_,rfl⟩
 have hb0 : Below W.heap.size W W0:=by rw [← hW0];exact ((Below.refl _ W).alloc (Nat.le_refl _) _).alloc (by simp) _
 have hk0 : Blk W0 (W.heap.size + 1) 32 nodeZ:=by rw [← hW0];simpa using Blk.new (W.alloc (.cells (nV x a c) 32)) 32 nodeZ
 have hk1 : Blk W0 W.heap.size 32 (nV x a c):=by rw [← hW0];exact (Blk.new W _ _).alloc _
 have hs0 : W.heap.size + 2 ≤ W0.heap.size:=by rw [← hW0];simp
 have HW0:=hid hW0;have HK0:=hid (Kp.of_below (E:=E) hb0);have HP0:=hid (hp.next hb0);have HS0:=hid hs0;have HR0:=hid hr
 have HBr0:=hid hk0;have HBn0:=hid hk1;have HLn:=hid (Nat.le_refl W.heap.size)
 clear hW0 hb0 hk0 hk1 hs0 hp hr
 unfold pB
 go_enter Tryz.func190,Tryz.ntmps190
 go_upto_region 1 with fail
 rw [HW0.out]
 have HXn0:=hid (kidsS_below (kidsS_of (n:=(W.heap.size + 2)) HXI.out) (show Below W.heap.size W W0 by rw [← HW0.out];exact ((Below.refl _ W).alloc (Nat.le_refl _) _).alloc (by simp) _) HOS.out (Nat.le_refl _))
 have HNEn:=hid (Nat.lt_succ_self W.heap.size)
 go_wp2_with fail
 ((with_reducible refine (op_calls' _ _).mono ?_);rintro e w1 ⟨rfl,hb⟩)
 have HK1:=hid (Kp.sb HK0.out hb)
 have HS1:=hid (show (W.heap.size + 2) ≤ w1.heap.size from Nat.le_trans HS0.out (hb).size)
 have HBr1:=hid (HBr0.out.own hb)
 have HBn1:=hid (HBn0.out.own hb)
 have HXn1:=hid (kidsS_below HXn0.out hb HOS.out (by have:=HS0.out;omega))
 have HP1:=hid (HP0.out.next hb)
 have HR1:=HR0
 clear HK0 HS0 HBr0 HBn0 HXn0
 clear hb HP0 HR0
 obtain ⟨o2,h2,hr2⟩:=bind_run HR1.out
 have hcall:=Tl.at (must_op hE in_lbr) HP1.out h2
 have HC:=hid hcall;have HR2:=hid hr2
 clear hcall h2 hr2 HR1 HP1
 unfold pB at HC
 try unfold methV at HC
 go_wp2_with fail
 ((with_reducible refine HC.out.mono ?_);rintro e w2 ⟨hk,hm⟩)
 clear HC
 rcases o2 with ⟨r2,x2⟩ | ⟨r2⟩
 rotate_left
 ·obtain ⟨j,hj,hd,rfl⟩:=hm
  obtain rfl : o = .bad r2:=(Option.some.inj HR2.out).symm
  exact ⟨rfl,Kp.tr HK1.out hk,j,hj,hd,rfl⟩
 obtain ⟨v2,j2,rfl,hp,rfl,hR⟩:=hm
 have HK2:=hid (Kp.tr HK1.out hk)
 have HS2:=hid (show (W.heap.size + 2) ≤ w2.heap.size from Nat.le_trans HS1.out (hk).size)
 have HBr2:=hid (Kp.blk' (n:=W.heap.size) HBr1.out hk HNP.out (Nat.le_succ _))
 have HBn2:=hid (Kp.blk' (n:=W.heap.size) HBn1.out hk HNP.out HLn.out)
 have HXn2:=hid (kidsS_kp HXn1.out hk (fun k hk=>HNP.out k (by omega)) HOS.out (by have:=HS1.out;omega))
 have HP2:=hid hp
 obtain rfl:=hR
 clear hk hp
 have hl:=HR2.out
 clear HR2
 dsimp only at hl
 have HR2:=hid hl
 clear hl
 clear HK1 HS1 HBr1 HBn1 HXn1
 have hl:=HR2.out
 clear HR2
 rw [run_look] at hl
 obtain ⟨t,ht⟩ : ∃ t,tk E j2 = t:=⟨_,rfl⟩
 have HNX:=hid (fun W' (hb : Below w2.heap.size w2 W')=>next_calls hE (HP2.out.next hb))
 have hnx:=HNX.out
 clear HNX
 rw [ht] at hnx
 have HNX:=hid hnx
 rw [show tok (E.l.drop j2) = t from ht] at hl
 obtain ⟨c,hc⟩ : ∃ c,op rbr t = c:=⟨_,rfl⟩
 rw [hc] at hl
 have HR2:=hid hl;have HTt:=hid ht;have HCt:=hid hc
 clear hl hnx ht
 have hdc : decide (tk E j2 = (13,rbr)) = c:=by rw [HTt.out];exact same_op hc
 have HDC:=hid hdc
 clear hc hdc HNX
 go_wp2_with fail
 ((with_reducible refine (op_calls' _ _).mono ?_);rintro e w3 ⟨rfl,hb⟩)
 have HK3:=hid (Kp.sb HK2.out hb)
 have HS3:=hid (show (W.heap.size + 2) ≤ w3.heap.size from Nat.le_trans HS2.out (hb).size)
 have HBr3:=hid (HBr2.out.own hb)
 have HBn3:=hid (HBn2.out.own hb)
 have HXn3:=hid (kidsS_below HXn2.out hb HOS.out (by have:=HS2.out;omega))
 have HP3:=hid (HP2.out.next hb)
 have HR3:=HR2
 clear HK2 HS2 HBr2 HBn2 HXn2
 clear hb HP2 HR2
 have htk:=took_calls hE HP3.out (13,rbr) (fun e=>by cases e) c HDC.out
 unfold pB at htk
 have HTK:=hid htk
 clear htk HDC
 cases c with
 | true =>
  have hl:=HR3.out
  clear HR3
  rw [if_yes] at hl
  have HR3:=hid hl
  clear hl
  go_wp2_with fail
  ((with_reducible refine HTK.out.mono ?_);rintro e w4 ⟨rfl,hk,hp⟩)
  have HK4:=hid (Kp.tr HK3.out hk)
  have HS4:=hid (show (W.heap.size + 2) ≤ w4.heap.size from Nat.le_trans HS3.out (hk).size)
  have HBr4:=hid (Kp.blk' (n:=W.heap.size) HBr3.out hk HNP.out (Nat.le_succ _))
  have HBn4:=hid (Kp.blk' (n:=W.heap.size) HBn3.out hk HNP.out HLn.out)
  have HXn4:=hid (kidsS_kp HXn3.out hk (fun k hk=>HNP.out k (by omega)) HOS.out (by have:=HS3.out;omega))
  have hl:=HR3.out
  obtain ⟨j4,hj⟩ : ∃ n,j2 + 1 = n:=⟨_,rfl⟩
  have hp2 : Ps E w4 (j2 + 1):=hp
  rw [hj] at hp2
  have HP4:=hid hp2
  rw [run_move,hj] at hl
  have HR4:=hid hl
  clear hp2 hj
  clear HK3 HS3 HBr3 HBn3 HXn3
  clear hk hp hl HTK HR3 HP3
  have nc0:=HBn4.out.cell 0;have nf0:=HBn4.out.frozen 0
  have nc1:=HBn4.out.cell 1;have nf1:=HBn4.out.frozen 1
  have nc2:=HBn4.out.cell 2;have nf2:=HBn4.out.frozen 2
  have hrow:=Blk.new w4 32 #[.int .i64 x.k,.string x.t,.slice a x.kids.len c]
  have hba : Below w4.heap.size w4 (w4.alloc (.cells #[.int .i64 x.k,.string x.t,.slice a x.kids.len c] 32)):=(Below.refl _ _).alloc (Nat.le_refl _) _
  go_wp2_with fail
  ((with_reducible refine (node_calls _ _ _ _ _ _).mono ?_);rintro e w5 ⟨rfl,hbn⟩)
  have hb:=hba.trans (hbn.mono hba.size)
  have hrw:=hrow.own hbn
  have HK5:=hid (Kp.sb HK4.out hb)
  have HS5:=hid (show (W.heap.size + 2) ≤ w5.heap.size from Nat.le_trans HS4.out (hb).size)
  have HBr5:=hid (HBr4.out.own hb)
  have HBn5:=hid (HBn4.out.own hb)
  have HXn5:=hid (kidsS_below HXn4.out hb HOS.out (by have:=HS4.out;omega))
  have HP5:=hid (HP4.out.next hb)
  have hx:=rowS1 HXn5.out hrw HS4.out
  have hfin:=fin_nodeS hE (x:=mk 20 d [x]) H00.out HOS.out HP5.out HK5.out (Nat.le_succ _) HBr5.out hx
  obtain rfl : o = .ok (E.l.drop j4) (mk 20 d [x]):=(Option.some.inj HR4.out).symm
  have rc0:=HBr5.out.cell 0;have rf0:=HBr5.out.frozen 0
  have rc1:=HBr5.out.cell 1;have rf1:=HBr5.out.frozen 1
  have rc2:=HBr5.out.cell 2;have rf2:=HBr5.out.frozen 2
  have g0:=hfin.1.cell 0;have g1:=hfin.1.cell 1;have g2:=hfin.1.cell 2
  have HF:=hid hfin.2
  simp only [mk,Fo.ofL,Fo.len] at g0 g1 g2
  clear hfin
  go_wp2_with fail
  refine bodyPost_ret (v:=.agg (nV (mk 20 d [x]) (some ⟨w4.heap.size,0,none⟩) 1)) (by simp [results,Tryz.results190,go_sem,g0,g1,g2,mk,Fo.ofL,Fo.len]) rfl ?_
  exact HF.out
 | false =>
  have hl:=HR3.out
  clear HR3
  rw [if_no] at hl
  have HR3:=hid hl
  clear hl
  go_wp2_with fail
  ((with_reducible refine HTK.out.mono ?_);rintro e w4 ⟨rfl,hk,hp⟩)
  have HK4:=hid (Kp.tr HK3.out hk)
  have HS4:=hid (show (W.heap.size + 2) ≤ w4.heap.size from Nat.le_trans HS3.out (hk).size)
  have HBr4:=hid (Kp.blk' (n:=W.heap.size) HBr3.out hk HNP.out (Nat.le_succ _))
  have HBn4:=hid (Kp.blk' (n:=W.heap.size) HBn3.out hk HNP.out HLn.out)
  have HXn4:=hid (kidsS_kp HXn3.out hk (fun k hk=>HNP.out k (by omega)) HOS.out (by have:=HS3.out;omega))
  have hl:=HR3.out
  have HP4:=hid (show Ps E w4 j2 from hp)
  have HR4:=hid hl
  clear HK3 HS3 HBr3 HBn3 HXn3
  clear hk hp hl HTK HR3 HP3
  have hl:=HR4.out
  clear HR4
  rw [run_look] at hl
  obtain ⟨t,ht⟩ : ∃ t,tk E j2 = t:=⟨_,rfl⟩
  have HNX:=hid (fun W' (hb : Below w4.heap.size w4 W')=>next_calls hE (HP4.out.next hb))
  have hnx:=HNX.out
  clear HNX
  rw [ht] at hnx
  have HNX:=hid hnx
  rw [show tok (E.l.drop j2) = t from ht] at hl
  obtain ⟨c,hc⟩ : ∃ c,op colon t = c:=⟨_,rfl⟩
  rw [hc] at hl
  have HR4:=hid hl;have HTt:=hid ht;have HCt:=hid hc
  clear hl hnx ht
  have hdc : decide (tk E j2 = (13,colon)) = c:=by rw [HTt.out];exact same_op hc
  have HDC:=hid hdc
  clear hc hdc HNX
  go_wp2_with fail
  ((with_reducible refine (op_calls' _ _).mono ?_);rintro e w5 ⟨rfl,hb⟩)
  have HK5:=hid (Kp.sb HK4.out hb)
  have HS5:=hid (show (W.heap.size + 2) ≤ w5.heap.size from Nat.le_trans HS4.out (hb).size)
  have HBr5:=hid (HBr4.out.own hb)
  have HBn5:=hid (HBn4.out.own hb)
  have HXn5:=hid (kidsS_below HXn4.out hb HOS.out (by have:=HS4.out;omega))
  have HP5:=hid (HP4.out.next hb)
  have HR5:=HR4
  clear HK4 HS4 HBr4 HBn4 HXn4
  clear hb HP4 HR4
  have htk:=took_calls hE HP5.out (13,colon) (fun e=>by cases e) c HDC.out
  unfold pB at htk
  have HTK:=hid htk
  clear htk HDC
  cases c with
  | true =>
   have hl:=HR5.out
   clear HR5
   rw [if_yes] at hl
   have HR5:=hid hl
   clear hl
   go_wp2_with fail
   ((with_reducible refine HTK.out.mono ?_);rintro e w6 ⟨rfl,hk,hp⟩)
   have HK6:=hid (Kp.tr HK5.out hk)
   have HS6:=hid (show (W.heap.size + 2) ≤ w6.heap.size from Nat.le_trans HS5.out (hk).size)
   have HBr6:=hid (Kp.blk' (n:=W.heap.size) HBr5.out hk HNP.out (Nat.le_succ _))
   have HBn6:=hid (Kp.blk' (n:=W.heap.size) HBn5.out hk HNP.out HLn.out)
   have HXn6:=hid (kidsS_kp HXn5.out hk (fun k hk=>HNP.out k (by omega)) HOS.out (by have:=HS5.out;omega))
   have hl:=HR5.out
   obtain ⟨j6,hj⟩ : ∃ n,j2 + 1 = n:=⟨_,rfl⟩
   have hp2 : Ps E w6 (j2 + 1):=hp
   rw [hj] at hp2
   have HP6:=hid hp2
   rw [run_move,hj] at hl
   have HR6:=hid hl
   clear hp2 hj
   clear HK5 HS5 HBr5 HBn5 HXn5
   clear hk hp hl HTK HR5 HP5
   have HXz6:=hid (kids_nil (Fr (W.heap.size + 2) (w6)) (w6) none 0)
   go_upto_region 5 with fail
   have hb:=(Below.refl w6.heap.size w6).drew
   have HK7:=hid (Kp.sb HK6.out hb)
   have HS7:=hid (show (W.heap.size + 2) ≤ w6.drew.heap.size from Nat.le_trans HS6.out (hb).size)
   have HBr7:=hid (HBr6.out.own hb)
   have HBn7:=hid (HBn6.out.own hb)
   have HXn7:=hid (kidsS_below HXn6.out hb HOS.out (by have:=HS6.out;omega))
   have HXz7:=hid (kids_below HXz6.out hb)
   have HP7:=hid (HP6.out.next hb)
   have HR7:=HR6
   clear HK6 HS6 HBr6 HBn6 HXn6 HXz6
   clear hb HP6 HR6
   have hS0 : C3 W.heap.size (.int .i64 x.k) (.string x.t) (.slice a x.kids.len c) w6.drew:=C3.of HBn7.out
   have hnen : (W.heap.size + 1) ≠ W.heap.size:=by have:=HNEn.out;omega
   obtain ⟨o8,h8,hr8⟩:=bind_run HR7.out
   have hcall:=Tl.at hqt HP7.out h8
   have HC:=hid hcall;have HR8:=hid hr8
   clear hcall h8 hr8 HR7 HP7
   unfold pB at HC
   try unfold methV at HC
   go_region_held (fun u=>C3 W.heap.size (.int .i64 x.k) (.string x.t) (.slice a x.kids.len c) u)
    (first | assumption | exact C3.alloc (by assumption) _ | exact C3.set (by assumption) hnen _ _ _)
    (first
     | (go_at_call 116;(with_reducible refine HC.out.mono ?_);rintro e w8 ⟨hk,hm⟩;clear HC;rcases o8 with ⟨r8,x8⟩ | ⟨r8⟩;rotate_left;(obtain ⟨j,hj,hd,rfl⟩:=hm;obtain rfl : o = .bad r8:=(Option.some.inj HR8.out).symm;exact ⟨rfl,Kp.tr HK7.out hk,j,hj,hd,rfl⟩);obtain ⟨v8,j8,rfl,hp,rfl,hR⟩:=hm;have HK8:=hid (Kp.tr HK7.out hk);have HS8:=hid (show (W.heap.size + 2) ≤ w8.heap.size from Nat.le_trans HS7.out (hk).size);have HBr8:=hid (Kp.blk' (n:=W.heap.size) HBr7.out hk HNP.out (Nat.le_succ _));have HBn8:=hid (Kp.blk' (n:=W.heap.size) HBn7.out hk HNP.out HLn.out);have HXn8:=hid (kidsS_kp HXn7.out hk (fun k hk=>HNP.out k (by omega)) HOS.out (by have:=HS7.out;omega));have HXz8:=hid (kids_kp HXz7.out hk (fun k hk=>HNP.out k (by omega)));have HP8:=hid hp;obtain ⟨ay,cy,rfl,hx⟩:=kids_new (n:=(W.heap.size + 2)) hR HS7.out;have HXy8:=hid hx;clear hk hp hR hx;have hl:=HR8.out;clear HR8;dsimp only at hl;have HR8:=hid hl;clear hl;clear HK7 HS7 HBr7 HBn7 HXn7 HXz7;have hS8 : C3 W.heap.size (.int .i64 x.k) (.string x.t) (.slice a x.kids.len c) w8:=C3.of HBn8.out)
     | (go_at_call 85;(with_reducible refine (node_calls _ _ _ _ _ _).mono ?_);rintro e w9 ⟨rfl,hbn⟩;have hrow:=Blk.new w8 32 #[.int .i64 x.k,.string x.t,.slice a x.kids.len c,.int .i64 none0.k,.string none0.t,.slice none none0.kids.len 0,.int .i64 x8.k,.string x8.t,.slice ay x8.kids.len cy];have hba : Below w8.heap.size w8 (w8.alloc (.cells #[.int .i64 x.k,.string x.t,.slice a x.kids.len c,.int .i64 none0.k,.string none0.t,.slice none none0.kids.len 0,.int .i64 x8.k,.string x8.t,.slice ay x8.kids.len cy] 32)):=(Below.refl _ _).alloc (Nat.le_refl _) _;have hb:=hba.trans (hbn.mono hba.size);have hrw:=hrow.own hbn;have HK9:=hid (Kp.sb HK8.out hb);have HS9:=hid (show (W.heap.size + 2) ≤ w9.heap.size from Nat.le_trans HS8.out (hb).size);have HBr9:=hid (HBr8.out.own hb);have HBn9:=hid (HBn8.out.own hb);have HXn9:=hid (kidsS_below HXn8.out hb HOS.out (by have:=HS8.out;omega));have HXz9:=hid (kids_below HXz8.out hb);have HXy9:=hid (kids_below HXy8.out hb);have HP9:=hid (HP8.out.next hb);have hx:=rowS3 HXn9.out (kidsS_fr (S:=S) HXz9.out) (kidsS_fr (S:=S) HXy9.out) hrw HS8.out;have hS9 : C3 W.heap.size (.int .i64 x.k) (.string x.t) (.slice a x.kids.len c) w9:=C3.of HBn9.out;have rc0:=HBr9.out.cell 0;have rf0:=HBr9.out.frozen 0;have rc1:=HBr9.out.cell 1;have rf1:=HBr9.out.frozen 1;have rc2:=HBr9.out.cell 2;have rf2:=HBr9.out.frozen 2))
   have hfin:=fin_nodeS hE (x:=(mk 19 d [x,none0,x8])) H00.out HOS.out HP9.out HK9.out (Nat.le_succ _) HBr9.out hx
   obtain rfl : o = .ok (E.l.drop j8) (mk 19 d [x,none0,x8]):=(Option.some.inj HR8.out).symm
   have g0:=hfin.1.cell 0;have g1:=hfin.1.cell 1;have g2:=hfin.1.cell 2
   have HF:=hid hfin.2
   simp only [mk,Fo.ofL,Fo.len] at g0 g1 g2
   clear hfin
   go_wp2_with fail
   refine bodyPost_ret (v:=.agg (nV (mk 19 d [x,none0,x8]) (some ⟨w8.heap.size,0,none⟩) 3)) (by simp [results,Tryz.results190,go_sem,g0,g1,g2,mk,Fo.ofL,Fo.len]) rfl ?_
   exact HF.out
  | false =>
   have hl:=HR5.out
   clear HR5
   rw [if_no] at hl
   have HR5:=hid hl
   clear hl
   go_wp2_with fail
   ((with_reducible refine HTK.out.mono ?_);rintro e w6 ⟨rfl,hk,hp⟩)
   have HK6:=hid (Kp.tr HK5.out hk)
   have HS6:=hid (show (W.heap.size + 2) ≤ w6.heap.size from Nat.le_trans HS5.out (hk).size)
   have HBr6:=hid (Kp.blk' (n:=W.heap.size) HBr5.out hk HNP.out (Nat.le_succ _))
   have HBn6:=hid (Kp.blk' (n:=W.heap.size) HBn5.out hk HNP.out HLn.out)
   have HXn6:=hid (kidsS_kp HXn5.out hk (fun k hk=>HNP.out k (by omega)) HOS.out (by have:=HS5.out;omega))
   have hl:=HR5.out
   have HP6:=hid (show Ps E w6 j2 from hp)
   have HR6:=hid hl
   clear HK5 HS5 HBr5 HBn5 HXn5
   clear hk hp hl HTK HR5 HP5
   obtain ⟨o7,h7,hr7⟩:=bind_run HR6.out
   have hcall:=Tl.at hq HP6.out h7
   have HC:=hid hcall;have HR7:=hid hr7
   clear hcall h7 hr7 HR6 HP6
   unfold pB at HC
   try unfold methV at HC
   go_wp2_with fail
   ((with_reducible refine HC.out.mono ?_);rintro e w7 ⟨hk,hm⟩)
   clear HC
   rcases o7 with ⟨r7,x7⟩ | ⟨r7⟩
   rotate_left
   ·obtain ⟨j,hj,hd,rfl⟩:=hm
    obtain rfl : o = .bad r7:=(Option.some.inj HR7.out).symm
    exact ⟨rfl,Kp.tr HK6.out hk,j,hj,hd,rfl⟩
   obtain ⟨v7,j7,rfl,hp,rfl,hR⟩:=hm
   have HK7:=hid (Kp.tr HK6.out hk)
   have HS7:=hid (show (W.heap.size + 2) ≤ w7.heap.size from Nat.le_trans HS6.out (hk).size)
   have HBr7:=hid (Kp.blk' (n:=W.heap.size) HBr6.out hk HNP.out (Nat.le_succ _))
   have HBn7:=hid (Kp.blk' (n:=W.heap.size) HBn6.out hk HNP.out HLn.out)
   have HXn7:=hid (kidsS_kp HXn6.out hk (fun k hk=>HNP.out k (by omega)) HOS.out (by have:=HS6.out;omega))
   have HP7:=hid hp
   obtain ⟨af,cf,rfl,hx⟩:=kids_new (n:=(W.heap.size + 2)) hR HS6.out
   have HXf7:=hid hx
   clear hk hp hR hx
   have hl:=HR7.out
   clear HR7
   dsimp only at hl
   have HR7:=hid hl
   clear hl
   clear HK6 HS6 HBr6 HBn6 HXn6
   go_upto_region 7 with fail
   obtain ⟨w8,hw⟩ : ∃ w',w7.alloc (.cells (nV x7 af cf) 32) = w':=⟨_,rfl⟩
   rw [hw]
   have hb : Below w7.heap.size w7 w8:=by rw [← hw];exact (Below.refl _ _).alloc (Nat.le_refl _) _
   have HBf8:=hid (show Blk w8 w7.heap.size 32 (nV x7 af cf) by rw [← hw];exact Blk.new _ _ _)
   have HLf:=hid (show W.heap.size ≤ w7.heap.size by have:=HS7.out;omega);have HNEf:=hid (show (W.heap.size + 1) < w7.heap.size by have:=HS7.out;omega)
   have HK8:=hid (Kp.sb HK7.out hb)
   have HS8:=hid (show (W.heap.size + 2) ≤ w8.heap.size from Nat.le_trans HS7.out (hb).size)
   have HBr8:=hid (HBr7.out.own hb)
   have HBn8:=hid (HBn7.out.own hb)
   have HXn8:=hid (kidsS_below HXn7.out hb HOS.out (by have:=HS7.out;omega))
   have HXf8:=hid (kids_below HXf7.out hb)
   have HP8:=hid (HP7.out.next hb)
   have HR8:=HR7
   clear HK7 HS7 HBr7 HBn7 HXn7 HXf7
   clear hb hw HP7 HR7
   have hl:=HR8.out
   clear HR8
   rw [run_look] at hl
   obtain ⟨t,ht⟩ : ∃ t,tk E j7 = t:=⟨_,rfl⟩
   have HNX:=hid (fun W' (hb : Below w8.heap.size w8 W')=>next_calls hE (HP8.out.next hb))
   have hnx:=HNX.out
   clear HNX
   rw [ht] at hnx
   have HNX:=hid hnx
   rw [show tok (E.l.drop j7) = t from ht] at hl
   obtain ⟨c,hc⟩ : ∃ c,op rbr t = c:=⟨_,rfl⟩
   rw [hc] at hl
   have HR8:=hid hl;have HTt:=hid ht;have HCt:=hid hc
   clear hl hnx ht
   have hdc : decide (tk E j7 = (13,rbr)) = c:=by rw [HTt.out];exact same_op hc
   have HDC:=hid hdc
   clear hc hdc HNX
   go_wp2_with fail
   ((with_reducible refine (op_calls' _ _).mono ?_);rintro e w9 ⟨rfl,hb⟩)
   have HK9:=hid (Kp.sb HK8.out hb)
   have HS9:=hid (show (W.heap.size + 2) ≤ w9.heap.size from Nat.le_trans HS8.out (hb).size)
   have HBr9:=hid (HBr8.out.own hb)
   have HBn9:=hid (HBn8.out.own hb)
   have HBf9:=hid (HBf8.out.own hb)
   have HXn9:=hid (kidsS_below HXn8.out hb HOS.out (by have:=HS8.out;omega))
   have HXf9:=hid (kids_below HXf8.out hb)
   have HP9:=hid (HP8.out.next hb)
   have HR9:=HR8
   clear HK8 HS8 HBr8 HBn8 HBf8 HXn8 HXf8
   clear hb HP8 HR8
   have htk:=took_calls hE HP9.out (13,rbr) (fun e=>by cases e) c HDC.out
   unfold pB at htk
   have HTK:=hid htk
   clear htk HDC
   cases c with
   | true =>
    have hl:=HR9.out
    clear HR9
    rw [if_yes] at hl
    have HR9:=hid hl
    clear hl
    go_wp2_with fail
    ((with_reducible refine HTK.out.mono ?_);rintro e w10 ⟨rfl,hk,hp⟩)
    have HK10:=hid (Kp.tr HK9.out hk)
    have HS10:=hid (show (W.heap.size + 2) ≤ w10.heap.size from Nat.le_trans HS9.out (hk).size)
    have HBr10:=hid (Kp.blk' (n:=W.heap.size) HBr9.out hk HNP.out (Nat.le_succ _))
    have HBn10:=hid (Kp.blk' (n:=W.heap.size) HBn9.out hk HNP.out HLn.out)
    have HBf10:=hid (Kp.blk' (n:=W.heap.size) HBf9.out hk HNP.out HLf.out)
    have HXn10:=hid (kidsS_kp HXn9.out hk (fun k hk=>HNP.out k (by omega)) HOS.out (by have:=HS9.out;omega))
    have HXf10:=hid (kids_kp HXf9.out hk (fun k hk=>HNP.out k (by omega)))
    have hl:=HR9.out
    obtain ⟨j10,hj⟩ : ∃ n,j7 + 1 = n:=⟨_,rfl⟩
    have hp2 : Ps E w10 (j7 + 1):=hp
    rw [hj] at hp2
    have HP10:=hid hp2
    rw [run_move,hj] at hl
    have HR10:=hid hl
    clear hp2 hj
    clear HK9 HS9 HBr9 HBn9 HBf9 HXn9 HXf9
    clear hk hp hl HTK HR9 HP9
    have nc0:=HBn10.out.cell 0;have nf0:=HBn10.out.frozen 0
    have nc1:=HBn10.out.cell 1;have nf1:=HBn10.out.frozen 1
    have nc2:=HBn10.out.cell 2;have nf2:=HBn10.out.frozen 2
    have fc0:=HBf10.out.cell 0;have ff0:=HBf10.out.frozen 0
    have fc1:=HBf10.out.cell 1;have ff1:=HBf10.out.frozen 1
    have fc2:=HBf10.out.cell 2;have ff2:=HBf10.out.frozen 2
    have hrow:=Blk.new w10 32 #[.int .i64 x.k,.string x.t,.slice a x.kids.len c,.int .i64 x7.k,.string x7.t,.slice af x7.kids.len cf]
    have hba : Below w10.heap.size w10 (w10.alloc (.cells #[.int .i64 x.k,.string x.t,.slice a x.kids.len c,.int .i64 x7.k,.string x7.t,.slice af x7.kids.len cf] 32)):=(Below.refl _ _).alloc (Nat.le_refl _) _
    go_wp2_with fail
    ((with_reducible refine (node_calls _ _ _ _ _ _).mono ?_);rintro e w11 ⟨rfl,hbn⟩)
    have hb:=hba.trans (hbn.mono hba.size)
    have hrw:=hrow.own hbn
    have HK11:=hid (Kp.sb HK10.out hb)
    have HS11:=hid (show (W.heap.size + 2) ≤ w11.heap.size from Nat.le_trans HS10.out (hb).size)
    have HBr11:=hid (HBr10.out.own hb)
    have HBn11:=hid (HBn10.out.own hb)
    have HBf11:=hid (HBf10.out.own hb)
    have HXn11:=hid (kidsS_below HXn10.out hb HOS.out (by have:=HS10.out;omega))
    have HXf11:=hid (kids_below HXf10.out hb)
    have HP11:=hid (HP10.out.next hb)
    have hx:=rowS2 HXn11.out (kidsS_fr (S:=S) HXf11.out) hrw HS10.out
    have hfin:=fin_nodeS hE (x:=mk 18 d [x,x7]) H00.out HOS.out HP11.out HK11.out (Nat.le_succ _) HBr11.out hx
    obtain rfl : o = .ok (E.l.drop j10) (mk 18 d [x,x7]):=(Option.some.inj HR10.out).symm
    have rc0:=HBr11.out.cell 0;have rf0:=HBr11.out.frozen 0
    have rc1:=HBr11.out.cell 1;have rf1:=HBr11.out.frozen 1
    have rc2:=HBr11.out.cell 2;have rf2:=HBr11.out.frozen 2
    have g0:=hfin.1.cell 0;have g1:=hfin.1.cell 1;have g2:=hfin.1.cell 2
    have HF:=hid hfin.2
    simp only [mk,Fo.ofL,Fo.len] at g0 g1 g2
    clear hfin
    go_wp2_with fail
    refine bodyPost_ret (v:=.agg (nV (mk 18 d [x,x7]) (some ⟨w10.heap.size,0,none⟩) 2)) (by simp [results,Tryz.results190,go_sem,g0,g1,g2,mk,Fo.ofL,Fo.len]) rfl ?_
    exact HF.out
   | false =>
    have hl:=HR9.out
    clear HR9
    rw [if_no] at hl
    have HR9:=hid hl
    clear hl
    go_wp2_with fail
    ((with_reducible refine HTK.out.mono ?_);rintro e w10 ⟨rfl,hk,hp⟩)
    have HK10:=hid (Kp.tr HK9.out hk)
    have HS10:=hid (show (W.heap.size + 2) ≤ w10.heap.size from Nat.le_trans HS9.out (hk).size)
    have HBr10:=hid (Kp.blk' (n:=W.heap.size) HBr9.out hk HNP.out (Nat.le_succ _))
    have HBn10:=hid (Kp.blk' (n:=W.heap.size) HBn9.out hk HNP.out HLn.out)
    have HBf10:=hid (Kp.blk' (n:=W.heap.size) HBf9.out hk HNP.out HLf.out)
    have HXn10:=hid (kidsS_kp HXn9.out hk (fun k hk=>HNP.out k (by omega)) HOS.out (by have:=HS9.out;omega))
    have HXf10:=hid (kids_kp HXf9.out hk (fun k hk=>HNP.out k (by omega)))
    have hl:=HR9.out
    have HP10:=hid (show Ps E w10 j7 from hp)
    have HR10:=hid hl
    clear HK9 HS9 HBr9 HBn9 HBf9 HXn9 HXf9
    clear hk hp hl HTK HR9 HP9
    go_wp2_with fail
    ((with_reducible refine (op_calls' _ _).mono ?_);rintro e w11 ⟨rfl,hb⟩)
    have HK11:=hid (Kp.sb HK10.out hb)
    have HS11:=hid (show (W.heap.size + 2) ≤ w11.heap.size from Nat.le_trans HS10.out (hb).size)
    have HBr11:=hid (HBr10.out.own hb)
    have HBn11:=hid (HBn10.out.own hb)
    have HBf11:=hid (HBf10.out.own hb)
    have HXn11:=hid (kidsS_below HXn10.out hb HOS.out (by have:=HS10.out;omega))
    have HXf11:=hid (kids_below HXf10.out hb)
    have HP11:=hid (HP10.out.next hb)
    have HR11:=HR10
    clear HK10 HS10 HBr10 HBn10 HBf10 HXn10 HXf10
    clear hb HP10 HR10
    obtain ⟨o12,h12,hr12⟩:=bind_run HR11.out
    have hcall:=Tl.at (must_op hE in_colon) HP11.out h12
    have HC:=hid hcall;have HR12:=hid hr12
    clear hcall h12 hr12 HR11 HP11
    unfold pB at HC
    try unfold methV at HC
    go_wp2_with fail
    ((with_reducible refine HC.out.mono ?_);rintro e w12 ⟨hk,hm⟩)
    clear HC
    rcases o12 with ⟨r12,x12⟩ | ⟨r12⟩
    rotate_left
    ·obtain ⟨j,hj,hd,rfl⟩:=hm
     obtain rfl : o = .bad r12:=(Option.some.inj HR12.out).symm
     exact ⟨rfl,Kp.tr HK11.out hk,j,hj,hd,rfl⟩
    obtain ⟨v12,j12,rfl,hp,rfl,hR⟩:=hm
    have HK12:=hid (Kp.tr HK11.out hk)
    have HS12:=hid (show (W.heap.size + 2) ≤ w12.heap.size from Nat.le_trans HS11.out (hk).size)
    have HBr12:=hid (Kp.blk' (n:=W.heap.size) HBr11.out hk HNP.out (Nat.le_succ _))
    have HBn12:=hid (Kp.blk' (n:=W.heap.size) HBn11.out hk HNP.out HLn.out)
    have HBf12:=hid (Kp.blk' (n:=W.heap.size) HBf11.out hk HNP.out HLf.out)
    have HXn12:=hid (kidsS_kp HXn11.out hk (fun k hk=>HNP.out k (by omega)) HOS.out (by have:=HS11.out;omega))
    have HXf12:=hid (kids_kp HXf11.out hk (fun k hk=>HNP.out k (by omega)))
    have HP12:=hid hp
    obtain rfl:=hR
    clear hk hp
    have hl:=HR12.out
    clear HR12
    dsimp only at hl
    have HR12:=hid hl
    clear hl
    clear HK11 HS11 HBr11 HBn11 HBf11 HXn11 HXf11
    have hl:=HR12.out
    clear HR12
    rw [run_look] at hl
    obtain ⟨t,ht⟩ : ∃ t,tk E j12 = t:=⟨_,rfl⟩
    have HNX:=hid (fun W' (hb : Below w12.heap.size w12 W')=>next_calls hE (HP12.out.next hb))
    have hnx:=HNX.out
    clear HNX
    rw [ht] at hnx
    have HNX:=hid hnx
    rw [show tok (E.l.drop j12) = t from ht] at hl
    obtain ⟨c,hc⟩ : ∃ c,op rbr t = c:=⟨_,rfl⟩
    rw [hc] at hl
    have HR12:=hid hl;have HTt:=hid ht;have HCt:=hid hc
    clear hl hnx ht
    have hdc : decide (tk E j12 = (13,rbr)) = c:=by rw [HTt.out];exact same_op hc
    have HDC:=hid hdc
    clear hc hdc HNX
    go_wp2_with fail
    ((with_reducible refine (op_calls' _ _).mono ?_);rintro e w13 ⟨rfl,hb⟩)
    have HK13:=hid (Kp.sb HK12.out hb)
    have HS13:=hid (show (W.heap.size + 2) ≤ w13.heap.size from Nat.le_trans HS12.out (hb).size)
    have HBr13:=hid (HBr12.out.own hb)
    have HBn13:=hid (HBn12.out.own hb)
    have HBf13:=hid (HBf12.out.own hb)
    have HXn13:=hid (kidsS_below HXn12.out hb HOS.out (by have:=HS12.out;omega))
    have HXf13:=hid (kids_below HXf12.out hb)
    have HP13:=hid (HP12.out.next hb)
    have HR13:=HR12
    clear HK12 HS12 HBr12 HBn12 HBf12 HXn12 HXf12
    clear hb HP12 HR12
    have htk:=took_calls hE HP13.out (13,rbr) (fun e=>by cases e) c HDC.out
    unfold pB at htk
    have HTK:=hid htk
    clear htk HDC
    cases c with
    | true =>
     have hl:=HR13.out
     clear HR13
     rw [if_yes] at hl
     have HR13:=hid hl
     clear hl
     go_wp2_with fail
     ((with_reducible refine HTK.out.mono ?_);rintro e w14 ⟨rfl,hk,hp⟩)
     have HK14:=hid (Kp.tr HK13.out hk)
     have HS14:=hid (show (W.heap.size + 2) ≤ w14.heap.size from Nat.le_trans HS13.out (hk).size)
     have HBr14:=hid (Kp.blk' (n:=W.heap.size) HBr13.out hk HNP.out (Nat.le_succ _))
     have HBn14:=hid (Kp.blk' (n:=W.heap.size) HBn13.out hk HNP.out HLn.out)
     have HBf14:=hid (Kp.blk' (n:=W.heap.size) HBf13.out hk HNP.out HLf.out)
     have HXn14:=hid (kidsS_kp HXn13.out hk (fun k hk=>HNP.out k (by omega)) HOS.out (by have:=HS13.out;omega))
     have HXf14:=hid (kids_kp HXf13.out hk (fun k hk=>HNP.out k (by omega)))
     have hl:=HR13.out
     obtain ⟨j14,hj⟩ : ∃ n,j12 + 1 = n:=⟨_,rfl⟩
     have hp2 : Ps E w14 (j12 + 1):=hp
     rw [hj] at hp2
     have HP14:=hid hp2
     rw [run_move,hj] at hl
     have HR14:=hid hl
     clear hp2 hj
     clear HK13 HS13 HBr13 HBn13 HBf13 HXn13 HXf13
     clear hk hp hl HTK HR13 HP13
     have nc0:=HBn14.out.cell 0;have nf0:=HBn14.out.frozen 0
     have nc1:=HBn14.out.cell 1;have nf1:=HBn14.out.frozen 1
     have nc2:=HBn14.out.cell 2;have nf2:=HBn14.out.frozen 2
     have fc0:=HBf14.out.cell 0;have ff0:=HBf14.out.frozen 0
     have fc1:=HBf14.out.cell 1;have ff1:=HBf14.out.frozen 1
     have fc2:=HBf14.out.cell 2;have ff2:=HBf14.out.frozen 2
     have HXz14:=hid (kids_nil (Fr (W.heap.size + 2) (w14)) (w14) none 0)
     have hrow:=Blk.new w14 32 #[.int .i64 x.k,.string x.t,.slice a x.kids.len c,.int .i64 x7.k,.string x7.t,.slice af x7.kids.len cf,.int .i64 none0.k,.string none0.t,.slice none none0.kids.len 0]
     have hba : Below w14.heap.size w14 (w14.alloc (.cells #[.int .i64 x.k,.string x.t,.slice a x.kids.len c,.int .i64 x7.k,.string x7.t,.slice af x7.kids.len cf,.int .i64 none0.k,.string none0.t,.slice none none0.kids.len 0] 32)):=(Below.refl _ _).alloc (Nat.le_refl _) _
     go_wp2_with fail
     ((with_reducible refine (node_calls _ _ _ _ _ _).mono ?_);rintro e w15 ⟨rfl,hbn⟩)
     have hb:=hba.trans (hbn.mono hba.size)
     have hrw:=hrow.own hbn
     have HK15:=hid (Kp.sb HK14.out hb)
     have HS15:=hid (show (W.heap.size + 2) ≤ w15.heap.size from Nat.le_trans HS14.out (hb).size)
     have HBr15:=hid (HBr14.out.own hb)
     have HBn15:=hid (HBn14.out.own hb)
     have HBf15:=hid (HBf14.out.own hb)
     have HXn15:=hid (kidsS_below HXn14.out hb HOS.out (by have:=HS14.out;omega))
     have HXf15:=hid (kids_below HXf14.out hb)
     have HXz15:=hid (kids_below HXz14.out hb)
     have HP15:=hid (HP14.out.next hb)
     have hx:=rowS3 HXn15.out (kidsS_fr (S:=S) HXf15.out) (kidsS_fr (S:=S) HXz15.out) hrw HS14.out
     have hfin:=fin_nodeS hE (x:=mk 19 d [x,x7,none0]) H00.out HOS.out HP15.out HK15.out (Nat.le_succ _) HBr15.out hx
     obtain rfl : o = .ok (E.l.drop j14) (mk 19 d [x,x7,none0]):=(Option.some.inj HR14.out).symm
     have rc0:=HBr15.out.cell 0;have rf0:=HBr15.out.frozen 0
     have rc1:=HBr15.out.cell 1;have rf1:=HBr15.out.frozen 1
     have rc2:=HBr15.out.cell 2;have rf2:=HBr15.out.frozen 2
     have g0:=hfin.1.cell 0;have g1:=hfin.1.cell 1;have g2:=hfin.1.cell 2
     have HF:=hid hfin.2
     simp only [mk,Fo.ofL,Fo.len] at g0 g1 g2
     clear hfin
     go_wp2_with fail
     refine bodyPost_ret (v:=.agg (nV (mk 19 d [x,x7,none0]) (some ⟨w14.heap.size,0,none⟩) 3)) (by simp [results,Tryz.results190,go_sem,g0,g1,g2,mk,Fo.ofL,Fo.len]) rfl ?_
     exact HF.out
    | false =>
     have hl:=HR13.out
     clear HR13
     rw [if_no] at hl
     have HR13:=hid hl
     clear hl
     go_wp2_with fail
     ((with_reducible refine HTK.out.mono ?_);rintro e w14 ⟨rfl,hk,hp⟩)
     have HK14:=hid (Kp.tr HK13.out hk)
     have HS14:=hid (show (W.heap.size + 2) ≤ w14.heap.size from Nat.le_trans HS13.out (hk).size)
     have HBr14:=hid (Kp.blk' (n:=W.heap.size) HBr13.out hk HNP.out (Nat.le_succ _))
     have HBn14:=hid (Kp.blk' (n:=W.heap.size) HBn13.out hk HNP.out HLn.out)
     have HBf14:=hid (Kp.blk' (n:=W.heap.size) HBf13.out hk HNP.out HLf.out)
     have HXn14:=hid (kidsS_kp HXn13.out hk (fun k hk=>HNP.out k (by omega)) HOS.out (by have:=HS13.out;omega))
     have HXf14:=hid (kids_kp HXf13.out hk (fun k hk=>HNP.out k (by omega)))
     have hl:=HR13.out
     have HP14:=hid (show Ps E w14 j12 from hp)
     have HR14:=hid hl
     clear HK13 HS13 HBr13 HBn13 HBf13 HXn13 HXf13
     clear hk hp hl HTK HR13 HP13
     go_upto_region 12 with fail
     have hb:=(Below.refl w14.heap.size w14).drew
     have HK15:=hid (Kp.sb HK14.out hb)
     have HS15:=hid (show (W.heap.size + 2) ≤ w14.drew.heap.size from Nat.le_trans HS14.out (hb).size)
     have HBr15:=hid (HBr14.out.own hb)
     have HBn15:=hid (HBn14.out.own hb)
     have HBf15:=hid (HBf14.out.own hb)
     have HXn15:=hid (kidsS_below HXn14.out hb HOS.out (by have:=HS14.out;omega))
     have HXf15:=hid (kids_below HXf14.out hb)
     have HP15:=hid (HP14.out.next hb)
     have HR15:=HR14
     clear HK14 HS14 HBr14 HBn14 HBf14 HXn14 HXf14
     clear hb HP14 HR14
     have hS0 : C3 W.heap.size (.int .i64 x.k) (.string x.t) (.slice a x.kids.len c) w14.drew ∧ C3 w7.heap.size (.int .i64 x7.k) (.string x7.t) (.slice af x7.kids.len cf) w14.drew:=⟨C3.of HBn15.out,C3.of HBf15.out⟩
     have hnen : (W.heap.size + 1) ≠ W.heap.size:=by have:=HNEn.out;omega
     have hnef : (W.heap.size + 1) ≠ w7.heap.size:=by have:=HNEf.out;omega
     obtain ⟨o16,h16,hr16⟩:=bind_run HR15.out
     have hcall:=Tl.at hqt HP15.out h16
     have HC:=hid hcall;have HR16:=hid hr16
     clear hcall h16 hr16 HR15 HP15
     unfold pB at HC
     try unfold methV at HC
     go_region_held (fun u=>C3 W.heap.size (.int .i64 x.k) (.string x.t) (.slice a x.kids.len c) u ∧ C3 w7.heap.size (.int .i64 x7.k) (.string x7.t) (.slice af x7.kids.len cf) u)
      (first | assumption | (have hc:=(by assumption : C3 W.heap.size (.int .i64 x.k) (.string x.t) (.slice a x.kids.len c) _ ∧ C3 w7.heap.size (.int .i64 x7.k) (.string x7.t) (.slice af x7.kids.len cf) _);obtain ⟨hh0,hh1⟩:=hc;exact ⟨C3.alloc hh0 _,C3.alloc hh1 _⟩) | (have hc:=(by assumption : C3 W.heap.size (.int .i64 x.k) (.string x.t) (.slice a x.kids.len c) _ ∧ C3 w7.heap.size (.int .i64 x7.k) (.string x7.t) (.slice af x7.kids.len cf) _);obtain ⟨hh0,hh1⟩:=hc;exact ⟨C3.set hh0 hnen _ _ _,C3.set hh1 hnef _ _ _⟩))
      (first
       | (go_at_call 116;(with_reducible refine HC.out.mono ?_);rintro e w16 ⟨hk,hm⟩;clear HC;rcases o16 with ⟨r16,x16⟩ | ⟨r16⟩;rotate_left;(obtain ⟨j,hj,hd,rfl⟩:=hm;obtain rfl : o = .bad r16:=(Option.some.inj HR16.out).symm;exact ⟨rfl,Kp.tr HK15.out hk,j,hj,hd,rfl⟩);obtain ⟨v16,j16,rfl,hp,rfl,hR⟩:=hm;have HK16:=hid (Kp.tr HK15.out hk);have HS16:=hid (show (W.heap.size + 2) ≤ w16.heap.size from Nat.le_trans HS15.out (hk).size);have HBr16:=hid (Kp.blk' (n:=W.heap.size) HBr15.out hk HNP.out (Nat.le_succ _));have HBn16:=hid (Kp.blk' (n:=W.heap.size) HBn15.out hk HNP.out HLn.out);have HBf16:=hid (Kp.blk' (n:=W.heap.size) HBf15.out hk HNP.out HLf.out);have HXn16:=hid (kidsS_kp HXn15.out hk (fun k hk=>HNP.out k (by omega)) HOS.out (by have:=HS15.out;omega));have HXf16:=hid (kids_kp HXf15.out hk (fun k hk=>HNP.out k (by omega)));have HP16:=hid hp;obtain ⟨ay,cy,rfl,hx⟩:=kids_new (n:=(W.heap.size + 2)) hR HS15.out;have HXy16:=hid hx;clear hk hp hR hx;have hl:=HR16.out;clear HR16;dsimp only at hl;have HR16:=hid hl;clear hl;clear HK15 HS15 HBr15 HBn15 HBf15 HXn15 HXf15;have hS16 : C3 W.heap.size (.int .i64 x.k) (.string x.t) (.slice a x.kids.len c) w16 ∧ C3 w7.heap.size (.int .i64 x7.k) (.string x7.t) (.slice af x7.kids.len cf) w16:=⟨C3.of HBn16.out,C3.of HBf16.out⟩)
       | (go_at_call 85;(with_reducible refine (node_calls _ _ _ _ _ _).mono ?_);rintro e w17 ⟨rfl,hbn⟩;have hrow:=Blk.new w16 32 #[.int .i64 x.k,.string x.t,.slice a x.kids.len c,.int .i64 x7.k,.string x7.t,.slice af x7.kids.len cf,.int .i64 x16.k,.string x16.t,.slice ay x16.kids.len cy];have hba : Below w16.heap.size w16 (w16.alloc (.cells #[.int .i64 x.k,.string x.t,.slice a x.kids.len c,.int .i64 x7.k,.string x7.t,.slice af x7.kids.len cf,.int .i64 x16.k,.string x16.t,.slice ay x16.kids.len cy] 32)):=(Below.refl _ _).alloc (Nat.le_refl _) _;have hb:=hba.trans (hbn.mono hba.size);have hrw:=hrow.own hbn;have HK17:=hid (Kp.sb HK16.out hb);have HS17:=hid (show (W.heap.size + 2) ≤ w17.heap.size from Nat.le_trans HS16.out (hb).size);have HBr17:=hid (HBr16.out.own hb);have HBn17:=hid (HBn16.out.own hb);have HBf17:=hid (HBf16.out.own hb);have HXn17:=hid (kidsS_below HXn16.out hb HOS.out (by have:=HS16.out;omega));have HXf17:=hid (kids_below HXf16.out hb);have HXy17:=hid (kids_below HXy16.out hb);have HP17:=hid (HP16.out.next hb);have hx:=rowS3 HXn17.out (kidsS_fr (S:=S) HXf17.out) (kidsS_fr (S:=S) HXy17.out) hrw HS16.out;have hS17 : C3 W.heap.size (.int .i64 x.k) (.string x.t) (.slice a x.kids.len c) w17 ∧ C3 w7.heap.size (.int .i64 x7.k) (.string x7.t) (.slice af x7.kids.len cf) w17:=⟨C3.of HBn17.out,C3.of HBf17.out⟩;have rc0:=HBr17.out.cell 0;have rf0:=HBr17.out.frozen 0;have rc1:=HBr17.out.cell 1;have rf1:=HBr17.out.frozen 1;have rc2:=HBr17.out.cell 2;have rf2:=HBr17.out.frozen 2))
     have hfin:=fin_nodeS hE (x:=(mk 19 d [x,x7,x16])) H00.out HOS.out HP17.out HK17.out (Nat.le_succ _) HBr17.out hx
     obtain rfl : o = .ok (E.l.drop j16) (mk 19 d [x,x7,x16]):=(Option.some.inj HR16.out).symm
     have g0:=hfin.1.cell 0;have g1:=hfin.1.cell 1;have g2:=hfin.1.cell 2
     have HF:=hid hfin.2
     simp only [mk,Fo.ofL,Fo.len] at g0 g1 g2
     clear hfin
     go_wp2_with fail
     refine bodyPost_ret (v:=.agg (nV (mk 19 d [x,x7,x16]) (some ⟨w16.heap.size,0,none⟩) 3)) (by simp [results,Tryz.results190,go_sem,g0,g1,g2,mk,Fo.ofL,Fo.len]) rfl ?_
     exact HF.out
end Go.Proofs.YtlklhkkjcfmefaaGreatDoor.pa
namespace Go.Proofs.YtlklhkkjcfmefaaGreatDoor.pa
open Go.RowKit nd pr sx ed
def An (n b : Nat) (W : World) (k : Nat) : Prop:=n ≤ k ∧ k < W.heap.size ∧ k ≠ b
theorem an_kp {E : Env} {n b : Nat} {w w' : World} {f : Fo} {v : Value} (h : KidsAt (An n b w) w f v) (hk : Kp E w w') (hn : ∀ k,n ≤ k → ¬ Pm E k) : KidsAt (An n b w') w' f v :=
 h.keep (fun k e=>⟨e.1,Nat.lt_of_lt_of_le e.2.1 hk.size,e.2.2⟩) (fun k e=>hk.block k e.2.1 (hn k e.1))
theorem an_below {n b : Nat} {w w' : World} {f : Fo} {v : Value} (h : KidsAt (An n b w) w f v) (hk : Below w.heap.size w w') : KidsAt (An n b w') w' f v :=
 h.keep (fun k e=>⟨e.1,Nat.lt_of_lt_of_le e.2.1 hk.size,e.2.2⟩) (fun k e=>hk.block k e.2.1)
theorem an_fr {n b : Nat} {w : World} {f : Fo} {v : Value} (h : KidsAt (An n b w) w f v) : KidsAt (Fr n w) w f v:=h.keep (fun k e=>⟨e.1,e.2.1⟩) (fun _ _=>rfl)
theorem an_first {n : Nat} {w w' : World} {f : Fo} {v : Value} (h : KidsAt (Fr n w) w f v) (hb : Below w.heap.size w w') : KidsAt (An n w.heap.size w') w' f v :=
 h.keep (fun k e=>⟨e.1,Nat.lt_of_lt_of_le e.2 hb.size,fun e'=>by have:=e.2;omega⟩) (fun k e=>hb.block k e.2)
theorem an_old {E : Env} {n b : Nat} {w : World} (hn : ∀ k,n ≤ k → ¬ Pm E k) : OldS E w (An n b w):=fun k e=>⟨e.2.1,hn k e.1⟩
theorem an_newS {n b : Nat} {w w' : World} {x : Nd} {v : Value} (h : RNS (An n b w) x v w w') (hn : n ≤ w.heap.size) (hb : b < w.heap.size) (hs : w.heap.size ≤ w'.heap.size) : ∃ a c,v = .agg #[.int .i64 x.k,.string x.t,.slice a x.kids.len c] ∧ KidsAt (An n b w') w' x.kids (.slice a x.kids.len c):=by
 obtain ⟨s,rfl,hk⟩:=h
 obtain ⟨a,c,rfl,hm⟩:=hk.slice
 exact ⟨a,c,rfl,hk.keep (fun k e=>by
  rcases e with e | e
  ·exact ⟨e.1,Nat.lt_of_lt_of_le e.2.1 hs,e.2.2⟩
  ·exact ⟨Nat.le_trans hn e.1,e.2,by have:=e.1;omega⟩) (fun _ _=>rfl)⟩
theorem an_new {n b : Nat} {w w' : World} {x : Nd} {v : Value} (h : RN x v w w') (hn : n ≤ w.heap.size) (hb : b < w.heap.size) : ∃ a c,v = .agg #[.int .i64 x.k,.string x.t,.slice a x.kids.len c] ∧ KidsAt (An n b w') w' x.kids (.slice a x.kids.len c):=by
 obtain ⟨s,rfl,hk⟩:=h
 obtain ⟨a,c,rfl,hm⟩:=hk.slice
 exact ⟨a,c,rfl,hk.keep (fun k e=>⟨Nat.le_trans hn e.1,e.2,by have:=e.1;omega⟩) (fun _ _=>rfl)⟩
theorem an_row {n b : Nat} {w : World} {g : Nat} {l : List Nd} {L : List Value} (hc : CellsOf (An n b w) w (Fo.ofL l) L) (hb : Blk w g 32 L.toArray) (hg : n ≤ g) (hgb : g ≠ b) (m : Nat) (hm : (Fo.ofL l).len = m) (hmax : m ≤ maxLen) :
  KidsAt (An n b w) w (Fo.ofL l) (.slice (some ⟨g,0,none⟩) m m):=by
 subst hm
 refine ⟨_,_,rfl,hmax,fun _=>⟨g,0,rfl,⟨hg,hb.lt,hgb⟩,CellsOf.row (o:=0) hc fun j u hj=>?_⟩⟩
 rw [Nat.zero_add,hb.cell j]
 simpa using hj
theorem an_row1 {n b : Nat} {w : World} {g : Nat} {x : Nd} {s : Value} (h : KidsAt (An n b w) w x.kids s) (hb : Blk w g 32 #[.int .i64 x.k,.string x.t,s]) (hg : n ≤ g) (hgb : g ≠ b) : KidsAt (An n b w) w (Fo.ofL [x]) (.slice (some ⟨g,0,none⟩) 1 1) :=
 an_row (l:=[x]) (L:=[.int .i64 x.k,.string x.t,s]) (cells_one h) hb hg hgb 1 rfl (by decide)
theorem an_row2 {n b : Nat} {w : World} {g : Nat} {x y : Nd} {s r : Value} (h : KidsAt (An n b w) w x.kids s) (h2 : KidsAt (An n b w) w y.kids r) (hb : Blk w g 32 #[.int .i64 x.k,.string x.t,s,.int .i64 y.k,.string y.t,r]) (hg : n ≤ g) (hgb : g ≠ b) : KidsAt (An n b w) w (Fo.ofL [x,y]) (.slice (some ⟨g,0,none⟩) 2 2) :=
 an_row (l:=[x,y]) (L:=[.int .i64 x.k,.string x.t,s,.int .i64 y.k,.string y.t,r]) (cells_two h h2) hb hg hgb 2 rfl (by decide)
theorem size3 (u : World) (B : Nat) (p q s : Value) : (((u.setCell ⟨B,0,none⟩ p).setCell ⟨B,1,none⟩ q).setCell ⟨B,2,none⟩ s).heap.size = u.heap.size:=by
 simp [World.setCell]
 repeat (first | split | rfl | simp)
theorem an_set3 {n b : Nat} {u : World} {f : Fo} {v : Value} (h : KidsAt (An n b u) u f v) (p q s : Value) : KidsAt (An n b (((u.setCell ⟨b,0,none⟩ p).setCell ⟨b,1,none⟩ q).setCell ⟨b,2,none⟩ s)) (((u.setCell ⟨b,0,none⟩ p).setCell ⟨b,1,none⟩ q).setCell ⟨b,2,none⟩ s) f v :=
 h.keep (fun k e=>⟨e.1,by rw [size3];exact e.2.1,e.2.2⟩) (fun k e=>set3h e.2.2 p q s)
structure NI (E : Env) (W : World) (b : Nat) (wr : World) (x : Nd) (a : Option Addr) (c j : Nat) : Prop where
 ps : Ps E wr j
 kp : Kp E W wr
 rb : Blk wr W.heap.size 32 nodeZ
 nb : Blk wr b 32 (nV x a c)
 kids : KidsAt (An (W.heap.size + 1) b wr) wr x.kids (.slice a x.kids.len c)
 ge : W.heap.size + 1 ≤ b
theorem NI.sz {E : Env} {W wr : World} {b : Nat} {x : Nd} {a : Option Addr} {c j : Nat} (h : NI E W b wr x a c j) : W.heap.size + 1 ≤ wr.heap.size:=Nat.le_trans h.ge (Nat.le_of_lt h.nb.lt)
theorem NI.go {E : Env} {W wr w' : World} {b : Nat} {x : Nd} {a : Option Addr} {c j j' : Nat} (h : NI E W b wr x a c j) (hf : ∀ k,W.heap.size ≤ k → ¬ Pm E k) (hk : Kp E wr w') (hp : Ps E w' j') : NI E W b w' x a c j' :=
 ⟨hp,Kp.tr h.kp hk,Kp.blk' h.rb hk hf (Nat.le_refl _),Kp.blk' h.nb hk hf (by have:=h.ge;omega),an_kp h.kids hk (fun k e=>hf k (by omega)),h.ge⟩
theorem NI.next {E : Env} {W wr w' : World} {b : Nat} {x : Nd} {a : Option Addr} {c j : Nat} (h : NI E W b wr x a c j) (hb : Below wr.heap.size wr w') : NI E W b w' x a c j :=
 ⟨h.ps.next hb,Kp.sb h.kp hb,h.rb.own hb,h.nb.own hb,an_below h.kids hb,h.ge⟩
theorem NI.put {E : Env} (hE : EnvOk E) {W u : World} {i b : Nat} {x y : Nd} {a a' : Option Addr} {c c' j : Nat} (h : NI E W b u x a c j) (h0 : Ps E W i) (hy : KidsAt (An (W.heap.size + 1) b u) u y.kids (.slice a' y.kids.len c')) :
  NI E W b (((u.setCell ⟨b,0,none⟩ (.int .i64 y.k)).setCell ⟨b,1,none⟩ (.string y.t)).setCell ⟨b,2,none⟩ (.slice a' y.kids.len c')) y a' c' j:=by
 have hge:=h.ge
 have hne : ¬ Pm E b:=h0.not_pm (by omega)
 have ht : b ≠ E.T:=fun e=>by have:=h0.tlt;omega
 have h00 : E.W0.heap.size ≤ b:=Nat.le_trans h0.old.size (by omega)
 exact ⟨h.ps.set3 hE hne ht h00 _ _ _,h.kp.set3 (by omega) _ _ _,(set3h (by omega) _ _ _).trans h.rb,set3b h.nb _ _ _,an_set3 hy _ _ _,h.ge⟩
theorem NI.side {E : Env} (hE : EnvOk E) {W w u : World} {i b g : Nat} {x : Nd} {a : Option Addr} {c j j' : Nat} (h : NI E W b w x a c j') (h2 : NI E W b u x a c j) (h0 : Ps E W i) (hg : w.heap.size ≤ g) (hs : w.heap.size ≤ u.heap.size) (hk : ∀ k,k < w.heap.size → W.heap.size ≤ k → u.heap[k]? = w.heap[k]?) (p q s : Value) :
  NI E W b (((u.setCell ⟨g,0,none⟩ p).setCell ⟨g,1,none⟩ q).setCell ⟨g,2,none⟩ s) x a c j:=by
 have hge:=h.ge;have hsz:=h.sz;have hlt:=h.nb.lt
 have hne : ¬ Pm E g:=h0.not_pm (by omega)
 have ht : g ≠ E.T:=fun e=>by have:=h0.tlt;omega
 have h00 : E.W0.heap.size ≤ g:=Nat.le_trans h0.old.size (by omega)
 exact ⟨h2.ps.set3 hE hne ht h00 _ _ _,h2.kp.set3 (by omega) _ _ _,(set3h (by omega) _ _ _).trans h2.rb,(set3h (by omega) _ _ _).trans h2.nb,
  h.kids.keep (fun k e=>⟨e.1,by rw [size3];exact Nat.lt_of_lt_of_le e.2.1 hs,e.2.2⟩) (fun k e=>(set3h (by have:=e.2.1;omega) p q s).trans (hk k e.2.1 (by have:=e.1;omega))),h.ge⟩
def placeOf (W : World) (B : Nat) : Nat:=match W.cell? ⟨B,1,none⟩ with
 | some (.int _ n)=>n.toNat
 | _=>0
theorem Ps.place {E : Env} {W : World} {i : Nat} (h : Ps E W i) : placeOf W E.B = i:=by
 have c1 : W.cell? ⟨E.B,1,none⟩ = some (.int .i64 (i : Int)):=h.blk.cell 1
 unfold placeOf
 rw [c1];exact Int.toNat_natCast i
theorem Pa.shorter {α : Type} : ∀ (p : Pa α) {r r' : List Tk} {x : α},p.run r = some (.ok r' x) → r'.length ≤ r.length:=by
 intro p
 induction p with
 | ret y=>intro r r' x h;cases h;exact Nat.le_refl _
 | bad=>intro r r' x h;cases h
 | out=>intro r r' x h;cases h
 | look k ih=>intro r r' x h;exact ih _ h
 | peek k ih=>intro r r' x h;exact ih _ h
 | ended k ih=>intro r r' x h;exact ih _ h
 | move k ih=>intro r r' x h;exact Nat.le_trans (ih h) (by simp)
theorem drop_le {l : List Tk} {i j : Nat} (hi : i ≤ l.length) (hj : j ≤ l.length) (h : (l.drop j).length ≤ (l.drop i).length) : i ≤ j:=by
 simp only [List.length_drop] at h
 omega
end Go.Proofs.YtlklhkkjcfmefaaGreatDoor.pa
