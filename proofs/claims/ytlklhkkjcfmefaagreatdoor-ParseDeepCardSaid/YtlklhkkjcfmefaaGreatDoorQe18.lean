/- Ground of the law: PaP8, PaOnly. -/
import Derived.Test.YtlklhkkjcfmefaaGreatDoorQe16
import Derived.Test.YtlklhkkjcfmefaaGreatDoorQe17
set_option maxRecDepth 100000
set_option maxHeartbeats 8000000
set_option linter.unusedVariables false
set_option linter.unusedSimpArgs false
namespace Go.Proofs.YtlklhkkjcfmefaaGreatDoor.pa
open Go.Lib (hid)
open Go.RowKit nd pr sx ed
theorem minus_tl {E : Env} (hE : EnvOk E) {g : FuncId} (hen : Enters g) {q : Pa Nd} (hq : Tl E q RN g #[pB E]) : Tl E (need minus (q.bind fun x=>.ret (mk 25 eB [x]))) RN 212 #[pB E,methV g E.B]:=by
 intro W i o hp hr
 rw [need_bind minus] at hr
 have HNP:=hid hp.far;have H00:=hid hp
 obtain ⟨W0,hW0⟩ : ∃ W0,W.alloc (.cells nodeZ 32) = W0:=⟨_,rfl⟩
 have hb0 : Below W.heap.size W W0:=by rw [← hW0];exact (Below.refl _ W).alloc (Nat.le_refl _) _
 have hk0 : Blk W0 W.heap.size 32 nodeZ:=by rw [← hW0];exact Blk.new W _ _
 have hs0 : W.heap.size + 1 ≤ W0.heap.size:=by rw [← hW0];simp
 have HW0:=hid hW0;have HK0:=hid (Kp.of_below (E:=E) hb0);have HP0:=hid (hp.next hb0);have HS0:=hid hs0;have HR0:=hid hr
 have HBr0:=hid hk0
 clear hW0 hb0 hk0 hs0 hp hr
 unfold pB methV
 go_enter Tryz.func212,Tryz.ntmps212
 go_upto_region 1 with fail
 rw [HW0.out]
 go_wp2_with fail
 ((with_reducible refine (op_calls' _ _).mono ?_);rintro e w1 ⟨rfl,hb⟩)
 have HK1:=hid (Kp.sb HK0.out hb)
 have HS1:=hid (show (W.heap.size + 1) ≤ w1.heap.size from Nat.le_trans HS0.out (hb).size)
 have HBr1:=hid (HBr0.out.own hb)
 have HP1:=hid (HP0.out.next hb)
 have HR1:=HR0
 clear HK0 HS0 HBr0
 clear hb HP0 HR0
 obtain ⟨o2,h2,hr2⟩:=bind_run HR1.out
 have hcall:=Tl.at (must_op hE in_minus) HP1.out h2
 have HC:=hid hcall;have HR2:=hid hr2
 clear hcall h2 hr2 HR1 HP1
 unfold pB at HC
 try unfold methV at HC
 go_wp2_with fail
 ((with_reducible refine HC.out.mono ?_);rintro e w2 ⟨hk,hm⟩)
 clear HC
 rcases o2 with ⟨r2,x2⟩ | ⟨r2⟩
 rotate_left
 ·obtain ⟨j,hj,hd,rfl⟩:=hm
  obtain rfl : o = .bad r2:=(Option.some.inj HR2.out).symm
  exact ⟨rfl,Kp.tr HK1.out hk,j,hj,hd,rfl⟩
 obtain ⟨v2,j2,rfl,hp,rfl,hR⟩:=hm
 have HK2:=hid (Kp.tr HK1.out hk)
 have HS2:=hid (show (W.heap.size + 1) ≤ w2.heap.size from Nat.le_trans HS1.out (hk).size)
 have HBr2:=hid (Kp.blk' (n:=W.heap.size) HBr1.out hk HNP.out (Nat.le_refl _))
 have HP2:=hid hp
 obtain rfl:=hR
 clear hk hp
 have hl:=HR2.out
 clear HR2
 dsimp only at hl
 have HR2:=hid hl
 clear hl
 clear HK1 HS1 HBr1
 obtain ⟨o3,h3,hr3⟩:=bind_run HR2.out
 have hcall:=Tl.at hq HP2.out h3
 have HC:=hid hcall;have HR3:=hid hr3
 clear hcall h3 hr3 HR2 HP2
 unfold pB at HC
 try unfold methV at HC
 go_wp2_with fail
 ((with_reducible refine HC.out.mono ?_);rintro e w3 ⟨hk,hm⟩)
 clear HC
 rcases o3 with ⟨r3,x3⟩ | ⟨r3⟩
 rotate_left
 ·obtain ⟨j,hj,hd,rfl⟩:=hm
  obtain rfl : o = .bad r3:=(Option.some.inj HR3.out).symm
  exact ⟨rfl,Kp.tr HK2.out hk,j,hj,hd,rfl⟩
 obtain ⟨v3,j3,rfl,hp,rfl,hR⟩:=hm
 have HK3:=hid (Kp.tr HK2.out hk)
 have HS3:=hid (show (W.heap.size + 1) ≤ w3.heap.size from Nat.le_trans HS2.out (hk).size)
 have HBr3:=hid (Kp.blk' (n:=W.heap.size) HBr2.out hk HNP.out (Nat.le_refl _))
 have HP3:=hid hp
 obtain ⟨ax,cx,rfl,hx⟩:=kids_new (n:=(W.heap.size + 1)) hR HS2.out
 have HXx3:=hid hx
 clear hk hp hR hx
 have hl:=HR3.out
 clear HR3
 dsimp only at hl
 have HR3:=hid hl
 clear hl
 clear HK2 HS2 HBr2
 have hrow:=Blk.new w3 32 #[.int .i64 x3.k,.string x3.t,.slice ax x3.kids.len cx]
 have hba : Below w3.heap.size w3 (w3.alloc (.cells #[.int .i64 x3.k,.string x3.t,.slice ax x3.kids.len cx] 32)):=(Below.refl _ _).alloc (Nat.le_refl _) _
 go_wp2_with fail
 ((with_reducible refine (node_calls _ _ _ _ _ _).mono ?_);rintro e w4 ⟨rfl,hbn⟩)
 have hb:=hba.trans (hbn.mono hba.size)
 have hrw:=hrow.own hbn
 have HK4:=hid (Kp.sb HK3.out hb)
 have HS4:=hid (show (W.heap.size + 1) ≤ w4.heap.size from Nat.le_trans HS3.out (hb).size)
 have HBr4:=hid (HBr3.out.own hb)
 have HXx4:=hid (kids_below HXx3.out hb)
 have HP4:=hid (HP3.out.next hb)
 have hx:=row1 HXx4.out hrw HS3.out
 have hfin:=fin_node hE (x:=mk 25 eB [x3]) H00.out HP4.out HK4.out (Nat.le_refl _) HBr4.out hx
 obtain rfl : o = .ok (E.l.drop j3) (mk 25 eB [x3]):=(Option.some.inj HR3.out).symm
 have rc0:=HBr4.out.cell 0;have rf0:=HBr4.out.frozen 0
 have rc1:=HBr4.out.cell 1;have rf1:=HBr4.out.frozen 1
 have rc2:=HBr4.out.cell 2;have rf2:=HBr4.out.frozen 2
 have g0:=hfin.1.cell 0;have g1:=hfin.1.cell 1;have g2:=hfin.1.cell 2
 have HF:=hid hfin.2
 simp only [mk,Fo.ofL,Fo.len] at g0 g1 g2
 clear hfin
 go_wp2_with fail
 refine bodyPost_ret (v:=.agg (nV (mk 25 eB [x3]) (some ⟨w3.heap.size,0,none⟩) 1)) (by simp [results,Tryz.results212,go_sem,g0,g1,g2,mk,Fo.ofL,Fo.len]) rfl ?_
 exact HF.out
theorem en_unit : Enters 185:=enters_of Tryz.func185 (by kernel_rfl) rfl
theorem en_negated : Enters 213:=enters_of Tryz.func213 (by kernel_rfl) rfl
theorem en_pipe : Enters 123:=enters_of Tryz.func123 (by kernel_rfl) rfl
theorem en_pair : Enters 119:=enters_of Tryz.func119 (by kernel_rfl) rfl
theorem en_param : Enters 164:=enters_of Tryz.func164 (by kernel_rfl) rfl
theorem en_pattern : Enters 160:=enters_of Tryz.func160 (by kernel_rfl) rfl
theorem en_keyPat : Enters 191:=enters_of Tryz.func191 (by kernel_rfl) rfl
theorem en_piece : Enters 130:=enters_of Tryz.func130 (by kernel_rfl) rfl
theorem en_chunk : Enters 162:=enters_of Tryz.func162 (by kernel_rfl) rfl
theorem en_given : Enters 157:=enters_of Tryz.func157 (by kernel_rfl) rfl
theorem unit_tl {E : Env} (hE : EnvOk E) {qu qp : Pa Nd} (hu : Tl E qu RN 185 #[pB E]) (hp2 : Tl E qp RN 159 #[pB E]) : Tl E (.look fun t=>if op minus t = true then need minus (qu.bind fun x=>.ret (mk 25 eB [x])) else qp) RN 185 #[pB E]:=by
 intro W i o hp hr
 have hmf : ∀ (fn : Go.Fn) (first cap : Array Value) (w : World),(Instr.makeFunc fn first cap).run Tryz.prog w = .ok (.func fn first cap) w:=fun _ _ _ _=>rfl
 have HNP:=hid hp.far;have H00:=hid hp
 obtain ⟨W0,hW0⟩ : ∃ W0,W.alloc (.cells nodeZ 32) = W0:=⟨_,rfl⟩
 have hb0 : Below W.heap.size W W0:=by rw [← hW0];exact (Below.refl _ W).alloc (Nat.le_refl _) _
 have hk0 : Blk W0 W.heap.size 32 nodeZ:=by rw [← hW0];exact Blk.new W _ _
 have hs0 : W.heap.size + 1 ≤ W0.heap.size:=by rw [← hW0];simp
 have HW0:=hid hW0;have HK0:=hid (Kp.of_below (E:=E) hb0);have HP0:=hid (hp.next hb0);have HS0:=hid hs0;have HR0:=hid hr
 have HBr0:=hid hk0
 clear hW0 hb0 hk0 hs0 hp hr
 unfold pB
 go_enter Tryz.func185,Tryz.ntmps185
 go_upto_region 1 with fail
 rw [HW0.out]
 have hl:=HR0.out
 clear HR0
 rw [run_look] at hl
 obtain ⟨t,ht⟩ : ∃ t,tk E i = t:=⟨_,rfl⟩
 have HNX:=hid (fun W' (hb : Below W0.heap.size W0 W')=>next_calls hE (HP0.out.next hb))
 have hnx:=HNX.out
 clear HNX
 rw [ht] at hnx
 have HNX:=hid hnx
 rw [show tok (E.l.drop i) = t from ht] at hl
 obtain ⟨c,hc⟩ : ∃ c,op minus t = c:=⟨_,rfl⟩
 rw [hc] at hl
 have HR0:=hid hl;have HTt:=hid ht;have HCt:=hid hc
 clear hl hnx ht
 have hv:=same_op hc
 clear hc
 have hq1:=run_sameV;have hq2:=run_otherV;have hq3:=guard_eqV;have hq4:=guard_neV
 unfold pB at HNX
 go_wp2_with fail
 ((with_reducible refine (HNX.out _ (Below.refl _ _)).mono ?_);rintro e w1 ⟨rfl,hb⟩)
 have HK1:=hid (Kp.sb HK0.out hb)
 have HS1:=hid (show (W.heap.size + 1) ≤ w1.heap.size from Nat.le_trans HS0.out (hb).size)
 have HBr1:=hid (HBr0.out.own hb)
 have HP1:=hid (HP0.out.next hb)
 have HR1:=HR0
 clear HK0 HS0 HBr0
 clear hb HNX HP0 HR0
 go_wp2_with fail
 ((with_reducible refine (op_calls' _ _).mono ?_);rintro e w2 ⟨rfl,hb⟩)
 have HK2:=hid (Kp.sb HK1.out hb)
 have HS2:=hid (show (W.heap.size + 1) ≤ w2.heap.size from Nat.le_trans HS1.out (hb).size)
 have HBr2:=hid (HBr1.out.own hb)
 have HP2:=hid (HP1.out.next hb)
 have HR2:=HR1
 clear HK1 HS1 HBr1
 clear hb HP1 HR1
 cases c with
 | true =>
  have hl:=HR2.out
  clear HR2
  rw [if_yes] at hl
  have HR2:=hid hl
  clear hl
  have hl:=run_tail HR2.out
  clear HR2
  have HR2:=hid hl
  clear hl
  obtain ⟨o3,h3,hr3⟩:=bind_run HR2.out
  have hcall:=Tl.at (minus_tl hE en_unit hu) HP2.out h3
  have HC:=hid hcall;have HR3:=hid hr3
  clear hcall h3 hr3 HR2 HP2
  unfold pB at HC
  try unfold methV at HC
  go_wp2_with fail
  ((with_reducible refine HC.out.mono ?_);rintro e w3 ⟨hk,hm⟩)
  clear HC
  rcases o3 with ⟨r3,x3⟩ | ⟨r3⟩
  rotate_left
  ·obtain ⟨j,hj,hd,rfl⟩:=hm
   obtain rfl : o = .bad r3:=(Option.some.inj HR3.out).symm
   exact ⟨rfl,Kp.tr HK2.out hk,j,hj,hd,rfl⟩
  obtain ⟨v3,j3,rfl,hp,rfl,hR⟩:=hm
  have HK3:=hid (Kp.tr HK2.out hk)
  have HS3:=hid (show (W.heap.size + 1) ≤ w3.heap.size from Nat.le_trans HS2.out (hk).size)
  have HBr3:=hid (Kp.blk' (n:=W.heap.size) HBr2.out hk HNP.out (Nat.le_refl _))
  have HP3:=hid hp
  obtain ⟨ax,cx,rfl,hx⟩:=kids_new (n:=(W.heap.size + 1)) hR HS2.out
  have HXx3:=hid hx
  clear hk hp hR hx
  have hl:=HR3.out
  clear HR3
  dsimp only at hl
  have HR3:=hid hl
  clear hl
  clear HK2 HS2 HBr2
  obtain rfl : o = .ok (E.l.drop j3) x3:=(Option.some.inj HR3.out).symm
  have hfin:=fin_node hE H00.out HP3.out HK3.out (Nat.le_refl _) HBr3.out HXx3.out
  have rc0:=HBr3.out.cell 0;have rf0:=HBr3.out.frozen 0
  have rc1:=HBr3.out.cell 1;have rf1:=HBr3.out.frozen 1
  have rc2:=HBr3.out.cell 2;have rf2:=HBr3.out.frozen 2
  have g0:=hfin.1.cell 0;have g1:=hfin.1.cell 1;have g2:=hfin.1.cell 2
  have HF:=hid hfin.2
  skip
  clear hfin
  go_wp2_with fail
  refine bodyPost_ret (v:=.agg (nV x3 ax cx)) (by simp [results,Tryz.results185,go_sem,g0,g1,g2]) rfl ?_
  exact HF.out
 | false =>
  have hl:=HR2.out
  clear HR2
  rw [if_no] at hl
  have HR2:=hid hl
  clear hl
  have hl:=run_tail HR2.out
  clear HR2
  have HR2:=hid hl
  clear hl
  obtain ⟨o3,h3,hr3⟩:=bind_run HR2.out
  have hcall:=Tl.at hp2 HP2.out h3
  have HC:=hid hcall;have HR3:=hid hr3
  clear hcall h3 hr3 HR2 HP2
  unfold pB at HC
  try unfold methV at HC
  go_wp2_with fail
  ((with_reducible refine HC.out.mono ?_);rintro e w3 ⟨hk,hm⟩)
  clear HC
  rcases o3 with ⟨r3,x3⟩ | ⟨r3⟩
  rotate_left
  ·obtain ⟨j,hj,hd,rfl⟩:=hm
   obtain rfl : o = .bad r3:=(Option.some.inj HR3.out).symm
   exact ⟨rfl,Kp.tr HK2.out hk,j,hj,hd,rfl⟩
  obtain ⟨v3,j3,rfl,hp,rfl,hR⟩:=hm
  have HK3:=hid (Kp.tr HK2.out hk)
  have HS3:=hid (show (W.heap.size + 1) ≤ w3.heap.size from Nat.le_trans HS2.out (hk).size)
  have HBr3:=hid (Kp.blk' (n:=W.heap.size) HBr2.out hk HNP.out (Nat.le_refl _))
  have HP3:=hid hp
  obtain ⟨ax,cx,rfl,hx⟩:=kids_new (n:=(W.heap.size + 1)) hR HS2.out
  have HXx3:=hid hx
  clear hk hp hR hx
  have hl:=HR3.out
  clear HR3
  dsimp only at hl
  have HR3:=hid hl
  clear hl
  clear HK2 HS2 HBr2
  obtain rfl : o = .ok (E.l.drop j3) x3:=(Option.some.inj HR3.out).symm
  have hfin:=fin_node hE H00.out HP3.out HK3.out (Nat.le_refl _) HBr3.out HXx3.out
  have rc0:=HBr3.out.cell 0;have rf0:=HBr3.out.frozen 0
  have rc1:=HBr3.out.cell 1;have rf1:=HBr3.out.frozen 1
  have rc2:=HBr3.out.cell 2;have rf2:=HBr3.out.frozen 2
  have g0:=hfin.1.cell 0;have g1:=hfin.1.cell 1;have g2:=hfin.1.cell 2
  have HF:=hid hfin.2
  skip
  clear hfin
  go_wp2_with fail
  refine bodyPost_ret (v:=.agg (nV x3 ax cx)) (by simp [results,Tryz.results185,go_sem,g0,g1,g2]) rfl ?_
  exact HF.out
theorem param_tl {E : Env} (hE : EnvOk E)  : Tl E (.look fun t=>if (t.1 == 5) = true then .move (.ret (mk 30 t.2 [])) else nameP.bind fun s=>.ret (mk 30 s [])) RN 164 #[pB E]:=by
 intro W i o hp hr
 have HNP:=hid hp.far;have H00:=hid hp
 obtain ⟨W0,hW0⟩ : ∃ W0,W.alloc (.cells nodeZ 32) = W0:=⟨_,rfl⟩
 have hb0 : Below W.heap.size W W0:=by rw [← hW0];exact (Below.refl _ W).alloc (Nat.le_refl _) _
 have hk0 : Blk W0 W.heap.size 32 nodeZ:=by rw [← hW0];exact Blk.new W _ _
 have hs0 : W.heap.size + 1 ≤ W0.heap.size:=by rw [← hW0];simp
 have HW0:=hid hW0;have HK0:=hid (Kp.of_below (E:=E) hb0);have HP0:=hid (hp.next hb0);have HS0:=hid hs0;have HR0:=hid hr
 have HBr0:=hid hk0
 clear hW0 hb0 hk0 hs0 hp hr
 unfold pB
 go_enter Tryz.func164,Tryz.ntmps164
 go_upto_region 1 with fail
 rw [HW0.out]
 have hl:=HR0.out
 clear HR0
 rw [run_look] at hl
 obtain ⟨t,ht⟩ : ∃ t,tk E i = t:=⟨_,rfl⟩
 have HNX:=hid (fun W' (hb : Below W0.heap.size W0 W')=>next_calls hE (HP0.out.next hb))
 have hnx:=HNX.out
 clear HNX
 rw [ht] at hnx
 have HNX:=hid hnx
 rw [show tok (E.l.drop i) = t from ht] at hl
 obtain ⟨c,hc⟩ : ∃ c,(t.1 == 5) = c:=⟨_,rfl⟩
 rw [hc] at hl
 have HR0:=hid hl;have HTt:=hid ht;have HCt:=hid hc
 clear hl hnx ht
 have hq1:=field_kindV
 unfold pB at HNX
 go_wp2_with fail
 ((with_reducible refine (HNX.out _ (Below.refl _ _)).mono ?_);rintro e w1 ⟨rfl,hb⟩)
 have HK1:=hid (Kp.sb HK0.out hb)
 have HS1:=hid (show (W.heap.size + 1) ≤ w1.heap.size from Nat.le_trans HS0.out (hb).size)
 have HBr1:=hid (HBr0.out.own hb)
 have HP1:=hid (HP0.out.next hb)
 have HR1:=HR0
 clear HK0 HS0 HBr0
 clear hb HNX HP0 HR0
 cases c with
 | true =>
  have hl:=HR1.out
  clear HR1
  rw [if_yes] at hl
  have HR1:=hid hl
  clear hl
  have htk:=take_calls hE HP1.out (tok_lt HTt.out (by rw [eq_of_beq HCt.out];decide))
  rw [HTt.out] at htk
  unfold pB at htk
  have HTK:=hid htk
  clear htk
  go_wp2_with fail
  ((with_reducible refine HTK.out.mono ?_);rintro e w2 ⟨rfl,hk,hp⟩)
  have HK2:=hid (Kp.tr HK1.out hk)
  have HS2:=hid (show (W.heap.size + 1) ≤ w2.heap.size from Nat.le_trans HS1.out (hk).size)
  have HBr2:=hid (Kp.blk' (n:=W.heap.size) HBr1.out hk HNP.out (Nat.le_refl _))
  have hl:=HR1.out
  obtain ⟨j2,hj⟩ : ∃ n,i + 1 = n:=⟨_,rfl⟩
  rw [hj] at hp
  have HP2:=hid hp
  rw [run_move,hj] at hl
  have HR2:=hid hl
  clear HK1 HS1 HBr1
  clear hk hp hj hl HTK HR1 HP1
  go_wp2_with fail
  ((with_reducible refine (node_calls _ _ _ _ _ _).mono ?_);rintro e w3 ⟨rfl,hbn⟩)
  have hb:=hbn
  have HK3:=hid (Kp.sb HK2.out hb)
  have HS3:=hid (show (W.heap.size + 1) ≤ w3.heap.size from Nat.le_trans HS2.out (hb).size)
  have HBr3:=hid (HBr2.out.own hb)
  have HP3:=hid (HP2.out.next hb)
  have hx:=kids_nil (Fr (W.heap.size + 1) w3) w3 none 0
  have hfin:=fin_node hE (x:=mk 30 t.2 []) H00.out HP3.out HK3.out (Nat.le_refl _) HBr3.out hx
  obtain rfl : o = .ok (E.l.drop j2) (mk 30 t.2 []):=(Option.some.inj HR2.out).symm
  have rc0:=HBr3.out.cell 0;have rf0:=HBr3.out.frozen 0
  have rc1:=HBr3.out.cell 1;have rf1:=HBr3.out.frozen 1
  have rc2:=HBr3.out.cell 2;have rf2:=HBr3.out.frozen 2
  have g0:=hfin.1.cell 0;have g1:=hfin.1.cell 1;have g2:=hfin.1.cell 2
  have HF:=hid hfin.2
  simp only [mk,Fo.ofL,Fo.len] at g0 g1 g2
  clear hfin
  go_wp2_with fail
  refine bodyPost_ret (v:=.agg (nV (mk 30 t.2 []) none 0)) (by simp [results,Tryz.results164,go_sem,g0,g1,g2,mk,Fo.ofL,Fo.len]) rfl ?_
  exact HF.out
 | false =>
  have hl:=HR1.out
  clear HR1
  rw [if_no] at hl
  have HR1:=hid hl
  clear hl
  obtain ⟨o2,h2,hr2⟩:=bind_run HR1.out
  have hcall:=Tl.at (name_tl hE) HP1.out h2
  have HC:=hid hcall;have HR2:=hid hr2
  clear hcall h2 hr2 HR1 HP1
  unfold pB at HC
  try unfold methV at HC
  go_wp2_with fail
  ((with_reducible refine HC.out.mono ?_);rintro e w2 ⟨hk,hm⟩)
  clear HC
  rcases o2 with ⟨r2,x2⟩ | ⟨r2⟩
  rotate_left
  ·obtain ⟨j,hj,hd,rfl⟩:=hm
   obtain rfl : o = .bad r2:=(Option.some.inj HR2.out).symm
   exact ⟨rfl,Kp.tr HK1.out hk,j,hj,hd,rfl⟩
  obtain ⟨v2,j2,rfl,hp,rfl,hR⟩:=hm
  have HK2:=hid (Kp.tr HK1.out hk)
  have HS2:=hid (show (W.heap.size + 1) ≤ w2.heap.size from Nat.le_trans HS1.out (hk).size)
  have HBr2:=hid (Kp.blk' (n:=W.heap.size) HBr1.out hk HNP.out (Nat.le_refl _))
  have HP2:=hid hp
  obtain rfl:=hR
  clear hk hp
  have hl:=HR2.out
  clear HR2
  dsimp only at hl
  have HR2:=hid hl
  clear hl
  clear HK1 HS1 HBr1
  go_wp2_with fail
  ((with_reducible refine (node_calls _ _ _ _ _ _).mono ?_);rintro e w3 ⟨rfl,hbn⟩)
  have hb:=hbn
  have HK3:=hid (Kp.sb HK2.out hb)
  have HS3:=hid (show (W.heap.size + 1) ≤ w3.heap.size from Nat.le_trans HS2.out (hb).size)
  have HBr3:=hid (HBr2.out.own hb)
  have HP3:=hid (HP2.out.next hb)
  have hx:=kids_nil (Fr (W.heap.size + 1) w3) w3 none 0
  have hfin:=fin_node hE (x:=mk 30 x2 []) H00.out HP3.out HK3.out (Nat.le_refl _) HBr3.out hx
  obtain rfl : o = .ok (E.l.drop j2) (mk 30 x2 []):=(Option.some.inj HR2.out).symm
  have rc0:=HBr3.out.cell 0;have rf0:=HBr3.out.frozen 0
  have rc1:=HBr3.out.cell 1;have rf1:=HBr3.out.frozen 1
  have rc2:=HBr3.out.cell 2;have rf2:=HBr3.out.frozen 2
  have g0:=hfin.1.cell 0;have g1:=hfin.1.cell 1;have g2:=hfin.1.cell 2
  have HF:=hid hfin.2
  simp only [mk,Fo.ofL,Fo.len] at g0 g1 g2
  clear hfin
  go_wp2_with fail
  refine bodyPost_ret (v:=.agg (nV (mk 30 x2 []) none 0)) (by simp [results,Tryz.results164,go_sem,g0,g1,g2,mk,Fo.ofL,Fo.len]) rfl ?_
  exact HF.out
theorem piece_tl {E : Env} (hE : EnvOk E) {q : Pa Nd} (hq : Tl E q RN 123 #[pB E]) : Tl E (.look fun t=>if (t.1 == 8) = true then (ofP 8).bind (fun s=>.ret (mk 7 s [])) else (ofP 9).bind fun _=>q.bind fun x=>(ofP 10).bind fun _=>.ret x) RN 130 #[pB E]:=by
 intro W i o hp hr
 have HNP:=hid hp.far;have H00:=hid hp
 obtain ⟨W0,hW0⟩ : ∃ W0,W.alloc (.cells nodeZ 32) = W0:=⟨_,rfl⟩
 have hb0 : Below W.heap.size W W0:=by rw [← hW0];exact (Below.refl _ W).alloc (Nat.le_refl _) _
 have hk0 : Blk W0 W.heap.size 32 nodeZ:=by rw [← hW0];exact Blk.new W _ _
 have hs0 : W.heap.size + 1 ≤ W0.heap.size:=by rw [← hW0];simp
 have HW0:=hid hW0;have HK0:=hid (Kp.of_below (E:=E) hb0);have HP0:=hid (hp.next hb0);have HS0:=hid hs0;have HR0:=hid hr
 have HBr0:=hid hk0
 clear hW0 hb0 hk0 hs0 hp hr
 unfold pB
 go_enter Tryz.func130,Tryz.ntmps130
 go_upto_region 1 with fail
 rw [HW0.out]
 have hl:=HR0.out
 clear HR0
 rw [run_look] at hl
 obtain ⟨t,ht⟩ : ∃ t,tk E i = t:=⟨_,rfl⟩
 have HNX:=hid (fun W' (hb : Below W0.heap.size W0 W')=>next_calls hE (HP0.out.next hb))
 have hnx:=HNX.out
 clear HNX
 rw [ht] at hnx
 have HNX:=hid hnx
 rw [show tok (E.l.drop i) = t from ht] at hl
 obtain ⟨c,hc⟩ : ∃ c,(t.1 == 8) = c:=⟨_,rfl⟩
 rw [hc] at hl
 have HR0:=hid hl;have HTt:=hid ht;have HCt:=hid hc
 clear hl hnx ht
 have hq1:=field_kindV
 unfold pB at HNX
 go_wp2_with fail
 ((with_reducible refine (HNX.out _ (Below.refl _ _)).mono ?_);rintro e w1 ⟨rfl,hb⟩)
 have HK1:=hid (Kp.sb HK0.out hb)
 have HS1:=hid (show (W.heap.size + 1) ≤ w1.heap.size from Nat.le_trans HS0.out (hb).size)
 have HBr1:=hid (HBr0.out.own hb)
 have HP1:=hid (HP0.out.next hb)
 have HR1:=HR0
 clear HK0 HS0 HBr0
 clear hb HNX HP0 HR0
 cases c with
 | true =>
  have hl:=HR1.out
  clear HR1
  rw [if_yes] at hl
  have HR1:=hid hl
  clear hl
  have hl:=run_tail HR1.out
  clear HR1
  have HR1:=hid hl
  clear hl
  obtain ⟨o2,h2,hr2⟩:=bind_run HR1.out
  have hcall:=Tl.at (chunk_tl hE) HP1.out h2
  have HC:=hid hcall;have HR2:=hid hr2
  clear hcall h2 hr2 HR1 HP1
  unfold pB at HC
  try unfold methV at HC
  go_wp2_with fail
  ((with_reducible refine HC.out.mono ?_);rintro e w2 ⟨hk,hm⟩)
  clear HC
  rcases o2 with ⟨r2,x2⟩ | ⟨r2⟩
  rotate_left
  ·obtain ⟨j,hj,hd,rfl⟩:=hm
   obtain rfl : o = .bad r2:=(Option.some.inj HR2.out).symm
   exact ⟨rfl,Kp.tr HK1.out hk,j,hj,hd,rfl⟩
  obtain ⟨v2,j2,rfl,hp,rfl,hR⟩:=hm
  have HK2:=hid (Kp.tr HK1.out hk)
  have HS2:=hid (show (W.heap.size + 1) ≤ w2.heap.size from Nat.le_trans HS1.out (hk).size)
  have HBr2:=hid (Kp.blk' (n:=W.heap.size) HBr1.out hk HNP.out (Nat.le_refl _))
  have HP2:=hid hp
  obtain ⟨ax,cx,rfl,hx⟩:=kids_new (n:=(W.heap.size + 1)) hR HS1.out
  have HXx2:=hid hx
  clear hk hp hR hx
  have hl:=HR2.out
  clear HR2
  dsimp only at hl
  have HR2:=hid hl
  clear hl
  clear HK1 HS1 HBr1
  obtain rfl : o = .ok (E.l.drop j2) x2:=(Option.some.inj HR2.out).symm
  have hfin:=fin_node hE H00.out HP2.out HK2.out (Nat.le_refl _) HBr2.out HXx2.out
  have rc0:=HBr2.out.cell 0;have rf0:=HBr2.out.frozen 0
  have rc1:=HBr2.out.cell 1;have rf1:=HBr2.out.frozen 1
  have rc2:=HBr2.out.cell 2;have rf2:=HBr2.out.frozen 2
  have g0:=hfin.1.cell 0;have g1:=hfin.1.cell 1;have g2:=hfin.1.cell 2
  have HF:=hid hfin.2
  skip
  clear hfin
  go_wp2_with fail
  refine bodyPost_ret (v:=.agg (nV x2 ax cx)) (by simp [results,Tryz.results130,go_sem,g0,g1,g2]) rfl ?_
  exact HF.out
 | false =>
  have hl:=HR1.out
  clear HR1
  rw [if_no] at hl
  have HR1:=hid hl
  clear hl
  obtain ⟨o2,h2,hr2⟩:=bind_run HR1.out
  have hcall:=Tl.at (of_tl hE 9 (by decide)) HP1.out h2
  have HC:=hid hcall;have HR2:=hid hr2
  clear hcall h2 hr2 HR1 HP1
  unfold pB at HC
  try unfold methV at HC
  go_wp2_with fail
  ((with_reducible refine HC.out.mono ?_);rintro e w2 ⟨hk,hm⟩)
  clear HC
  rcases o2 with ⟨r2,x2⟩ | ⟨r2⟩
  rotate_left
  ·obtain ⟨j,hj,hd,rfl⟩:=hm
   obtain rfl : o = .bad r2:=(Option.some.inj HR2.out).symm
   exact ⟨rfl,Kp.tr HK1.out hk,j,hj,hd,rfl⟩
  obtain ⟨v2,j2,rfl,hp,rfl,hR⟩:=hm
  have HK2:=hid (Kp.tr HK1.out hk)
  have HS2:=hid (show (W.heap.size + 1) ≤ w2.heap.size from Nat.le_trans HS1.out (hk).size)
  have HBr2:=hid (Kp.blk' (n:=W.heap.size) HBr1.out hk HNP.out (Nat.le_refl _))
  have HP2:=hid hp
  obtain rfl:=hR
  clear hk hp
  have hl:=HR2.out
  clear HR2
  dsimp only at hl
  have HR2:=hid hl
  clear hl
  clear HK1 HS1 HBr1
  obtain ⟨o3,h3,hr3⟩:=bind_run HR2.out
  have hcall:=Tl.at hq HP2.out h3
  have HC:=hid hcall;have HR3:=hid hr3
  clear hcall h3 hr3 HR2 HP2
  unfold pB at HC
  try unfold methV at HC
  go_wp2_with fail
  ((with_reducible refine HC.out.mono ?_);rintro e w3 ⟨hk,hm⟩)
  clear HC
  rcases o3 with ⟨r3,x3⟩ | ⟨r3⟩
  rotate_left
  ·obtain ⟨j,hj,hd,rfl⟩:=hm
   obtain rfl : o = .bad r3:=(Option.some.inj HR3.out).symm
   exact ⟨rfl,Kp.tr HK2.out hk,j,hj,hd,rfl⟩
  obtain ⟨v3,j3,rfl,hp,rfl,hR⟩:=hm
  have HK3:=hid (Kp.tr HK2.out hk)
  have HS3:=hid (show (W.heap.size + 1) ≤ w3.heap.size from Nat.le_trans HS2.out (hk).size)
  have HBr3:=hid (Kp.blk' (n:=W.heap.size) HBr2.out hk HNP.out (Nat.le_refl _))
  have HP3:=hid hp
  obtain ⟨ax,cx,rfl,hx⟩:=kids_new (n:=(W.heap.size + 1)) hR HS2.out
  have HXx3:=hid hx
  clear hk hp hR hx
  have hl:=HR3.out
  clear HR3
  dsimp only at hl
  have HR3:=hid hl
  clear hl
  clear HK2 HS2 HBr2
  go_upto_region 5 with fail
  obtain ⟨w4,hw⟩ : ∃ w',w3.alloc (.cells (nV x3 ax cx) 32) = w':=⟨_,rfl⟩
  rw [hw]
  have hb : Below w3.heap.size w3 w4:=by rw [← hw];exact (Below.refl _ _).alloc (Nat.le_refl _) _
  have HBx4:=hid (show Blk w4 w3.heap.size 32 (nV x3 ax cx) by rw [← hw];exact Blk.new _ _ _)
  have HLx:=hid (show W.heap.size ≤ w3.heap.size by have:=HS3.out;omega);have HNEx:=hid (show W.heap.size < w3.heap.size by have:=HS3.out;omega)
  have HK4:=hid (Kp.sb HK3.out hb)
  have HS4:=hid (show (W.heap.size + 1) ≤ w4.heap.size from Nat.le_trans HS3.out (hb).size)
  have HBr4:=hid (HBr3.out.own hb)
  have HXx4:=hid (kids_below HXx3.out hb)
  have HP4:=hid (HP3.out.next hb)
  have HR4:=HR3
  clear HK3 HS3 HBr3 HXx3
  clear hb hw HP3 HR3
  obtain ⟨o5,h5,hr5⟩:=bind_run HR4.out
  have hcall:=Tl.at (of_tl hE 10 (by decide)) HP4.out h5
  have HC:=hid hcall;have HR5:=hid hr5
  clear hcall h5 hr5 HR4 HP4
  unfold pB at HC
  try unfold methV at HC
  go_wp2_with fail
  ((with_reducible refine HC.out.mono ?_);rintro e w5 ⟨hk,hm⟩)
  clear HC
  rcases o5 with ⟨r5,x5⟩ | ⟨r5⟩
  rotate_left
  ·obtain ⟨j,hj,hd,rfl⟩:=hm
   obtain rfl : o = .bad r5:=(Option.some.inj HR5.out).symm
   exact ⟨rfl,Kp.tr HK4.out hk,j,hj,hd,rfl⟩
  obtain ⟨v5,j5,rfl,hp,rfl,hR⟩:=hm
  have HK5:=hid (Kp.tr HK4.out hk)
  have HS5:=hid (show (W.heap.size + 1) ≤ w5.heap.size from Nat.le_trans HS4.out (hk).size)
  have HBr5:=hid (Kp.blk' (n:=W.heap.size) HBr4.out hk HNP.out (Nat.le_refl _))
  have HBx5:=hid (Kp.blk' (n:=W.heap.size) HBx4.out hk HNP.out HLx.out)
  have HXx5:=hid (kids_kp HXx4.out hk (fun k hk=>HNP.out k (by omega)))
  have HP5:=hid hp
  obtain rfl:=hR
  clear hk hp
  have hl:=HR5.out
  clear HR5
  dsimp only at hl
  have HR5:=hid hl
  clear hl
  clear HK4 HS4 HBr4 HBx4 HXx4
  have xc0:=HBx5.out.cell 0;have xf0:=HBx5.out.frozen 0
  have xc1:=HBx5.out.cell 1;have xf1:=HBx5.out.frozen 1
  have xc2:=HBx5.out.cell 2;have xf2:=HBx5.out.frozen 2
  obtain rfl : o = .ok (E.l.drop j5) x3:=(Option.some.inj HR5.out).symm
  have hfin:=fin_node hE H00.out HP5.out HK5.out (Nat.le_refl _) HBr5.out HXx5.out
  have rc0:=HBr5.out.cell 0;have rf0:=HBr5.out.frozen 0
  have rc1:=HBr5.out.cell 1;have rf1:=HBr5.out.frozen 1
  have rc2:=HBr5.out.cell 2;have rf2:=HBr5.out.frozen 2
  have g0:=hfin.1.cell 0;have g1:=hfin.1.cell 1;have g2:=hfin.1.cell 2
  have HF:=hid hfin.2
  skip
  clear hfin
  go_wp2_with fail
  refine bodyPost_ret (v:=.agg (nV x3 ax cx)) (by simp [results,Tryz.results130,go_sem,g0,g1,g2]) rfl ?_
  exact HF.out
theorem enclosed_tl {E : Env} (hE : EnvOk E) {g : FuncId} (hen : Enters g) {q : Pa Nd} (hq : Tl E q RN g #[pB E]) {o1 s1 e1 : ByteArray} (ho : o1 ∈ signs) (hs : s1 ∈ signs) (he : e1 ∈ signs) (n : Nat) (hn : n ≤ 100000000) : Tl E (need o1 ((listP q (op s1) n).bind fun l=>need e1 (.ret l))) RL 126 #[pB E,.string o1,.string s1,.string e1,methV g E.B]:=by
 intro W i o hp hr
 simp only [need_bind o1,need_bind e1] at hr
 have HLIST:=hid (list_tl hE hen hq (13,s1) (fun e=>by cases e) (op s1) (op_eq s1) n hn)
 have HNP:=hid hp.far;have H00:=hid hp
 have HK0:=hid (Kp.refl E W);have HP0:=hid hp;have HR0:=hid hr;have HS0:=hid (Nat.le_refl W.heap.size)
 clear hp hr
 unfold pB methV
 go_enter Tryz.func126,Tryz.ntmps126
 go_wp2_with fail
 ((with_reducible refine (op_calls' _ _).mono ?_);rintro e w1 ⟨rfl,hb⟩)
 have HK1:=hid (Kp.sb HK0.out hb)
 have HS1:=hid (show W.heap.size ≤ w1.heap.size from Nat.le_trans HS0.out (hb).size)
 have HP1:=hid (HP0.out.next hb)
 have HR1:=HR0
 clear HK0 HS0
 clear hb HP0 HR0
 obtain ⟨o2,h2,hr2⟩:=bind_run HR1.out
 have hcall:=Tl.at (must_op hE ho) HP1.out h2
 have HC:=hid hcall;have HR2:=hid hr2
 clear hcall h2 hr2 HR1 HP1
 unfold pB at HC
 try unfold methV at HC
 go_wp2_with fail
 ((with_reducible refine HC.out.mono ?_);rintro e w2 ⟨hk,hm⟩)
 clear HC
 rcases o2 with ⟨r2,x2⟩ | ⟨r2⟩
 rotate_left
 ·obtain ⟨j,hj,hd,rfl⟩:=hm
  obtain rfl : o = .bad r2:=(Option.some.inj HR2.out).symm
  exact ⟨rfl,Kp.tr HK1.out hk,j,hj,hd,rfl⟩
 obtain ⟨v2,j2,rfl,hp,rfl,hR⟩:=hm
 have HK2:=hid (Kp.tr HK1.out hk)
 have HS2:=hid (show W.heap.size ≤ w2.heap.size from Nat.le_trans HS1.out (hk).size)
 have HP2:=hid hp
 obtain rfl:=hR
 clear hk hp
 have hl:=HR2.out
 clear HR2
 dsimp only at hl
 have HR2:=hid hl
 clear hl
 clear HK1 HS1
 go_wp2_with fail
 ((with_reducible refine (op_calls' _ _).mono ?_);rintro e w3 ⟨rfl,hb⟩)
 have HK3:=hid (Kp.sb HK2.out hb)
 have HS3:=hid (show W.heap.size ≤ w3.heap.size from Nat.le_trans HS2.out (hb).size)
 have HP3:=hid (HP2.out.next hb)
 have HR3:=HR2
 clear HK2 HS2
 clear hb HP2 HR2
 obtain ⟨o4,h4,hr4⟩:=bind_run HR3.out
 have hcall:=Tl.at HLIST.out HP3.out h4
 have HC:=hid hcall;have HR4:=hid hr4
 clear hcall h4 hr4 HR3 HP3
 unfold pB at HC
 try unfold methV at HC
 go_wp2_with fail
 ((with_reducible refine HC.out.mono ?_);rintro e w4 ⟨hk,hm⟩)
 clear HC
 rcases o4 with ⟨r4,x4⟩ | ⟨r4⟩
 rotate_left
 ·obtain ⟨j,hj,hd,rfl⟩:=hm
  obtain rfl : o = .bad r4:=(Option.some.inj HR4.out).symm
  exact ⟨rfl,Kp.tr HK3.out hk,j,hj,hd,rfl⟩
 obtain ⟨v4,j4,rfl,hp,rfl,hR⟩:=hm
 have HK4:=hid (Kp.tr HK3.out hk)
 have HS4:=hid (show W.heap.size ≤ w4.heap.size from Nat.le_trans HS3.out (hk).size)
 have HP4:=hid hp
 obtain ⟨al,cl,rfl⟩:=OwnL.slice hR
 have HOl4:=hid (OwnL.mono hR HS3.out)
 clear hk hp hR
 have hl:=HR4.out
 clear HR4
 dsimp only at hl
 have HR4:=hid hl
 clear hl
 clear HK3 HS3
 go_wp2_with fail
 ((with_reducible refine (op_calls' _ _).mono ?_);rintro e w5 ⟨rfl,hb⟩)
 have HK5:=hid (Kp.sb HK4.out hb)
 have HS5:=hid (show W.heap.size ≤ w5.heap.size from Nat.le_trans HS4.out (hb).size)
 have HOl5:=hid (OwnL.below HOl4.out hb)
 have HP5:=hid (HP4.out.next hb)
 have HR5:=HR4
 clear HK4 HS4 HOl4
 clear hb HP4 HR4
 obtain ⟨o6,h6,hr6⟩:=bind_run HR5.out
 have hcall:=Tl.at (must_op hE he) HP5.out h6
 have HC:=hid hcall;have HR6:=hid hr6
 clear hcall h6 hr6 HR5 HP5
 unfold pB at HC
 try unfold methV at HC
 go_wp2_with fail
 ((with_reducible refine HC.out.mono ?_);rintro e w6 ⟨hk,hm⟩)
 clear HC
 rcases o6 with ⟨r6,x6⟩ | ⟨r6⟩
 rotate_left
 ·obtain ⟨j,hj,hd,rfl⟩:=hm
  obtain rfl : o = .bad r6:=(Option.some.inj HR6.out).symm
  exact ⟨rfl,Kp.tr HK5.out hk,j,hj,hd,rfl⟩
 obtain ⟨v6,j6,rfl,hp,rfl,hR⟩:=hm
 have HK6:=hid (Kp.tr HK5.out hk)
 have HS6:=hid (show W.heap.size ≤ w6.heap.size from Nat.le_trans HS5.out (hk).size)
 have HOl6:=hid (OwnL.kp HOl5.out hk (fun k hk=>HNP.out k (by omega)))
 have HP6:=hid hp
 obtain rfl:=hR
 clear hk hp
 have hl:=HR6.out
 clear HR6
 dsimp only at hl
 have HR6:=hid hl
 clear hl
 clear HK5 HS5 HOl5
 go_wp2_with fail
 go_ret
 obtain rfl : o = .ok (E.l.drop j6) x4:=(Option.some.inj HR6.out).symm
 exact ⟨HK6.out,_,j6,rfl,HP6.out,rfl,HOl6.out⟩
end Go.Proofs.YtlklhkkjcfmefaaGreatDoor.pa
namespace Go.Proofs.YtlklhkkjcfmefaaGreatDoor.pa
open Go.RowKit nd pr sx ed
structure Only (B : Nat) (u u' : World) : Prop where
 os : u'.os = u.os
 tape : u'.tape = u.tape
 output : u'.output = u.output
 size : u'.heap.size = u.heap.size
 block : ∀ k,k ≠ B → u'.heap[k]? = u.heap[k]?
theorem Only.refl (B : Nat) (u : World) : Only B u u:=⟨rfl,rfl,rfl,rfl,fun _ _=>rfl⟩
theorem Only.set {B o : Nat} {u v : World} (h : Only B u v) (x : Value) : Only B u (v.setCell ⟨B,o,none⟩ x) :=
 ⟨h.os,h.tape,h.output,(by simp [h.size]),fun k hk=>(Below.heap_setCell _ _ _ k (fun e=>hk e)).trans (h.block k hk)⟩
theorem Only.kp {E : Env} {W u u' : World} {B : Nat} (h : Only B u u') (hk : Kp E W u) (hB : W.heap.size ≤ B) : Kp E W u' :=
 But.trans hk ⟨h.os,h.tape,h.output,Nat.le_of_eq h.size.symm,fun k hk' _=>h.block k (fun e=>by omega)⟩
theorem Only.ps {E : Env} {u u' : World} {j B : Nat} (h : Only B u u') (hp : Ps E u j) (hB : ¬ Pm E B) (hT : B ≠ E.T) (h0 : E.W0.heap.size ≤ B) : Ps E u' j:=by
 refine ⟨(h.block _ (fun e=>hB (.inl e.symm))).trans hp.blk,hp.le,hp.old.trans ⟨h.os,h.tape,h.output,Nat.le_of_eq h.size.symm,fun k hk=>h.block k (fun e=>by omega)⟩,MapT.of_heap hp.terms (h.block _ (fun e=>hT e.symm)),?_⟩
 obtain ⟨l,h1,h2⟩:=hp.opers
 exact ⟨l,MapT.of_heap h1 (h.block _ (fun e=>hB (.inr e.symm))),h2⟩
theorem Only.kids {n B : Nat} {u u' : World} {f : Fo} {v : Value} (h : Only B u u') (hk : KidsAt (Fr n u) u f v) (hB : B < n) : KidsAt (Fr n u') u' f v :=
 hk.keep (fun k e=>⟨e.1,by have:=e.2;have:=h.size;omega⟩) (fun k e=>h.block k (fun e'=>by have:=e.1;omega))
theorem only6 {B : Nat} (u : World) (a b c d e f : Value) : Only B u ((((((u.setCell ⟨B,0,none⟩ a).setCell ⟨B,1,none⟩ b).setCell ⟨B,2,none⟩ c).setCell ⟨B,3,none⟩ d).setCell ⟨B,4,none⟩ e).setCell ⟨B,5,none⟩ f):=(((((((Only.refl B u).set a).set b).set c).set d).set e).set f)
theorem blk6 {u : World} {B : Nat} {t : TypeId} {x1 x2 x3 x4 x5 x6 : Value} (h : Blk u B t #[x1,x2,x3,x4,x5,x6]) (a b c d e f : Value) : Blk ((((((u.setCell ⟨B,0,none⟩ a).setCell ⟨B,1,none⟩ b).setCell ⟨B,2,none⟩ c).setCell ⟨B,3,none⟩ d).setCell ⟨B,4,none⟩ e).setCell ⟨B,5,none⟩ f) B t #[a,b,c,d,e,f] :=
 (((((h.set (o:=0) a).set (o:=1) b).set (o:=2) c).set (o:=3) d).set (o:=4) e).set (o:=5) f
abbrev brZ : Array Value:=#[.int .i64 0,.string ⟨#[]⟩,.slice none 0 0,.int .i64 0,.string ⟨#[]⟩,.slice none 0 0]
abbrev brV (x y : Nd) (a : Option Addr) (c : Nat) (a' : Option Addr) (c' : Nat) : Array Value:=#[.int .i64 x.k,.string x.t,.slice a x.kids.len c,.int .i64 y.k,.string y.t,.slice a' y.kids.len c']
def RBr (p : Nd × Nd) (v : Value) (W W' : World) : Prop:=∃ a c a' c',v = .agg (brV p.1 p.2 a c a' c') ∧ KidsAt (New W W') W' p.1.kids (.slice a p.1.kids.len c) ∧ KidsAt (New W W') W' p.2.kids (.slice a' p.2.kids.len c')
theorem kids_New {n : Nat} {W u : World} {f : Fo} {v : Value} (h : KidsAt (Fr n u) u f v) (hn : W.heap.size ≤ n) : KidsAt (New W u) u f v:=h.keep (fun k e=>⟨Nat.le_trans hn e.1,e.2⟩) (fun _ _=>rfl)
theorem Ps.fin {E : Env} {W u u' : World} {i j B : Nat} (h : Only B u u') (h0 : Ps E W i) (hp : Ps E u j) (hB : W.heap.size ≤ B) : Ps E u' j :=
 h.ps hp (h0.not_pm hB) (fun e=>by have:=h0.tlt;omega) (Nat.le_trans h0.old.size hB)
def flat : List (Nd × Nd) → List Nd
 | []=>[]
 | p :: r=>p.1 :: p.2 :: flat r
theorem flat_app : ∀ a b : List (Nd × Nd),flat (a ++ b) = flat a ++ flat b
 | [],_=>rfl
 | p :: a,b=>by simp [flat,flat_app a b]
theorem flat_len : ∀ a : List (Nd × Nd),(flat a).length = 2 * a.length
 | []=>rfl
 | p :: a=>by simp [flat,flat_len a];omega
def OwnB (n : Nat) (W : World) (l : List (Nd × Nd)) (v : Value) : Prop:=∃ L,W.ownsRow n 133 6 v l.length L ∧ CellsOf (Aw n W v) W (Fo.ofL (flat l)) L
theorem OwnB.kp {E : Env} {n : Nat} {W W' : World} {l : List (Nd × Nd)} {v : Value} (h : OwnB n W l v) (hk : Kp E W W') (hn : ∀ k,n ≤ k → ¬ Pm E k) : OwnB n W' l v:=by
 obtain ⟨L,h1,h2⟩:=h
 refine ⟨L,own_heap h1 (fun k e=>hk.block k (h1.lt k e).2 (hn k (h1.lt k e).1)),h2.keep (fun k e=>⟨e.1,Nat.lt_of_lt_of_le e.2.1 hk.size,e.2.2⟩) (fun k e=>hk.block k e.2.1 (hn k e.1))⟩
theorem OwnB.below {n : Nat} {W W' : World} {l : List (Nd × Nd)} {v : Value} (h : OwnB n W l v) (hb : Below W.heap.size W W') : OwnB n W' l v:=by
 obtain ⟨L,h1,h2⟩:=h
 refine ⟨L,own_heap h1 (fun k e=>hb.block k (h1.lt k e).2),h2.keep (fun k e=>⟨e.1,Nat.lt_of_lt_of_le e.2.1 hb.size,e.2.2⟩) (fun k e=>hb.block k e.2.1)⟩
theorem OwnB.mono {n m : Nat} {W : World} {l : List (Nd × Nd)} {v : Value} (h : OwnB n W l v) (hm : m ≤ n) : OwnB m W l v:=by
 obtain ⟨L,h1,h2⟩:=h
 refine ⟨L,⟨h1.1,?_⟩,h2.keep (fun k e=>⟨Nat.le_trans hm e.1,e.2⟩) (fun _ _=>rfl)⟩
 rcases h1.2 with hn | ⟨g,cap,cur,rfl,h2,h3⟩
 ·exact .inl hn
 ·exact .inr ⟨g,cap,cur,rfl,Nat.le_trans hm h2,h3⟩
theorem OwnB.slice {n : Nat} {W : World} {l : List (Nd × Nd)} {v : Value} (h : OwnB n W l v) : ∃ a c,v = .slice a l.length c:=by
 obtain ⟨L,h1,_⟩:=h
 obtain ⟨a,c,e,_⟩:=own_len' h1
 exact ⟨a,c,e⟩
theorem infoB : (Tryz.prog.info? 133).map (fun i=>(i.zero,i.size,i.bytes)) = some (some (.agg brZ),6,96):=by kernel_rfl
theorem ownB_made {n : Nat} {W : World} {l : List (Nd × Nd)} {L : List Value} {g : Nat} (hc : CellsOf (Aw n W (.slice (some ⟨g,0,none⟩) l.length l.length)) W (Fo.ofL (flat l)) L) (hb : Blk W g 133 L.toArray) (hg : n ≤ g) (hl : l.length ≤ maxLen) : OwnB n W l (.slice (some ⟨g,0,none⟩) l.length l.length):=by
 have hlen : L.length = l.length * 6:=by rw [hc.len,Fo.ofL_len,flat_len];omega
 refine ⟨L,⟨hlen,.inr ⟨g,l.length,_,rfl,hg,hb,Nat.le_refl _,hl,?_,?_⟩⟩,hc⟩
 ·rw [← hlen];simp
 ·rw [← hlen];simp
theorem kids_auxB {n : Nat} {w W : World} {l : List (Nd × Nd)} {v : Value} {k : Nat} (e : New w W k) (hv : OwnB n w l v) (hn : n ≤ w.heap.size) : Aw n W v k:=by
 obtain ⟨L,h1,_⟩:=hv
 refine ⟨Nat.le_trans hn e.1,e.2,fun e'=>?_⟩
 have:=(h1.lt k e').2
 have:=e.1
 omega
structure GrewB (E : Env) (n : Nat) (W w w' : World) (j : Nat) (l : List (Nd × Nd)) (v' : Value) : Prop where
 own : OwnB n w' l v'
 ps : Ps E w' j
 kp : Kp E W w'
 size : w.heap.size ≤ w'.heap.size
 blk : ∀ b t vs,Blk w b t vs → b < n → Blk w' b t vs
theorem wpList_append_branches {E : Env} {W w : World} {ops : Array Oper} {rest : List Oper} {o : Oper} {a : Act} {Q : Exit → Act → World → Prop} (hgd : o.guard = none) (s x : Operand)
  (ho : o.op = .call { callee:=.builtin .append,args:=#[s,x],argTypes:=#[130,130] })
  (n j i' : Nat) (l ys : List (Nd × Nd)) (v : Value) (hs : a.eval s = v) (hown : OwnB n w l v) (hl : l.length ≤ 100000010) (hy0 : ys.length ≤ 10)
  (g : Nat) (L2 : List Value) (hx : a.eval x = .slice (some ⟨g,0,none⟩) ys.length ys.length) (hg : Blk w g 133 L2.toArray) (hc : CellsOf (Aw n w v) w (Fo.ofL (flat ys)) L2)
  (hbase : n ≤ w.heap.size) (hp : Ps E w j) (hk : Kp E W w) (hW : W.heap.size ≤ n) (hfar : ∀ k,W.heap.size ≤ k → ¬ Pm E k) (h0 : Ps E W i')
  (h : ∀ v' w',GrewB E n W w w' j (l ++ ys) v' → wpList Tryz.prog ops Q rest (a.put o.dst v') w') : wpList Tryz.prog ops Q (o :: rest) a w:=by
 obtain ⟨i0,hi,hz0,hz1,hz2⟩:=info_parts infoB
 obtain ⟨L,h1,h2⟩:=hown
 have hlen : L2.length = ys.length * 6:=by rw [hc.len,Fo.ofL_len,flat_len];omega
 refine wpList_append_own_at _ hgd s x 130 ho n 133 i0 _ 6 96 Tryz.underlying130 hi hz0 hz1 hz2 rfl (by decide) v l.length L hs h1 ⟨g,0,none⟩ ys.length ys.length L2 hx hlen ?_ hc.one (by unfold maxLen;omega) (by omega) hbase ?_
 ·intro j u hj
  rw [addr_add,Nat.zero_add,hg.cell j]
  simpa using hj
 ·intro v' w' hown' hgrow _ hat
  have hrow : ∀ k,v.ownBlock = some k → n ≤ k ∧ k < w.heap.size:=fun k e=>h1.lt k e
  have hS : ∀ k,Aw n w v k → Aw n w' v' k:=fun k e=>⟨e.1,Nat.lt_of_lt_of_le e.2.1 hgrow.size,fun e'=>by
   rcases hat with hat | hat
   ·rw [hat] at e';exact e.2.2 e'
   ·rw [hat] at e';cases e';have:=e.2.1;omega⟩
  have hH : ∀ k,Aw n w v k → w'.heap[k]? = w.heap[k]?:=fun k e=>hgrow.block k e.2.1 (fun e'=>e.2.2 e'.symm)
  refine h v' w' ⟨⟨L ++ L2,by rw [List.length_append];exact hown',?_⟩,hp.grown hgrow (fun k e=>?_),Kp.grown hk hgrow (fun k e=>Nat.le_trans hW (hrow k e).1),hgrow.size,fun b t vs hb hbn=>hb.kept hgrow (fun e=>by have:=(hrow b e.symm).1;omega)⟩
  ·rw [flat_app,Fo.ofL_append]
   exact (h2.keep hS hH).app (hc.keep hS hH)
  ·have:=(hrow k e).1
   exact ⟨hfar k (by omega),fun e'=>by have:=h0.tlt;omega,by have:=h0.old.size;omega⟩
end Go.Proofs.YtlklhkkjcfmefaaGreatDoor.pa
