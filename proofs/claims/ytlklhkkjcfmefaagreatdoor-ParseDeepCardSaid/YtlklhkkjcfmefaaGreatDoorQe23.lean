/- Ground of the law: PaP10, PaP29. -/
import Derived.Test.YtlklhkkjcfmefaaGreatDoorQe20
import Derived.Test.YtlklhkkjcfmefaaGreatDoorQe17
set_option maxRecDepth 100000
set_option maxHeartbeats 8000000
set_option linter.unusedVariables false
set_option linter.unusedSimpArgs false
namespace Go.Proofs.YtlklhkkjcfmefaaGreatDoor.pa
open Go.Lib (hid)
open Go.RowKit nd pr sx ed
theorem object_tl {E : Env} (hE : EnvOk E) {qp : Pa Nd} (hq : Tl E qp RN 119 #[pB E]) (n : Nat) (hn : n ≤ 100000000) : Tl E (need lbrace (.look fun t=>if op rbrace t then .move (.ret (mk 10 eB [])) else (listP qp (op comma) n).bind fun l=>need rbrace (.ret (mk 10 eB l)))) RN 68 #[pB E]:=by
 intro W i o hp hr
 simp only [need_bind lbrace,need_bind rbrace] at hr
 have HLIST:=hid (list_tl hE en_pair hq (13,comma) (fun e=>by cases e) (op comma) (op_eq comma) n hn)
 have hmf : ∀ (fn : Go.Fn) (first cap : Array Value) (w : World),(Instr.makeFunc fn first cap).run Tryz.prog w = .ok (.func fn first cap) w:=fun _ _ _ _=>rfl
 have HNP:=hid hp.far;have H00:=hid hp
 obtain ⟨W0,hW0⟩ : ∃ W0,W.alloc (.cells nodeZ 32) = W0:=⟨_,rfl⟩
 have hb0 : Below W.heap.size W W0:=by rw [← hW0];exact (Below.refl _ W).alloc (Nat.le_refl _) _
 have hk0 : Blk W0 W.heap.size 32 nodeZ:=by rw [← hW0];exact Blk.new W _ _
 have hs0 : W.heap.size + 1 ≤ W0.heap.size:=by rw [← hW0];simp
 have HW0:=hid hW0;have HK0:=hid (Kp.of_below (E:=E) hb0);have HP0:=hid (hp.next hb0);have HS0:=hid hs0;have HR0:=hid hr
 have HBr0:=hid hk0
 clear hW0 hb0 hk0 hs0 hp hr
 unfold pB
 go_enter Tryz.func68,Tryz.ntmps68
 go_upto_region 1 with fail
 rw [HW0.out]
 go_wp2_with fail
 ((with_reducible refine (op_calls' _ _).mono ?_);rintro e w1 ⟨rfl,hb⟩)
 have HK1:=hid (Kp.sb HK0.out hb)
 have HS1:=hid (show (W.heap.size + 1) ≤ w1.heap.size from Nat.le_trans HS0.out (hb).size)
 have HBr1:=hid (HBr0.out.own hb)
 have HP1:=hid (HP0.out.next hb)
 have HR1:=HR0
 clear HK0 HS0 HBr0
 clear hb HP0 HR0
 obtain ⟨o2,h2,hr2⟩:=bind_run HR1.out
 have hcall:=Tl.at (must_op hE in_lbrace) HP1.out h2
 have HC:=hid hcall;have HR2:=hid hr2
 clear hcall h2 hr2 HR1 HP1
 unfold pB at HC
 try unfold methV at HC
 go_wp2_with fail
 ((with_reducible refine HC.out.mono ?_);rintro e w2 ⟨hk,hm⟩)
 clear HC
 rcases o2 with ⟨r2,x2⟩ | ⟨r2⟩
 rotate_left
 ·obtain ⟨j,hj,hd,rfl⟩:=hm
  obtain rfl : o = .bad r2:=(Option.some.inj HR2.out).symm
  exact ⟨rfl,Kp.tr HK1.out hk,j,hj,hd,rfl⟩
 obtain ⟨v2,j2,rfl,hp,rfl,hR⟩:=hm
 have HK2:=hid (Kp.tr HK1.out hk)
 have HS2:=hid (show (W.heap.size + 1) ≤ w2.heap.size from Nat.le_trans HS1.out (hk).size)
 have HBr2:=hid (Kp.blk' (n:=W.heap.size) HBr1.out hk HNP.out (Nat.le_refl _))
 have HP2:=hid hp
 obtain rfl:=hR
 clear hk hp
 have hl:=HR2.out
 clear HR2
 dsimp only at hl
 have HR2:=hid hl
 clear hl
 clear HK1 HS1 HBr1
 have hl:=HR2.out
 clear HR2
 rw [run_look] at hl
 obtain ⟨t,ht⟩ : ∃ t,tk E j2 = t:=⟨_,rfl⟩
 have HNX:=hid (fun W' (hb : Below w2.heap.size w2 W')=>next_calls hE (HP2.out.next hb))
 have hnx:=HNX.out
 clear HNX
 rw [ht] at hnx
 have HNX:=hid hnx
 rw [show tok (E.l.drop j2) = t from ht] at hl
 obtain ⟨c,hc⟩ : ∃ c,op rbrace t = c:=⟨_,rfl⟩
 rw [hc] at hl
 have HR2:=hid hl;have HTt:=hid ht;have HCt:=hid hc
 clear hl hnx ht
 have hdc : decide (tk E j2 = (13,rbrace)) = c:=by rw [HTt.out];exact same_op hc
 have HDC:=hid hdc
 clear hc hdc HNX
 go_wp2_with fail
 ((with_reducible refine (op_calls' _ _).mono ?_);rintro e w3 ⟨rfl,hb⟩)
 have HK3:=hid (Kp.sb HK2.out hb)
 have HS3:=hid (show (W.heap.size + 1) ≤ w3.heap.size from Nat.le_trans HS2.out (hb).size)
 have HBr3:=hid (HBr2.out.own hb)
 have HP3:=hid (HP2.out.next hb)
 have HR3:=HR2
 clear HK2 HS2 HBr2
 clear hb HP2 HR2
 have htk:=took_calls hE HP3.out (13,rbrace) (fun e=>by cases e) c HDC.out
 unfold pB at htk
 have HTK:=hid htk
 clear htk HDC
 cases c with
 | true =>
  have hl:=HR3.out
  clear HR3
  rw [if_yes] at hl
  have HR3:=hid hl
  clear hl
  go_wp2_with fail
  ((with_reducible refine HTK.out.mono ?_);rintro e w4 ⟨rfl,hk,hp⟩)
  have HK4:=hid (Kp.tr HK3.out hk)
  have HS4:=hid (show (W.heap.size + 1) ≤ w4.heap.size from Nat.le_trans HS3.out (hk).size)
  have HBr4:=hid (Kp.blk' (n:=W.heap.size) HBr3.out hk HNP.out (Nat.le_refl _))
  have hl:=HR3.out
  obtain ⟨j4,hj⟩ : ∃ n,j2 + 1 = n:=⟨_,rfl⟩
  have hp2 : Ps E w4 (j2 + 1):=hp
  rw [hj] at hp2
  have HP4:=hid hp2
  rw [run_move,hj] at hl
  have HR4:=hid hl
  clear hp2 hj
  clear HK3 HS3 HBr3
  clear hk hp hl HTK HR3 HP3
  go_wp2_with fail
  ((with_reducible refine (node_calls _ _ _ _ _ _).mono ?_);rintro e w5 ⟨rfl,hbn⟩)
  have hb:=hbn
  have HK5:=hid (Kp.sb HK4.out hb)
  have HS5:=hid (show (W.heap.size + 1) ≤ w5.heap.size from Nat.le_trans HS4.out (hb).size)
  have HBr5:=hid (HBr4.out.own hb)
  have HP5:=hid (HP4.out.next hb)
  have hx:=kids_nil (Fr (W.heap.size + 1) w5) w5 none 0
  have hfin:=fin_node hE (x:=mk 10 eB []) H00.out HP5.out HK5.out (Nat.le_refl _) HBr5.out hx
  obtain rfl : o = .ok (E.l.drop j4) (mk 10 eB []):=(Option.some.inj HR4.out).symm
  have rc0:=HBr5.out.cell 0;have rf0:=HBr5.out.frozen 0
  have rc1:=HBr5.out.cell 1;have rf1:=HBr5.out.frozen 1
  have rc2:=HBr5.out.cell 2;have rf2:=HBr5.out.frozen 2
  have g0:=hfin.1.cell 0;have g1:=hfin.1.cell 1;have g2:=hfin.1.cell 2
  have HF:=hid hfin.2
  simp only [mk,Fo.ofL,Fo.len] at g0 g1 g2
  clear hfin
  go_wp2_with fail
  refine bodyPost_ret (v:=.agg (nV (mk 10 eB []) none 0)) (by simp [results,Tryz.results68,go_sem,g0,g1,g2,mk,Fo.ofL,Fo.len]) rfl ?_
  exact HF.out
 | false =>
  have hl:=HR3.out
  clear HR3
  rw [if_no] at hl
  have HR3:=hid hl
  clear hl
  go_wp2_with fail
  ((with_reducible refine HTK.out.mono ?_);rintro e w4 ⟨rfl,hk,hp⟩)
  have HK4:=hid (Kp.tr HK3.out hk)
  have HS4:=hid (show (W.heap.size + 1) ≤ w4.heap.size from Nat.le_trans HS3.out (hk).size)
  have HBr4:=hid (Kp.blk' (n:=W.heap.size) HBr3.out hk HNP.out (Nat.le_refl _))
  have hl:=HR3.out
  have HP4:=hid (show Ps E w4 j2 from hp)
  have HR4:=hid hl
  clear HK3 HS3 HBr3
  clear hk hp hl HTK HR3 HP3
  go_wp2_with fail
  ((with_reducible refine (op_calls' _ _).mono ?_);rintro e w5 ⟨rfl,hb⟩)
  have HK5:=hid (Kp.sb HK4.out hb)
  have HS5:=hid (show (W.heap.size + 1) ≤ w5.heap.size from Nat.le_trans HS4.out (hb).size)
  have HBr5:=hid (HBr4.out.own hb)
  have HP5:=hid (HP4.out.next hb)
  have HR5:=HR4
  clear HK4 HS4 HBr4
  clear hb HP4 HR4
  obtain ⟨o6,h6,hr6⟩:=bind_run HR5.out
  have hcall:=Tl.at HLIST.out HP5.out h6
  have HC:=hid hcall;have HR6:=hid hr6
  clear hcall h6 hr6 HR5 HP5
  unfold pB at HC
  try unfold methV at HC
  go_wp2_with fail
  ((with_reducible refine HC.out.mono ?_);rintro e w6 ⟨hk,hm⟩)
  clear HC
  rcases o6 with ⟨r6,x6⟩ | ⟨r6⟩
  rotate_left
  ·obtain ⟨j,hj,hd,rfl⟩:=hm
   obtain rfl : o = .bad r6:=(Option.some.inj HR6.out).symm
   exact ⟨rfl,Kp.tr HK5.out hk,j,hj,hd,rfl⟩
  obtain ⟨v6,j6,rfl,hp,rfl,hR⟩:=hm
  have HK6:=hid (Kp.tr HK5.out hk)
  have HS6:=hid (show (W.heap.size + 1) ≤ w6.heap.size from Nat.le_trans HS5.out (hk).size)
  have HBr6:=hid (Kp.blk' (n:=W.heap.size) HBr5.out hk HNP.out (Nat.le_refl _))
  have HP6:=hid hp
  obtain ⟨al,cl,rfl⟩:=OwnL.slice hR
  have HOl6:=hid (OwnL.mono hR HS5.out)
  clear hk hp hR
  have hl:=HR6.out
  clear HR6
  dsimp only at hl
  have HR6:=hid hl
  clear hl
  clear HK5 HS5 HBr5
  go_wp2_with fail
  ((with_reducible refine (op_calls' _ _).mono ?_);rintro e w7 ⟨rfl,hb⟩)
  have HK7:=hid (Kp.sb HK6.out hb)
  have HS7:=hid (show (W.heap.size + 1) ≤ w7.heap.size from Nat.le_trans HS6.out (hb).size)
  have HBr7:=hid (HBr6.out.own hb)
  have HOl7:=hid (OwnL.below HOl6.out hb)
  have HP7:=hid (HP6.out.next hb)
  have HR7:=HR6
  clear HK6 HS6 HBr6 HOl6
  clear hb HP6 HR6
  obtain ⟨o8,h8,hr8⟩:=bind_run HR7.out
  have hcall:=Tl.at (must_op hE in_rbrace) HP7.out h8
  have HC:=hid hcall;have HR8:=hid hr8
  clear hcall h8 hr8 HR7 HP7
  unfold pB at HC
  try unfold methV at HC
  go_wp2_with fail
  ((with_reducible refine HC.out.mono ?_);rintro e w8 ⟨hk,hm⟩)
  clear HC
  rcases o8 with ⟨r8,x8⟩ | ⟨r8⟩
  rotate_left
  ·obtain ⟨j,hj,hd,rfl⟩:=hm
   obtain rfl : o = .bad r8:=(Option.some.inj HR8.out).symm
   exact ⟨rfl,Kp.tr HK7.out hk,j,hj,hd,rfl⟩
  obtain ⟨v8,j8,rfl,hp,rfl,hR⟩:=hm
  have HK8:=hid (Kp.tr HK7.out hk)
  have HS8:=hid (show (W.heap.size + 1) ≤ w8.heap.size from Nat.le_trans HS7.out (hk).size)
  have HBr8:=hid (Kp.blk' (n:=W.heap.size) HBr7.out hk HNP.out (Nat.le_refl _))
  have HOl8:=hid (OwnL.kp HOl7.out hk (fun k hk=>HNP.out k (by omega)))
  have HP8:=hid hp
  obtain rfl:=hR
  clear hk hp
  have hl:=HR8.out
  clear HR8
  dsimp only at hl
  have HR8:=hid hl
  clear hl
  clear HK7 HS7 HBr7 HOl7
  go_wp2_with fail
  ((with_reducible refine (node_calls _ _ _ _ _ _).mono ?_);rintro e w9 ⟨rfl,hb⟩)
  have HK9:=hid (Kp.sb HK8.out hb)
  have HS9:=hid (show (W.heap.size + 1) ≤ w9.heap.size from Nat.le_trans HS8.out (hb).size)
  have HBr9:=hid (HBr8.out.own hb)
  have HOl9:=hid (OwnL.below HOl8.out hb)
  have HP9:=hid (HP8.out.next hb)
  have hx:=HOl9.out.kids
  have hx2 : KidsAt (Fr (W.heap.size + 1) w9) w9 (mk 10 eB x6).kids (.slice al (mk 10 eB x6).kids.len cl):=by rw [show (mk 10 eB x6).kids.len = x6.length from (Fo.ofL_len _).trans (by simp)];exact hx
  have hfin:=fin_node hE (x:=(mk 10 eB x6)) H00.out HP9.out HK9.out (Nat.le_refl _) HBr9.out hx2
  obtain rfl : o = .ok (E.l.drop j8) (mk 10 eB x6):=(Option.some.inj HR8.out).symm
  have rc0:=HBr9.out.cell 0;have rf0:=HBr9.out.frozen 0
  have rc1:=HBr9.out.cell 1;have rf1:=HBr9.out.frozen 1
  have rc2:=HBr9.out.cell 2;have rf2:=HBr9.out.frozen 2
  have hln : (mk 10 eB x6).kids.len = x6.length:=(Fo.ofL_len _).trans (by simp)
  have g0:=hfin.1.cell 0;have g1:=hfin.1.cell 1;have g2 : _ = some (Value.slice al (mk 10 eB x6).kids.len cl):=hfin.1.cell 2
  have hF2:=hfin.2
  dsimp only [nV] at hF2
  rw [hln] at hF2 g0 g1 g2
  simp only [mk] at g0 g1 g2
  have HF:=hid hF2
  clear hfin hx hx2 hln hF2
  go_wp2_with fail
  refine bodyPost_ret (v:=.agg #[.int .i64 10,.string eB,.slice al x6.length cl]) (by simp [results,Tryz.results68,go_sem,g0,g1,g2]) rfl ?_
  exact HF.out
theorem call_tl {E : Env} (hE : EnvOk E) {q : Pa Nd} (hq : Tl E q RN 123 #[pB E]) (n : Nat) (hn : n ≤ 100000000) : Tl E (.look fun t=>if t.1 = 0 then .out else .move (.look fun u=>if op lpar u then (need lpar ((listP q (op semi) n).bind fun l=>need rpar (.ret l))).bind fun l=>.ret (mk 13 t.2 l) else .ret (mk 13 t.2 []))) RN 74 #[pB E]:=by
 intro W i o hp hr
 have HLIST:=hid (enclosed_tl hE en_pipe hq in_lpar in_semi in_rpar n hn)
 have hmf : ∀ (fn : Go.Fn) (first cap : Array Value) (w : World),(Instr.makeFunc fn first cap).run Tryz.prog w = .ok (.func fn first cap) w:=fun _ _ _ _=>rfl
 have HNP:=hid hp.far;have H00:=hid hp
 obtain ⟨W0,hW0⟩ : ∃ W0,W.alloc (.cells nodeZ 32) = W0:=⟨_,rfl⟩
 have hb0 : Below W.heap.size W W0:=by rw [← hW0];exact (Below.refl _ W).alloc (Nat.le_refl _) _
 have hk0 : Blk W0 W.heap.size 32 nodeZ:=by rw [← hW0];exact Blk.new W _ _
 have hs0 : W.heap.size + 1 ≤ W0.heap.size:=by rw [← hW0];simp
 have HW0:=hid hW0;have HK0:=hid (Kp.of_below (E:=E) hb0);have HP0:=hid (hp.next hb0);have HS0:=hid hs0;have HR0:=hid hr
 have HBr0:=hid hk0
 clear hW0 hb0 hk0 hs0 hp hr
 unfold pB
 go_enter Tryz.func74,Tryz.ntmps74
 go_upto_region 1 with fail
 rw [HW0.out]
 have hl:=HR0.out
 clear HR0
 rw [run_look] at hl
 obtain ⟨t,ht⟩ : ∃ t,tk E i = t:=⟨_,rfl⟩
 rw [show tok (E.l.drop i) = t from ht] at hl
 have hk0 : t.1 ≠ 0:=fun e=>by rw [if_pos e] at hl;cases hl
 rw [if_neg hk0] at hl
 have HTt:=hid ht;have HK0t:=hid hk0
 have HR0:=hid hl
 clear hl ht hk0
 have htk:=take_calls hE HP0.out (tok_lt HTt.out HK0t.out)
 rw [HTt.out] at htk
 unfold pB at htk
 have HTK:=hid htk
 clear htk
 go_wp2_with fail
 ((with_reducible refine HTK.out.mono ?_);rintro e w1 ⟨rfl,hk,hp⟩)
 have HK1:=hid (Kp.tr HK0.out hk)
 have HS1:=hid (show (W.heap.size + 1) ≤ w1.heap.size from Nat.le_trans HS0.out (hk).size)
 have HBr1:=hid (Kp.blk' (n:=W.heap.size) HBr0.out hk HNP.out (Nat.le_refl _))
 have hl:=HR0.out
 obtain ⟨j1,hj⟩ : ∃ n,i + 1 = n:=⟨_,rfl⟩
 rw [hj] at hp
 have HP1:=hid hp
 rw [run_move,hj] at hl
 have HR1:=hid hl
 clear HK0 HS0 HBr0
 clear hk hp hj hl HTK HR0 HP0
 have HTt':=HTt;clear HTt
 have hl:=HR1.out
 clear HR1
 rw [run_look] at hl
 obtain ⟨u,ht⟩ : ∃ t,tk E j1 = t:=⟨_,rfl⟩
 have HNX:=hid (fun W' (hb : Below w1.heap.size w1 W')=>next_calls hE (HP1.out.next hb))
 have hnx:=HNX.out
 clear HNX
 rw [ht] at hnx
 have HNX:=hid hnx
 rw [show tok (E.l.drop j1) = u from ht] at hl
 obtain ⟨c,hc⟩ : ∃ c,op lpar u = c:=⟨_,rfl⟩
 rw [hc] at hl
 have HR1:=hid hl;have HTu:=hid ht;have HCu:=hid hc
 clear hl hnx ht
 have hv:=same_op hc
 clear hc
 have hq1:=run_sameV;have hq2:=run_otherV;have hq3:=guard_eqV;have hq4:=guard_neV
 unfold pB at HNX
 go_wp2_with fail
 ((with_reducible refine (HNX.out _ (Below.refl _ _)).mono ?_);rintro e w2 ⟨rfl,hb⟩)
 have HK2:=hid (Kp.sb HK1.out hb)
 have HS2:=hid (show (W.heap.size + 1) ≤ w2.heap.size from Nat.le_trans HS1.out (hb).size)
 have HBr2:=hid (HBr1.out.own hb)
 have HP2:=hid (HP1.out.next hb)
 have HR2:=HR1
 clear HK1 HS1 HBr1
 clear hb HNX HP1 HR1
 go_wp2_with fail
 ((with_reducible refine (op_calls' _ _).mono ?_);rintro e w3 ⟨rfl,hb⟩)
 have HK3:=hid (Kp.sb HK2.out hb)
 have HS3:=hid (show (W.heap.size + 1) ≤ w3.heap.size from Nat.le_trans HS2.out (hb).size)
 have HBr3:=hid (HBr2.out.own hb)
 have HP3:=hid (HP2.out.next hb)
 have HR3:=HR2
 clear HK2 HS2 HBr2
 clear hb HP2 HR2
 cases c with
 | true =>
  have hl:=HR3.out
  clear HR3
  rw [if_yes] at hl
  have HR3:=hid hl
  clear hl
  obtain ⟨o4,h4,hr4⟩:=bind_run HR3.out
  have hcall:=Tl.at HLIST.out HP3.out h4
  have HC:=hid hcall;have HR4:=hid hr4
  clear hcall h4 hr4 HR3 HP3
  unfold pB at HC
  try unfold methV at HC
  go_wp2_with fail
  ((with_reducible refine HC.out.mono ?_);rintro e w4 ⟨hk,hm⟩)
  clear HC
  rcases o4 with ⟨r4,x4⟩ | ⟨r4⟩
  rotate_left
  ·obtain ⟨j,hj,hd,rfl⟩:=hm
   obtain rfl : o = .bad r4:=(Option.some.inj HR4.out).symm
   exact ⟨rfl,Kp.tr HK3.out hk,j,hj,hd,rfl⟩
  obtain ⟨v4,j4,rfl,hp,rfl,hR⟩:=hm
  have HK4:=hid (Kp.tr HK3.out hk)
  have HS4:=hid (show (W.heap.size + 1) ≤ w4.heap.size from Nat.le_trans HS3.out (hk).size)
  have HBr4:=hid (Kp.blk' (n:=W.heap.size) HBr3.out hk HNP.out (Nat.le_refl _))
  have HP4:=hid hp
  obtain ⟨al,cl,rfl⟩:=OwnL.slice hR
  have HOl4:=hid (OwnL.mono hR HS3.out)
  clear hk hp hR
  have hl:=HR4.out
  clear HR4
  dsimp only at hl
  have HR4:=hid hl
  clear hl
  clear HK3 HS3 HBr3
  go_wp2_with fail
  ((with_reducible refine (node_calls _ _ _ _ _ _).mono ?_);rintro e w5 ⟨rfl,hb⟩)
  have HK5:=hid (Kp.sb HK4.out hb)
  have HS5:=hid (show (W.heap.size + 1) ≤ w5.heap.size from Nat.le_trans HS4.out (hb).size)
  have HBr5:=hid (HBr4.out.own hb)
  have HOl5:=hid (OwnL.below HOl4.out hb)
  have HP5:=hid (HP4.out.next hb)
  have hx:=HOl5.out.kids
  have hx2 : KidsAt (Fr (W.heap.size + 1) w5) w5 (mk 13 t.2 x4).kids (.slice al (mk 13 t.2 x4).kids.len cl):=by rw [show (mk 13 t.2 x4).kids.len = x4.length from (Fo.ofL_len _).trans (by simp)];exact hx
  have hfin:=fin_node hE (x:=(mk 13 t.2 x4)) H00.out HP5.out HK5.out (Nat.le_refl _) HBr5.out hx2
  obtain rfl : o = .ok (E.l.drop j4) (mk 13 t.2 x4):=(Option.some.inj HR4.out).symm
  have rc0:=HBr5.out.cell 0;have rf0:=HBr5.out.frozen 0
  have rc1:=HBr5.out.cell 1;have rf1:=HBr5.out.frozen 1
  have rc2:=HBr5.out.cell 2;have rf2:=HBr5.out.frozen 2
  have hln : (mk 13 t.2 x4).kids.len = x4.length:=(Fo.ofL_len _).trans (by simp)
  have g0:=hfin.1.cell 0;have g1:=hfin.1.cell 1;have g2 : _ = some (Value.slice al (mk 13 t.2 x4).kids.len cl):=hfin.1.cell 2
  have hF2:=hfin.2
  dsimp only [nV] at hF2
  rw [hln] at hF2 g0 g1 g2
  simp only [mk] at g0 g1 g2
  have HF:=hid hF2
  clear hfin hx hx2 hln hF2
  go_wp2_with fail
  refine bodyPost_ret (v:=.agg #[.int .i64 13,.string t.2,.slice al x4.length cl]) (by simp [results,Tryz.results74,go_sem,g0,g1,g2]) rfl ?_
  exact HF.out
 | false =>
  have hl:=HR3.out
  clear HR3
  rw [if_no] at hl
  have HR3:=hid hl
  clear hl
  go_wp2_with fail
  ((with_reducible refine (node_calls _ _ _ _ _ _).mono ?_);rintro e w4 ⟨rfl,hbn⟩)
  have hb:=hbn
  have HK4:=hid (Kp.sb HK3.out hb)
  have HS4:=hid (show (W.heap.size + 1) ≤ w4.heap.size from Nat.le_trans HS3.out (hb).size)
  have HBr4:=hid (HBr3.out.own hb)
  have HP4:=hid (HP3.out.next hb)
  have hx:=kids_nil (Fr (W.heap.size + 1) w4) w4 none 0
  have hfin:=fin_node hE (x:=mk 13 t.2 []) H00.out HP4.out HK4.out (Nat.le_refl _) HBr4.out hx
  obtain rfl : o = .ok (E.l.drop j1) (mk 13 t.2 []):=(Option.some.inj HR3.out).symm
  have rc0:=HBr4.out.cell 0;have rf0:=HBr4.out.frozen 0
  have rc1:=HBr4.out.cell 1;have rf1:=HBr4.out.frozen 1
  have rc2:=HBr4.out.cell 2;have rf2:=HBr4.out.frozen 2
  have g0:=hfin.1.cell 0;have g1:=hfin.1.cell 1;have g2:=hfin.1.cell 2
  have HF:=hid hfin.2
  simp only [mk,Fo.ofL,Fo.len] at g0 g1 g2
  clear hfin
  go_wp2_with fail
  refine bodyPost_ret (v:=.agg (nV (mk 13 t.2 []) none 0)) (by simp [results,Tryz.results74,go_sem,g0,g1,g2,mk,Fo.ofL,Fo.len]) rfl ?_
  exact HF.out
theorem pattern_tl {E : Env} (hE : EnvOk E) {q qk : Pa Nd} (hq : Tl E q RN 160 #[pB E]) (hk2 : Tl E qk RN 191 #[pB E]) (n : Nat) (hn : n ≤ 100000000) : Tl E (.look fun t=>if op lbr t then (need lbr ((listP q (op comma) n).bind fun l=>need rbr (.ret l))).bind fun l=>.ret (mk 35 eB l) else if op lbrace t then (need lbrace ((listP qk (op comma) n).bind fun l=>need rbrace (.ret l))).bind fun l=>.ret (mk 36 eB l) else (cutP 5).bind fun s=>.ret (mk 4 s [])) RN 160 #[pB E]:=by
 intro W i o hp hr
 have HL1:=hid (enclosed_tl hE en_pattern hq in_lbr in_comma in_rbr n hn);have HL2:=hid (enclosed_tl hE en_keyPat hk2 in_lbrace in_comma in_rbrace n hn)
 have hmf : ∀ (fn : Go.Fn) (first cap : Array Value) (w : World),(Instr.makeFunc fn first cap).run Tryz.prog w = .ok (.func fn first cap) w:=fun _ _ _ _=>rfl
 have HNP:=hid hp.far;have H00:=hid hp
 obtain ⟨W0,hW0⟩ : ∃ W0,W.alloc (.cells nodeZ 32) = W0:=⟨_,rfl⟩
 have hb0 : Below W.heap.size W W0:=by rw [← hW0];exact (Below.refl _ W).alloc (Nat.le_refl _) _
 have hk0 : Blk W0 W.heap.size 32 nodeZ:=by rw [← hW0];exact Blk.new W _ _
 have hs0 : W.heap.size + 1 ≤ W0.heap.size:=by rw [← hW0];simp
 have HW0:=hid hW0;have HK0:=hid (Kp.of_below (E:=E) hb0);have HP0:=hid (hp.next hb0);have HS0:=hid hs0;have HR0:=hid hr
 have HBr0:=hid hk0
 clear hW0 hb0 hk0 hs0 hp hr
 unfold pB
 go_enter Tryz.func160,Tryz.ntmps160
 go_upto_region 1 with fail
 rw [HW0.out]
 have hl:=HR0.out
 clear HR0
 rw [run_look] at hl
 obtain ⟨t,ht⟩ : ∃ t,tk E i = t:=⟨_,rfl⟩
 have HNX:=hid (fun W' (hb : Below W0.heap.size W0 W')=>next_calls hE (HP0.out.next hb))
 have hnx:=HNX.out
 clear HNX
 rw [ht] at hnx
 have HNX:=hid hnx
 rw [show tok (E.l.drop i) = t from ht] at hl
 obtain ⟨c,hc⟩ : ∃ c,op lbr t = c:=⟨_,rfl⟩
 rw [hc] at hl
 have HR0:=hid hl;have HTt:=hid ht;have HCt:=hid hc
 clear hl hnx ht
 have hv:=same_op hc
 have hq1:=run_sameV;have hq2:=run_otherV;have hq3:=guard_eqV;have hq4:=guard_neV
 unfold pB at HNX
 go_wp2_with fail
 ((with_reducible refine (HNX.out _ (Below.refl _ _)).mono ?_);rintro e w1 ⟨rfl,hb⟩)
 have HK1:=hid (Kp.sb HK0.out hb)
 have HS1:=hid (show (W.heap.size + 1) ≤ w1.heap.size from Nat.le_trans HS0.out (hb).size)
 have HBr1:=hid (HBr0.out.own hb)
 have HP1:=hid (HP0.out.next hb)
 have HR1:=HR0
 clear HK0 HS0 HBr0
 clear hb HNX HP0 HR0
 go_wp2_with fail
 ((with_reducible refine (op_calls' _ _).mono ?_);rintro e w2 ⟨rfl,hb⟩)
 have HK2:=hid (Kp.sb HK1.out hb)
 have HS2:=hid (show (W.heap.size + 1) ≤ w2.heap.size from Nat.le_trans HS1.out (hb).size)
 have HBr2:=hid (HBr1.out.own hb)
 have HP2:=hid (HP1.out.next hb)
 have HR2:=HR1
 clear HK1 HS1 HBr1
 clear hb HP1 HR1
 cases c with
 | true =>
  have hl:=HR2.out
  clear HR2
  rw [if_yes] at hl
  have HR2:=hid hl
  clear hl
  obtain ⟨o3,h3,hr3⟩:=bind_run HR2.out
  have hcall:=Tl.at HL1.out HP2.out h3
  have HC:=hid hcall;have HR3:=hid hr3
  clear hcall h3 hr3 HR2 HP2
  unfold pB at HC
  try unfold methV at HC
  go_wp2_with fail
  ((with_reducible refine HC.out.mono ?_);rintro e w3 ⟨hk,hm⟩)
  clear HC
  rcases o3 with ⟨r3,x3⟩ | ⟨r3⟩
  rotate_left
  ·obtain ⟨j,hj,hd,rfl⟩:=hm
   obtain rfl : o = .bad r3:=(Option.some.inj HR3.out).symm
   exact ⟨rfl,Kp.tr HK2.out hk,j,hj,hd,rfl⟩
  obtain ⟨v3,j3,rfl,hp,rfl,hR⟩:=hm
  have HK3:=hid (Kp.tr HK2.out hk)
  have HS3:=hid (show (W.heap.size + 1) ≤ w3.heap.size from Nat.le_trans HS2.out (hk).size)
  have HBr3:=hid (Kp.blk' (n:=W.heap.size) HBr2.out hk HNP.out (Nat.le_refl _))
  have HP3:=hid hp
  obtain ⟨al,cl,rfl⟩:=OwnL.slice hR
  have HOl3:=hid (OwnL.mono hR HS2.out)
  clear hk hp hR
  have hl:=HR3.out
  clear HR3
  dsimp only at hl
  have HR3:=hid hl
  clear hl
  clear HK2 HS2 HBr2
  go_wp2_with fail
  ((with_reducible refine (node_calls _ _ _ _ _ _).mono ?_);rintro e w4 ⟨rfl,hb⟩)
  have HK4:=hid (Kp.sb HK3.out hb)
  have HS4:=hid (show (W.heap.size + 1) ≤ w4.heap.size from Nat.le_trans HS3.out (hb).size)
  have HBr4:=hid (HBr3.out.own hb)
  have HOl4:=hid (OwnL.below HOl3.out hb)
  have HP4:=hid (HP3.out.next hb)
  have hx:=HOl4.out.kids
  have hx2 : KidsAt (Fr (W.heap.size + 1) w4) w4 (mk 35 eB x3).kids (.slice al (mk 35 eB x3).kids.len cl):=by rw [show (mk 35 eB x3).kids.len = x3.length from (Fo.ofL_len _).trans (by simp)];exact hx
  have hfin:=fin_node hE (x:=(mk 35 eB x3)) H00.out HP4.out HK4.out (Nat.le_refl _) HBr4.out hx2
  obtain rfl : o = .ok (E.l.drop j3) (mk 35 eB x3):=(Option.some.inj HR3.out).symm
  have rc0:=HBr4.out.cell 0;have rf0:=HBr4.out.frozen 0
  have rc1:=HBr4.out.cell 1;have rf1:=HBr4.out.frozen 1
  have rc2:=HBr4.out.cell 2;have rf2:=HBr4.out.frozen 2
  have hln : (mk 35 eB x3).kids.len = x3.length:=(Fo.ofL_len _).trans (by simp)
  have g0:=hfin.1.cell 0;have g1:=hfin.1.cell 1;have g2 : _ = some (Value.slice al (mk 35 eB x3).kids.len cl):=hfin.1.cell 2
  have hF2:=hfin.2
  dsimp only [nV] at hF2
  rw [hln] at hF2 g0 g1 g2
  simp only [mk] at g0 g1 g2
  have HF:=hid hF2
  clear hfin hx hx2 hln hF2
  go_wp2_with fail
  refine bodyPost_ret (v:=.agg #[.int .i64 35,.string eB,.slice al x3.length cl]) (by simp [results,Tryz.results160,go_sem,g0,g1,g2]) rfl ?_
  exact HF.out
 | false =>
  have hl:=HR2.out
  clear HR2
  rw [if_no] at hl
  have HR2:=hid hl
  clear hl
  obtain ⟨c2,hc2⟩ : ∃ c2,op lbrace t = c2:=⟨_,rfl⟩
  have hl:=HR2.out
  clear HR2
  rw [hc2] at hl
  have HR2:=hid hl
  clear hl
  have hv2:=same_op hc2
  clear hc2
  go_wp2_with fail
  ((with_reducible refine (op_calls' _ _).mono ?_);rintro e w3 ⟨rfl,hb⟩)
  have HK3:=hid (Kp.sb HK2.out hb)
  have HS3:=hid (show (W.heap.size + 1) ≤ w3.heap.size from Nat.le_trans HS2.out (hb).size)
  have HBr3:=hid (HBr2.out.own hb)
  have HP3:=hid (HP2.out.next hb)
  have HR3:=HR2
  clear HK2 HS2 HBr2
  clear hb HP2 HR2
  cases c2 with
  | true =>
   have hl:=HR3.out
   clear HR3
   rw [if_yes] at hl
   have HR3:=hid hl
   clear hl
   obtain ⟨o4,h4,hr4⟩:=bind_run HR3.out
   have hcall:=Tl.at HL2.out HP3.out h4
   have HC:=hid hcall;have HR4:=hid hr4
   clear hcall h4 hr4 HR3 HP3
   unfold pB at HC
   try unfold methV at HC
   go_wp2_with fail
   ((with_reducible refine HC.out.mono ?_);rintro e w4 ⟨hk,hm⟩)
   clear HC
   rcases o4 with ⟨r4,x4⟩ | ⟨r4⟩
   rotate_left
   ·obtain ⟨j,hj,hd,rfl⟩:=hm
    obtain rfl : o = .bad r4:=(Option.some.inj HR4.out).symm
    exact ⟨rfl,Kp.tr HK3.out hk,j,hj,hd,rfl⟩
   obtain ⟨v4,j4,rfl,hp,rfl,hR⟩:=hm
   have HK4:=hid (Kp.tr HK3.out hk)
   have HS4:=hid (show (W.heap.size + 1) ≤ w4.heap.size from Nat.le_trans HS3.out (hk).size)
   have HBr4:=hid (Kp.blk' (n:=W.heap.size) HBr3.out hk HNP.out (Nat.le_refl _))
   have HP4:=hid hp
   obtain ⟨al,cl,rfl⟩:=OwnL.slice hR
   have HOl4:=hid (OwnL.mono hR HS3.out)
   clear hk hp hR
   have hl:=HR4.out
   clear HR4
   dsimp only at hl
   have HR4:=hid hl
   clear hl
   clear HK3 HS3 HBr3
   go_wp2_with fail
   ((with_reducible refine (node_calls _ _ _ _ _ _).mono ?_);rintro e w5 ⟨rfl,hb⟩)
   have HK5:=hid (Kp.sb HK4.out hb)
   have HS5:=hid (show (W.heap.size + 1) ≤ w5.heap.size from Nat.le_trans HS4.out (hb).size)
   have HBr5:=hid (HBr4.out.own hb)
   have HOl5:=hid (OwnL.below HOl4.out hb)
   have HP5:=hid (HP4.out.next hb)
   have hx:=HOl5.out.kids
   have hx2 : KidsAt (Fr (W.heap.size + 1) w5) w5 (mk 36 eB x4).kids (.slice al (mk 36 eB x4).kids.len cl):=by rw [show (mk 36 eB x4).kids.len = x4.length from (Fo.ofL_len _).trans (by simp)];exact hx
   have hfin:=fin_node hE (x:=(mk 36 eB x4)) H00.out HP5.out HK5.out (Nat.le_refl _) HBr5.out hx2
   obtain rfl : o = .ok (E.l.drop j4) (mk 36 eB x4):=(Option.some.inj HR4.out).symm
   have rc0:=HBr5.out.cell 0;have rf0:=HBr5.out.frozen 0
   have rc1:=HBr5.out.cell 1;have rf1:=HBr5.out.frozen 1
   have rc2:=HBr5.out.cell 2;have rf2:=HBr5.out.frozen 2
   have hln : (mk 36 eB x4).kids.len = x4.length:=(Fo.ofL_len _).trans (by simp)
   have g0:=hfin.1.cell 0;have g1:=hfin.1.cell 1;have g2 : _ = some (Value.slice al (mk 36 eB x4).kids.len cl):=hfin.1.cell 2
   have hF2:=hfin.2
   dsimp only [nV] at hF2
   rw [hln] at hF2 g0 g1 g2
   simp only [mk] at g0 g1 g2
   have HF:=hid hF2
   clear hfin hx hx2 hln hF2
   go_wp2_with fail
   refine bodyPost_ret (v:=.agg #[.int .i64 36,.string eB,.slice al x4.length cl]) (by simp [results,Tryz.results160,go_sem,g0,g1,g2]) rfl ?_
   exact HF.out
  | false =>
   have hl:=HR3.out
   clear HR3
   rw [if_no] at hl
   have HR3:=hid hl
   clear hl
   have hl:=run_tail HR3.out
   clear HR3
   have HR3:=hid hl
   clear hl
   obtain ⟨o4,h4,hr4⟩:=bind_run HR3.out
   have hcall:=Tl.at (value_tl hE) HP3.out h4
   have HC:=hid hcall;have HR4:=hid hr4
   clear hcall h4 hr4 HR3 HP3
   unfold pB at HC
   try unfold methV at HC
   go_wp2_with fail
   ((with_reducible refine HC.out.mono ?_);rintro e w4 ⟨hk,hm⟩)
   clear HC
   rcases o4 with ⟨r4,x4⟩ | ⟨r4⟩
   rotate_left
   ·obtain ⟨j,hj,hd,rfl⟩:=hm
    obtain rfl : o = .bad r4:=(Option.some.inj HR4.out).symm
    exact ⟨rfl,Kp.tr HK3.out hk,j,hj,hd,rfl⟩
   obtain ⟨v4,j4,rfl,hp,rfl,hR⟩:=hm
   have HK4:=hid (Kp.tr HK3.out hk)
   have HS4:=hid (show (W.heap.size + 1) ≤ w4.heap.size from Nat.le_trans HS3.out (hk).size)
   have HBr4:=hid (Kp.blk' (n:=W.heap.size) HBr3.out hk HNP.out (Nat.le_refl _))
   have HP4:=hid hp
   obtain ⟨ax,cx,rfl,hx⟩:=kids_new (n:=(W.heap.size + 1)) hR HS3.out
   have HXx4:=hid hx
   clear hk hp hR hx
   have hl:=HR4.out
   clear HR4
   dsimp only at hl
   have HR4:=hid hl
   clear hl
   clear HK3 HS3 HBr3
   obtain rfl : o = .ok (E.l.drop j4) x4:=(Option.some.inj HR4.out).symm
   have hfin:=fin_node hE H00.out HP4.out HK4.out (Nat.le_refl _) HBr4.out HXx4.out
   have rc0:=HBr4.out.cell 0;have rf0:=HBr4.out.frozen 0
   have rc1:=HBr4.out.cell 1;have rf1:=HBr4.out.frozen 1
   have rc2:=HBr4.out.cell 2;have rf2:=HBr4.out.frozen 2
   have g0:=hfin.1.cell 0;have g1:=hfin.1.cell 1;have g2:=hfin.1.cell 2
   have HF:=hid hfin.2
   skip
   clear hfin
   go_wp2_with fail
   refine bodyPost_ret (v:=.agg (nV x4 ax cx)) (by simp [results,Tryz.results160,go_sem,g0,g1,g2]) rfl ?_
   exact HF.out
theorem reduce_tl {E : Env} (hE : EnvOk E) {qf : Pa (List Nd)} (hq : Tl E qf RL 124 #[pB E,.string wreduce]) : Tl E (qf.bind fun l=>need rpar (.ret (mk 16 eB l))) RN 71 #[pB E]:=by
 intro W i o hp hr
 simp only [need_bind rpar] at hr
 have HNP:=hid hp.far;have H00:=hid hp
 obtain ⟨W0,hW0⟩ : ∃ W0,W.alloc (.cells nodeZ 32) = W0:=⟨_,rfl⟩
 have hb0 : Below W.heap.size W W0:=by rw [← hW0];exact (Below.refl _ W).alloc (Nat.le_refl _) _
 have hk0 : Blk W0 W.heap.size 32 nodeZ:=by rw [← hW0];exact Blk.new W _ _
 have hs0 : W.heap.size + 1 ≤ W0.heap.size:=by rw [← hW0];simp
 have HW0:=hid hW0;have HK0:=hid (Kp.of_below (E:=E) hb0);have HP0:=hid (hp.next hb0);have HS0:=hid hs0;have HR0:=hid hr
 have HBr0:=hid hk0
 clear hW0 hb0 hk0 hs0 hp hr
 unfold pB
 go_enter Tryz.func71,Tryz.ntmps71
 go_upto_region 1 with fail
 rw [HW0.out]
 obtain ⟨o1,h1,hr1⟩:=bind_run HR0.out
 have hcall:=Tl.at hq HP0.out h1
 have HC:=hid hcall;have HR1:=hid hr1
 clear hcall h1 hr1 HR0 HP0
 unfold pB at HC
 try unfold methV at HC
 go_wp2_with fail
 ((with_reducible refine HC.out.mono ?_);rintro e w1 ⟨hk,hm⟩)
 clear HC
 rcases o1 with ⟨r1,x1⟩ | ⟨r1⟩
 rotate_left
 ·obtain ⟨j,hj,hd,rfl⟩:=hm
  obtain rfl : o = .bad r1:=(Option.some.inj HR1.out).symm
  exact ⟨rfl,Kp.tr HK0.out hk,j,hj,hd,rfl⟩
 obtain ⟨v1,j1,rfl,hp,rfl,hR⟩:=hm
 have HK1:=hid (Kp.tr HK0.out hk)
 have HS1:=hid (show (W.heap.size + 1) ≤ w1.heap.size from Nat.le_trans HS0.out (hk).size)
 have HBr1:=hid (Kp.blk' (n:=W.heap.size) HBr0.out hk HNP.out (Nat.le_refl _))
 have HP1:=hid hp
 obtain ⟨al,cl,rfl⟩:=OwnL.slice hR
 have HOl1:=hid (OwnL.mono hR HS0.out)
 clear hk hp hR
 have hl:=HR1.out
 clear HR1
 dsimp only at hl
 have HR1:=hid hl
 clear hl
 clear HK0 HS0 HBr0
 go_wp2_with fail
 ((with_reducible refine (op_calls' _ _).mono ?_);rintro e w2 ⟨rfl,hb⟩)
 have HK2:=hid (Kp.sb HK1.out hb)
 have HS2:=hid (show (W.heap.size + 1) ≤ w2.heap.size from Nat.le_trans HS1.out (hb).size)
 have HBr2:=hid (HBr1.out.own hb)
 have HOl2:=hid (OwnL.below HOl1.out hb)
 have HP2:=hid (HP1.out.next hb)
 have HR2:=HR1
 clear HK1 HS1 HBr1 HOl1
 clear hb HP1 HR1
 obtain ⟨o3,h3,hr3⟩:=bind_run HR2.out
 have hcall:=Tl.at (must_op hE in_rpar) HP2.out h3
 have HC:=hid hcall;have HR3:=hid hr3
 clear hcall h3 hr3 HR2 HP2
 unfold pB at HC
 try unfold methV at HC
 go_wp2_with fail
 ((with_reducible refine HC.out.mono ?_);rintro e w3 ⟨hk,hm⟩)
 clear HC
 rcases o3 with ⟨r3,x3⟩ | ⟨r3⟩
 rotate_left
 ·obtain ⟨j,hj,hd,rfl⟩:=hm
  obtain rfl : o = .bad r3:=(Option.some.inj HR3.out).symm
  exact ⟨rfl,Kp.tr HK2.out hk,j,hj,hd,rfl⟩
 obtain ⟨v3,j3,rfl,hp,rfl,hR⟩:=hm
 have HK3:=hid (Kp.tr HK2.out hk)
 have HS3:=hid (show (W.heap.size + 1) ≤ w3.heap.size from Nat.le_trans HS2.out (hk).size)
 have HBr3:=hid (Kp.blk' (n:=W.heap.size) HBr2.out hk HNP.out (Nat.le_refl _))
 have HOl3:=hid (OwnL.kp HOl2.out hk (fun k hk=>HNP.out k (by omega)))
 have HP3:=hid hp
 obtain rfl:=hR
 clear hk hp
 have hl:=HR3.out
 clear HR3
 dsimp only at hl
 have HR3:=hid hl
 clear hl
 clear HK2 HS2 HBr2 HOl2
 go_wp2_with fail
 ((with_reducible refine (node_calls _ _ _ _ _ _).mono ?_);rintro e w4 ⟨rfl,hb⟩)
 have HK4:=hid (Kp.sb HK3.out hb)
 have HS4:=hid (show (W.heap.size + 1) ≤ w4.heap.size from Nat.le_trans HS3.out (hb).size)
 have HBr4:=hid (HBr3.out.own hb)
 have HOl4:=hid (OwnL.below HOl3.out hb)
 have HP4:=hid (HP3.out.next hb)
 have hx:=HOl4.out.kids
 have hx2 : KidsAt (Fr (W.heap.size + 1) w4) w4 (mk 16 eB x1).kids (.slice al (mk 16 eB x1).kids.len cl):=by rw [show (mk 16 eB x1).kids.len = x1.length from (Fo.ofL_len _).trans (by simp)];exact hx
 have hfin:=fin_node hE (x:=(mk 16 eB x1)) H00.out HP4.out HK4.out (Nat.le_refl _) HBr4.out hx2
 obtain rfl : o = .ok (E.l.drop j3) (mk 16 eB x1):=(Option.some.inj HR3.out).symm
 have rc0:=HBr4.out.cell 0;have rf0:=HBr4.out.frozen 0
 have rc1:=HBr4.out.cell 1;have rf1:=HBr4.out.frozen 1
 have rc2:=HBr4.out.cell 2;have rf2:=HBr4.out.frozen 2
 have hln : (mk 16 eB x1).kids.len = x1.length:=(Fo.ofL_len _).trans (by simp)
 have g0:=hfin.1.cell 0;have g1:=hfin.1.cell 1;have g2 : _ = some (Value.slice al (mk 16 eB x1).kids.len cl):=hfin.1.cell 2
 have hF2:=hfin.2
 dsimp only [nV] at hF2
 rw [hln] at hF2 g0 g1 g2
 simp only [mk] at g0 g1 g2
 have HF:=hid hF2
 clear hfin hx hx2 hln hF2
 go_wp2_with fail
 refine bodyPost_ret (v:=.agg #[.int .i64 16,.string eB,.slice al x1.length cl]) (by simp [results,Tryz.results71,go_sem,g0,g1,g2]) rfl ?_
 exact HF.out
end Go.Proofs.YtlklhkkjcfmefaaGreatDoor.pa
namespace Go.Proofs.YtlklhkkjcfmefaaGreatDoor.pa
open Go.RowKit nd pr sx ed
def OwnK (n m : Nat) (W : World) (l : List Nd) (v : Value) : Prop:=∃ L,W.ownsRow m 32 3 v l.length L ∧ CellsOf (Aw n W v) W (Fo.ofL l) L
theorem OwnK.own {n m : Nat} {W : World} {l : List Nd} {v : Value} (h : OwnK n m W l v) (hm : n ≤ m) : OwnL n W l v:=by
 obtain ⟨L,h1,h2⟩:=h
 refine ⟨L,⟨h1.1,?_⟩,h2⟩
 rcases h1.2 with hn | ⟨g,cap,cur,rfl,h2,h3⟩
 ·exact .inl hn
 ·exact .inr ⟨g,cap,cur,rfl,Nat.le_trans hm h2,h3⟩
theorem OwnK.below {n m : Nat} {W W' : World} {l : List Nd} {v : Value} (h : OwnK n m W l v) (hb : Below W.heap.size W W') : OwnK n m W' l v:=by
 obtain ⟨L,h1,h2⟩:=h
 refine ⟨L,own_heap h1 (fun k e=>hb.block k (h1.lt k e).2),h2.keep (fun k e=>⟨e.1,Nat.lt_of_lt_of_le e.2.1 hb.size,e.2.2⟩) (fun k e=>hb.block k e.2.1)⟩
theorem OwnK.slice {n m : Nat} {W : World} {l : List Nd} {v : Value} (h : OwnK n m W l v) : ∃ a c,v = .slice a l.length c:=by
 obtain ⟨L,h1,_⟩:=h
 obtain ⟨a,c,e,_⟩:=own_len' h1
 exact ⟨a,c,e⟩
theorem OwnK.nil (n m : Nat) (W : World) : OwnK n m W [] (.slice none 0 0):=⟨[],World.ownsRow_nil _ _ _ _,rfl⟩
theorem OwnK.from {n m : Nat} {W : World} {l : List Nd} {v : Value} (h : OwnK n m W l v) : ∀ k,v.ownBlock = some k → m ≤ k:=by
 obtain ⟨L,h1,_⟩:=h
 exact fun k e=>(h1.lt k e).1
theorem k_aw {n m : Nat} {wL w : World} {f : Fo} {s v : Value} (h : KidsAt (Fr n wL) wL f s) (hm : wL.heap.size = m) (hsame : ∀ k,k < m → w.heap[k]? = wL.heap[k]?) (hsz : m ≤ w.heap.size) (hv : ∀ k,v.ownBlock = some k → m ≤ k) : KidsAt (Aw n w v) w f s :=
 h.keep (fun k e=>⟨e.1,Nat.lt_of_lt_of_le (hm ▸ e.2) hsz,fun e'=>by have:=hv k e';have:=e.2;omega⟩) (fun k e=>hsame k (hm ▸ e.2))
structure GrewK (E : Env) (n m : Nat) (W w w' : World) (j : Nat) (l : List Nd) (v' : Value) : Prop where
 own : OwnK n m w' l v'
 ps : Ps E w' j
 kp : Kp E W w'
 size : w.heap.size ≤ w'.heap.size
 blk : ∀ k,k < m → w'.heap[k]? = w.heap[k]?
theorem wpList_append_nodesK {E : Env} {W w : World} {ops : Array Oper} {rest : List Oper} {o : Oper} {a : Act} {Q : Exit → Act → World → Prop} (hgd : o.guard = none) (s x : Operand)
  (ho : o.op = .call { callee:=.builtin .append,args:=#[s,x],argTypes:=#[30,30] })
  (n m j i' : Nat) (l ys : List Nd) (v : Value) (hs : a.eval s = v) (hown : OwnK n m w l v) (hl : l.length ≤ 1000000000) (hy0 : ys.length ≤ 10)
  (g : Nat) (L2 : List Value) (hx : a.eval x = .slice (some ⟨g,0,none⟩) ys.length ys.length) (hg : Blk w g 32 L2.toArray) (hc : CellsOf (Aw n w v) w (Fo.ofL ys) L2)
  (hbase : m ≤ w.heap.size) (hp : Ps E w j) (hk : Kp E W w) (hW : W.heap.size ≤ n) (hnm : n ≤ m) (hfar : ∀ k,W.heap.size ≤ k → ¬ Pm E k) (h0 : Ps E W i')
  (h : ∀ v' w',GrewK E n m W w w' j (l ++ ys) v' → wpList Tryz.prog ops Q rest (a.put o.dst v') w') : wpList Tryz.prog ops Q (o :: rest) a w:=by
 obtain ⟨i0,hi,hz0,hz1,hz2⟩:=info_parts infoN
 obtain ⟨L,h1,h2⟩:=hown
 have hlen : L2.length = ys.length * 3:=by rw [hc.len,Fo.ofL_len]
 refine wpList_append_own_at _ hgd s x 30 ho m 32 i0 _ 3 48 Tryz.underlying30 hi hz0 hz1 hz2 rfl (by decide) v l.length L hs h1 ⟨g,0,none⟩ ys.length ys.length L2 hx hlen ?_ hc.one (by unfold maxLen;omega) (by omega) hbase ?_
 ·intro j u hj
  rw [addr_add,Nat.zero_add,hg.cell j]
  simpa using hj
 ·intro v' w' hown' hgrow _ hat
  have hrow : ∀ k,v.ownBlock = some k → m ≤ k ∧ k < w.heap.size:=fun k e=>h1.lt k e
  have hS : ∀ k,Aw n w v k → Aw n w' v' k:=fun k e=>⟨e.1,Nat.lt_of_lt_of_le e.2.1 hgrow.size,fun e'=>by
   rcases hat with hat | hat
   ·rw [hat] at e';exact e.2.2 e'
   ·rw [hat] at e';cases e';have:=e.2.1;omega⟩
  have hH : ∀ k,Aw n w v k → w'.heap[k]? = w.heap[k]?:=fun k e=>hgrow.block k e.2.1 (fun e'=>e.2.2 e'.symm)
  refine h v' w' ⟨⟨L ++ L2,by rw [List.length_append];exact hown',?_⟩,hp.grown hgrow (fun k e=>?_),Kp.grown hk hgrow (fun k e=>by have:=(hrow k e).1;omega),hgrow.size,fun k hk2=>hgrow.block k (by omega) (fun e=>by have:=(hrow k e.symm).1;omega)⟩
  ·rw [Fo.ofL_append]
   exact (h2.keep hS hH).app (hc.keep hS hH)
  ·have:=(hrow k e).1
   exact ⟨hfar k (by omega),fun e'=>by have:=h0.tlt;omega,by have:=h0.old.size;omega⟩
theorem flat_get : ∀ {l : List (Nd × Nd)} {q : Nat} {p : Nd × Nd},l[q]? = some p → (flat l)[2 * q]? = some p.1 ∧ (flat l)[2 * q + 1]? = some p.2
 | [],_,_,h=>by cases h
 | x :: l,0,p,h=>by
  cases (Option.some.inj h : x = p)
  exact ⟨rfl,rfl⟩
 | x :: l,q + 1,p,h=>by
  have:=flat_get (l:=l) (q:=q) (p:=p) (by simpa using h)
  rw [show 2 * (q + 1) = 2 * q + 1 + 1 by omega]
  simpa [flat] using this
theorem flat_take {l : List (Nd × Nd)} {q : Nat} {p : Nd × Nd} (h : l[q]? = some p) : flat (l.take (q + 1)) = flat (l.take q) ++ [p.1,p.2]:=by
 rw [List.take_add_one,h,flat_app];rfl
theorem OwnB.get {n : Nat} {W : World} {l : List (Nd × Nd)} {v : Value} {q : Nat} {p : Nd × Nd} (h : OwnB n W l v) (hq : l[q]? = some p) :
  ∃ g cap a c a' c',v = .slice (some ⟨g,0,none⟩) l.length cap ∧ g < W.heap.size ∧ W.cell? ⟨g,q * 6,none⟩ = some (.int .i64 p.1.k) ∧ W.cell? ⟨g,q * 6 + 1,none⟩ = some (.string p.1.t) ∧ W.cell? ⟨g,q * 6 + 2,none⟩ = some (.slice a p.1.kids.len c) ∧
   W.cell? ⟨g,q * 6 + 3,none⟩ = some (.int .i64 p.2.k) ∧ W.cell? ⟨g,q * 6 + 4,none⟩ = some (.string p.2.t) ∧ W.cell? ⟨g,q * 6 + 5,none⟩ = some (.slice a' p.2.kids.len c') ∧ KidsAt (Fr n W) W p.1.kids (.slice a p.1.kids.len c) ∧ KidsAt (Fr n W) W p.2.kids (.slice a' p.2.kids.len c'):=by
 obtain ⟨L,h1,h2⟩:=h
 have h10:=h1
 rcases h1.2 with ⟨rfl,h0⟩ | ⟨g,cap,cur,rfl,hg,hcur,h3⟩
 ·have : l = []:=List.eq_nil_of_length_eq_zero h0
  subst this;cases hq
 ·have hr : RowAt (Aw n W _) W g 0 (Fo.ofL (flat l)):=CellsOf.row (o:=0) h2 fun j u hj=>by
   have:=h10.cells (g:=g) rfl j u hj
   rw [addr_add] at this
   exact this
  obtain ⟨f1,f2⟩:=flat_get hq
  obtain ⟨s,a0,a1,a2,a3⟩:=hr.get (i:=2 * q) (by rw [Fo.ofL_get];exact f1)
  obtain ⟨s',b0,b1,b2,b3⟩:=hr.get (i:=2 * q + 1) (by rw [Fo.ofL_get];exact f2)
  obtain ⟨a,c,rfl,_⟩:=a3.slice
  obtain ⟨a',c',rfl,_⟩:=b3.slice
  rw [show 0 + 2 * q * 3 = q * 6 by omega] at a0 a1 a2
  rw [show 0 + (2 * q + 1) * 3 = q * 6 + 3 by omega] at b0 b1 b2
  exact ⟨g,cap,a,c,a',c',rfl,(h10.lt g rfl).2,a0,a1,a2,b0,b1,b2,a3.keep (fun k e=>⟨e.1,e.2.1⟩) (fun _ _=>rfl),b3.keep (fun k e=>⟨e.1,e.2.1⟩) (fun _ _=>rfl)⟩
structure KI (E : Env) (W wL : World) (bs : List (Nd × Nd)) (j : Nat) (v iv : Value) (wr : World) (q : Nat) : Prop where
 own : OwnK (W.heap.size + 1) wL.heap.size wr (flat (bs.take q)) v
 iv : iv = .int .i64 (q : Int)
 le : q ≤ bs.length
 ps : Ps E wr j
 kp : Kp E W wr
 same : ∀ k,k < wL.heap.size → wr.heap[k]? = wL.heap[k]?
 size : wL.heap.size ≤ wr.heap.size
end Go.Proofs.YtlklhkkjcfmefaaGreatDoor.pa
