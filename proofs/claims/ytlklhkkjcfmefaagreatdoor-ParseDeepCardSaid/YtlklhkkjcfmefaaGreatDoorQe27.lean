/- Ground of the law: PaP18, PaP19. -/
import Derived.Test.YtlklhkkjcfmefaaGreatDoorQe26
import Derived.Test.YtlklhkkjcfmefaaGreatDoorQe17
set_option maxRecDepth 100000
set_option maxHeartbeats 8000000
set_option linter.unusedVariables false
set_option linter.unusedSimpArgs false
namespace Go.Proofs.YtlklhkkjcfmefaaGreatDoor.pa
open Go.Lib (hid)
open Go.RowKit nd pr sx ed
theorem operand_tl {E : Env} (hE : EnvOk E) {q9 q qp qk : Pa Nd} (h9 : Tl E q9 RN 213 #[pB E]) (hq : Tl E q RN 123 #[pB E]) (hpo : Tl E qp RN 159 #[pB E]) (hk2 : Tl E qk RN 160 #[pB E]) (n : Nat) (hn : n ≤ 100000000) : Tl E (.look fun t=>if op minus t = true then need minus (q9.bind fun x=>.ret (mk 25 eB [x])) else if word wdef t = true then defP q n q else if word wlabel t = true then need wlabel ((cutP 5).bind fun s=>need bar (q.bind fun x=>.ret (mk 27 s [x]))) else if word wtry t = true then need wtry (qp.bind fun x=>.look fun u=>if word wcatch u then .move (qp.bind fun y=>.ret (mk 15 eB [x,y])) else .ret (mk 15 eB [x])) else qp.bind fun x=>.look fun u=>if word was u = true then .move (qk.bind fun p=>need bar (q.bind fun y=>.ret (mk 26 eB [x,p,y]))) else .ret x) RN 186 #[pB E]:=by
 intro W i o hp hr
 have hmf : ∀ (fn : Go.Fn) (first cap : Array Value) (w : World),(Instr.makeFunc fn first cap).run Tryz.prog w = .ok (.func fn first cap) w:=fun _ _ _ _=>rfl
 have HLAB:=hid (label_tl hE hq);have HTRY:=hid (try_tl hE hpo);have HMIN:=hid (minus_tl hE en_negated h9);have HDEF:=hid (def_of hE hq n hn (qr:=q));have HFT:=hid (ft_of en_pipe hq)
 have HNP:=hid hp.far;have H00:=hid hp
 obtain ⟨W0,hW0⟩ : ∃ W0,W.alloc (.cells nodeZ 32) = W0:=⟨_,rfl⟩
 have hb0 : Below W.heap.size W W0:=by rw [← hW0];exact (Below.refl _ W).alloc (Nat.le_refl _) _
 have hk0 : Blk W0 W.heap.size 32 nodeZ:=by rw [← hW0];exact Blk.new W _ _
 have hs0 : W.heap.size + 1 ≤ W0.heap.size:=by rw [← hW0];simp
 have HW0:=hid hW0;have HK0:=hid (Kp.of_below (E:=E) hb0);have HP0:=hid (hp.next hb0);have HS0:=hid hs0;have HR0:=hid hr
 have HBr0:=hid hk0
 clear hW0 hb0 hk0 hs0 hp hr
 unfold pB
 go_enter Tryz.func186,Tryz.ntmps186
 go_upto_region 1 with fail
 rw [HW0.out]
 have hl:=HR0.out
 clear HR0
 rw [run_look] at hl
 obtain ⟨t,ht⟩ : ∃ t,tk E i = t:=⟨_,rfl⟩
 have HNX:=hid (fun W' (hb : Below W0.heap.size W0 W')=>next_calls hE (HP0.out.next hb))
 have hnx:=HNX.out
 clear HNX
 rw [ht] at hnx
 have HNX:=hid hnx
 rw [show tok (E.l.drop i) = t from ht] at hl
 obtain ⟨c,hc⟩ : ∃ c,op minus t = c:=⟨_,rfl⟩
 rw [hc] at hl
 have HR0:=hid hl;have HTt:=hid ht;have HCt:=hid hc
 clear hl hnx ht
 have hv:=same_op hc
 have hq1:=run_sameV;have hq2:=run_otherV;have hq3:=guard_eqV;have hq4:=guard_neV
 unfold pB at HNX
 go_wp2_with fail
 ((with_reducible refine (HNX.out _ (Below.refl _ _)).mono ?_);rintro e w1 ⟨rfl,hb⟩)
 have HK1:=hid (Kp.sb HK0.out hb)
 have HS1:=hid (show (W.heap.size + 1) ≤ w1.heap.size from Nat.le_trans HS0.out (hb).size)
 have HBr1:=hid (HBr0.out.own hb)
 have HP1:=hid (HP0.out.next hb)
 have HR1:=HR0
 clear HK0 HS0 HBr0
 clear hb HNX HP0 HR0
 go_wp2_with fail
 ((with_reducible refine (op_calls' _ _).mono ?_);rintro e w2 ⟨rfl,hb⟩)
 have HK2:=hid (Kp.sb HK1.out hb)
 have HS2:=hid (show (W.heap.size + 1) ≤ w2.heap.size from Nat.le_trans HS1.out (hb).size)
 have HBr2:=hid (HBr1.out.own hb)
 have HP2:=hid (HP1.out.next hb)
 have HR2:=HR1
 clear HK1 HS1 HBr1
 clear hb HP1 HR1
 cases c with
 | true =>
  have hl:=HR2.out
  clear HR2
  rw [if_yes] at hl
  have HR2:=hid hl
  clear hl
  have hl:=run_tail HR2.out
  clear HR2
  have HR2:=hid hl
  clear hl
  obtain ⟨o3,h3,hr3⟩:=bind_run HR2.out
  have hcall:=Tl.at HMIN.out HP2.out h3
  have HC:=hid hcall;have HR3:=hid hr3
  clear hcall h3 hr3 HR2 HP2
  unfold pB at HC
  try unfold methV at HC
  go_wp2_with fail
  ((with_reducible refine HC.out.mono ?_);rintro e w3 ⟨hk,hm⟩)
  clear HC
  rcases o3 with ⟨r3,x3⟩ | ⟨r3⟩
  rotate_left
  ·obtain ⟨j,hj,hd,rfl⟩:=hm
   obtain rfl : o = .bad r3:=(Option.some.inj HR3.out).symm
   exact ⟨rfl,Kp.tr HK2.out hk,j,hj,hd,rfl⟩
  obtain ⟨v3,j3,rfl,hp,rfl,hR⟩:=hm
  have HK3:=hid (Kp.tr HK2.out hk)
  have HS3:=hid (show (W.heap.size + 1) ≤ w3.heap.size from Nat.le_trans HS2.out (hk).size)
  have HBr3:=hid (Kp.blk' (n:=W.heap.size) HBr2.out hk HNP.out (Nat.le_refl _))
  have HP3:=hid hp
  obtain ⟨ax,cx,rfl,hx⟩:=kids_new (n:=(W.heap.size + 1)) hR HS2.out
  have HXx3:=hid hx
  clear hk hp hR hx
  have hl:=HR3.out
  clear HR3
  dsimp only at hl
  have HR3:=hid hl
  clear hl
  clear HK2 HS2 HBr2
  obtain rfl : o = .ok (E.l.drop j3) x3:=(Option.some.inj HR3.out).symm
  have hfin:=fin_node hE H00.out HP3.out HK3.out (Nat.le_refl _) HBr3.out HXx3.out
  have rc0:=HBr3.out.cell 0;have rf0:=HBr3.out.frozen 0
  have rc1:=HBr3.out.cell 1;have rf1:=HBr3.out.frozen 1
  have rc2:=HBr3.out.cell 2;have rf2:=HBr3.out.frozen 2
  have g0:=hfin.1.cell 0;have g1:=hfin.1.cell 1;have g2:=hfin.1.cell 2
  have HF:=hid hfin.2
  skip
  clear hfin
  go_wp2_with fail
  refine bodyPost_ret (v:=.agg (nV x3 ax cx)) (by simp [results,Tryz.results186,go_sem,g0,g1,g2]) rfl ?_
  exact HF.out
 | false =>
  have hl:=HR2.out
  clear HR2
  rw [if_no] at hl
  have HR2:=hid hl
  clear hl
  obtain ⟨c2,hc2⟩ : ∃ c2,word wdef t = c2:=⟨_,rfl⟩
  have hl:=HR2.out
  clear HR2
  rw [hc2] at hl
  have HR2:=hid hl
  clear hl
  have hvwdef:=same_word hc2
  have HCtwdef:=hid hc2
  clear hc2
  go_wp2_with fail
  ((with_reducible refine (word_calls' _ _).mono ?_);rintro e w3 ⟨rfl,hb⟩)
  have HK3:=hid (Kp.sb HK2.out hb)
  have HS3:=hid (show (W.heap.size + 1) ≤ w3.heap.size from Nat.le_trans HS2.out (hb).size)
  have HBr3:=hid (HBr2.out.own hb)
  have HP3:=hid (HP2.out.next hb)
  have HR3:=HR2
  clear HK2 HS2 HBr2
  clear hb HP2 HR2
  cases c2 with
  | true =>
   have hl:=HR3.out
   clear HR3
   rw [if_yes] at hl
   have HR3:=hid hl
   clear hl
   have hl:=run_tail HR3.out
   clear HR3
   have HR3:=hid hl
   clear hl
   obtain ⟨o4,h4,hr4⟩:=bind_run HR3.out
   have hcall:=HDEF.out _ w3 i o4 (HFT.out w3) HP3.out h4
   have HC:=hid hcall;have HR4:=hid hr4
   clear hcall h4 hr4 HR3 HP3
   unfold pB at HC
   try unfold methV at HC
   go_wp2_with fail
   ((with_reducible refine HC.out.mono ?_);rintro e w4 ⟨hk,hm⟩)
   clear HC
   rcases o4 with ⟨r4,x4⟩ | ⟨r4⟩
   rotate_left
   ·obtain ⟨j,hj,hd,rfl⟩:=hm
    obtain rfl : o = .bad r4:=(Option.some.inj HR4.out).symm
    exact ⟨rfl,Kp.tr HK3.out hk,j,hj,hd,rfl⟩
   obtain ⟨v4,j4,rfl,hp,rfl,hR⟩:=hm
   have HK4:=hid (Kp.tr HK3.out hk)
   have HS4:=hid (show (W.heap.size + 1) ≤ w4.heap.size from Nat.le_trans HS3.out (hk).size)
   have HBr4:=hid (Kp.blk' (n:=W.heap.size) HBr3.out hk HNP.out (Nat.le_refl _))
   have HP4:=hid hp
   obtain ⟨ax,cx,rfl,hx⟩:=kids_new (n:=(W.heap.size + 1)) hR HS3.out
   have HXx4:=hid hx
   clear hk hp hR hx
   have hl:=HR4.out
   clear HR4
   dsimp only at hl
   have HR4:=hid hl
   clear hl
   clear HK3 HS3 HBr3
   obtain rfl : o = .ok (E.l.drop j4) x4:=(Option.some.inj HR4.out).symm
   have hfin:=fin_node hE H00.out HP4.out HK4.out (Nat.le_refl _) HBr4.out HXx4.out
   have rc0:=HBr4.out.cell 0;have rf0:=HBr4.out.frozen 0
   have rc1:=HBr4.out.cell 1;have rf1:=HBr4.out.frozen 1
   have rc2:=HBr4.out.cell 2;have rf2:=HBr4.out.frozen 2
   have g0:=hfin.1.cell 0;have g1:=hfin.1.cell 1;have g2:=hfin.1.cell 2
   have HF:=hid hfin.2
   skip
   clear hfin
   go_wp2_with fail
   refine bodyPost_ret (v:=.agg (nV x4 ax cx)) (by simp [results,Tryz.results186,go_sem,g0,g1,g2]) rfl ?_
   exact HF.out
  | false =>
   have hl:=HR3.out
   clear HR3
   rw [if_no] at hl
   have HR3:=hid hl
   clear hl
   obtain ⟨c2,hc2⟩ : ∃ c2,word wlabel t = c2:=⟨_,rfl⟩
   have hl:=HR3.out
   clear HR3
   rw [hc2] at hl
   have HR3:=hid hl
   clear hl
   have hvwlabel:=same_word hc2
   have HCtwlabel:=hid hc2
   clear hc2
   go_wp2_with fail
   ((with_reducible refine (word_calls' _ _).mono ?_);rintro e w4 ⟨rfl,hb⟩)
   have HK4:=hid (Kp.sb HK3.out hb)
   have HS4:=hid (show (W.heap.size + 1) ≤ w4.heap.size from Nat.le_trans HS3.out (hb).size)
   have HBr4:=hid (HBr3.out.own hb)
   have HP4:=hid (HP3.out.next hb)
   have HR4:=HR3
   clear HK3 HS3 HBr3
   clear hb HP3 HR3
   cases c2 with
   | true =>
    have hl:=HR4.out
    clear HR4
    rw [if_yes] at hl
    have HR4:=hid hl
    clear hl
    have hl:=run_tail HR4.out
    clear HR4
    have HR4:=hid hl
    clear hl
    obtain ⟨o5,h5,hr5⟩:=bind_run HR4.out
    have hcall:=Tl.at HLAB.out HP4.out h5
    have HC:=hid hcall;have HR5:=hid hr5
    clear hcall h5 hr5 HR4 HP4
    unfold pB at HC
    try unfold methV at HC
    go_wp2_with fail
    ((with_reducible refine HC.out.mono ?_);rintro e w5 ⟨hk,hm⟩)
    clear HC
    rcases o5 with ⟨r5,x5⟩ | ⟨r5⟩
    rotate_left
    ·obtain ⟨j,hj,hd,rfl⟩:=hm
     obtain rfl : o = .bad r5:=(Option.some.inj HR5.out).symm
     exact ⟨rfl,Kp.tr HK4.out hk,j,hj,hd,rfl⟩
    obtain ⟨v5,j5,rfl,hp,rfl,hR⟩:=hm
    have HK5:=hid (Kp.tr HK4.out hk)
    have HS5:=hid (show (W.heap.size + 1) ≤ w5.heap.size from Nat.le_trans HS4.out (hk).size)
    have HBr5:=hid (Kp.blk' (n:=W.heap.size) HBr4.out hk HNP.out (Nat.le_refl _))
    have HP5:=hid hp
    obtain ⟨ax,cx,rfl,hx⟩:=kids_new (n:=(W.heap.size + 1)) hR HS4.out
    have HXx5:=hid hx
    clear hk hp hR hx
    have hl:=HR5.out
    clear HR5
    dsimp only at hl
    have HR5:=hid hl
    clear hl
    clear HK4 HS4 HBr4
    obtain rfl : o = .ok (E.l.drop j5) x5:=(Option.some.inj HR5.out).symm
    have hfin:=fin_node hE H00.out HP5.out HK5.out (Nat.le_refl _) HBr5.out HXx5.out
    have rc0:=HBr5.out.cell 0;have rf0:=HBr5.out.frozen 0
    have rc1:=HBr5.out.cell 1;have rf1:=HBr5.out.frozen 1
    have rc2:=HBr5.out.cell 2;have rf2:=HBr5.out.frozen 2
    have g0:=hfin.1.cell 0;have g1:=hfin.1.cell 1;have g2:=hfin.1.cell 2
    have HF:=hid hfin.2
    skip
    clear hfin
    go_wp2_with fail
    refine bodyPost_ret (v:=.agg (nV x5 ax cx)) (by simp [results,Tryz.results186,go_sem,g0,g1,g2]) rfl ?_
    exact HF.out
   | false =>
    have hl:=HR4.out
    clear HR4
    rw [if_no] at hl
    have HR4:=hid hl
    clear hl
    obtain ⟨c2,hc2⟩ : ∃ c2,word wtry t = c2:=⟨_,rfl⟩
    have hl:=HR4.out
    clear HR4
    rw [hc2] at hl
    have HR4:=hid hl
    clear hl
    have hvwtry:=same_word hc2
    have HCtwtry:=hid hc2
    clear hc2
    go_wp2_with fail
    ((with_reducible refine (word_calls' _ _).mono ?_);rintro e w5 ⟨rfl,hb⟩)
    have HK5:=hid (Kp.sb HK4.out hb)
    have HS5:=hid (show (W.heap.size + 1) ≤ w5.heap.size from Nat.le_trans HS4.out (hb).size)
    have HBr5:=hid (HBr4.out.own hb)
    have HP5:=hid (HP4.out.next hb)
    have HR5:=HR4
    clear HK4 HS4 HBr4
    clear hb HP4 HR4
    cases c2 with
    | true =>
     have hl:=HR5.out
     clear HR5
     rw [if_yes] at hl
     have HR5:=hid hl
     clear hl
     have hl:=run_tail HR5.out
     clear HR5
     have HR5:=hid hl
     clear hl
     obtain ⟨o6,h6,hr6⟩:=bind_run HR5.out
     have hcall:=Tl.at HTRY.out HP5.out h6
     have HC:=hid hcall;have HR6:=hid hr6
     clear hcall h6 hr6 HR5 HP5
     unfold pB at HC
     try unfold methV at HC
     go_wp2_with fail
     ((with_reducible refine HC.out.mono ?_);rintro e w6 ⟨hk,hm⟩)
     clear HC
     rcases o6 with ⟨r6,x6⟩ | ⟨r6⟩
     rotate_left
     ·obtain ⟨j,hj,hd,rfl⟩:=hm
      obtain rfl : o = .bad r6:=(Option.some.inj HR6.out).symm
      exact ⟨rfl,Kp.tr HK5.out hk,j,hj,hd,rfl⟩
     obtain ⟨v6,j6,rfl,hp,rfl,hR⟩:=hm
     have HK6:=hid (Kp.tr HK5.out hk)
     have HS6:=hid (show (W.heap.size + 1) ≤ w6.heap.size from Nat.le_trans HS5.out (hk).size)
     have HBr6:=hid (Kp.blk' (n:=W.heap.size) HBr5.out hk HNP.out (Nat.le_refl _))
     have HP6:=hid hp
     obtain ⟨ax,cx,rfl,hx⟩:=kids_new (n:=(W.heap.size + 1)) hR HS5.out
     have HXx6:=hid hx
     clear hk hp hR hx
     have hl:=HR6.out
     clear HR6
     dsimp only at hl
     have HR6:=hid hl
     clear hl
     clear HK5 HS5 HBr5
     obtain rfl : o = .ok (E.l.drop j6) x6:=(Option.some.inj HR6.out).symm
     have hfin:=fin_node hE H00.out HP6.out HK6.out (Nat.le_refl _) HBr6.out HXx6.out
     have rc0:=HBr6.out.cell 0;have rf0:=HBr6.out.frozen 0
     have rc1:=HBr6.out.cell 1;have rf1:=HBr6.out.frozen 1
     have rc2:=HBr6.out.cell 2;have rf2:=HBr6.out.frozen 2
     have g0:=hfin.1.cell 0;have g1:=hfin.1.cell 1;have g2:=hfin.1.cell 2
     have HF:=hid hfin.2
     skip
     clear hfin
     go_wp2_with fail
     refine bodyPost_ret (v:=.agg (nV x6 ax cx)) (by simp [results,Tryz.results186,go_sem,g0,g1,g2]) rfl ?_
     exact HF.out
    | false =>
     have hl:=HR5.out
     clear HR5
     rw [if_no] at hl
     have HR5:=hid hl
     clear hl
     obtain ⟨o6,h6,hr6⟩:=bind_run HR5.out
     have hcall:=Tl.at hpo HP5.out h6
     have HC:=hid hcall;have HR6:=hid hr6
     clear hcall h6 hr6 HR5 HP5
     unfold pB at HC
     try unfold methV at HC
     go_wp2_with fail
     ((with_reducible refine HC.out.mono ?_);rintro e w6 ⟨hk,hm⟩)
     clear HC
     rcases o6 with ⟨r6,x6⟩ | ⟨r6⟩
     rotate_left
     ·obtain ⟨j,hj,hd,rfl⟩:=hm
      obtain rfl : o = .bad r6:=(Option.some.inj HR6.out).symm
      exact ⟨rfl,Kp.tr HK5.out hk,j,hj,hd,rfl⟩
     obtain ⟨v6,j6,rfl,hp,rfl,hR⟩:=hm
     have HK6:=hid (Kp.tr HK5.out hk)
     have HS6:=hid (show (W.heap.size + 1) ≤ w6.heap.size from Nat.le_trans HS5.out (hk).size)
     have HBr6:=hid (Kp.blk' (n:=W.heap.size) HBr5.out hk HNP.out (Nat.le_refl _))
     have HP6:=hid hp
     obtain ⟨ax,cx,rfl,hx⟩:=kids_new (n:=(W.heap.size + 1)) hR HS5.out
     have HXx6:=hid hx
     clear hk hp hR hx
     have hl:=HR6.out
     clear HR6
     dsimp only at hl
     have HR6:=hid hl
     clear hl
     clear HK5 HS5 HBr5
     go_upto_region 11 with fail
     obtain ⟨w7,hw⟩ : ∃ w',w6.alloc (.cells (nV x6 ax cx) 32) = w':=⟨_,rfl⟩
     rw [hw]
     have hb : Below w6.heap.size w6 w7:=by rw [← hw];exact (Below.refl _ _).alloc (Nat.le_refl _) _
     have HBx7:=hid (show Blk w7 w6.heap.size 32 (nV x6 ax cx) by rw [← hw];exact Blk.new _ _ _)
     have HLx:=hid (show W.heap.size ≤ w6.heap.size by have:=HS6.out;omega);have HNEx:=hid (show W.heap.size < w6.heap.size by have:=HS6.out;omega)
     have HK7:=hid (Kp.sb HK6.out hb)
     have HS7:=hid (show (W.heap.size + 1) ≤ w7.heap.size from Nat.le_trans HS6.out (hb).size)
     have HBr7:=hid (HBr6.out.own hb)
     have HXx7:=hid (kids_below HXx6.out hb)
     have HP7:=hid (HP6.out.next hb)
     have HR7:=HR6
     clear HK6 HS6 HBr6 HXx6
     clear hb hw HP6 HR6
     have hl:=HR7.out
     clear HR7
     simp only [need_bind bar] at hl
     have HR7:=hid hl
     clear hl
     have hl:=HR7.out
     clear HR7
     rw [run_look] at hl
     obtain ⟨t,ht⟩ : ∃ t,tk E j6 = t:=⟨_,rfl⟩
     have HNX:=hid (fun W' (hb : Below w7.heap.size w7 W')=>next_calls hE (HP7.out.next hb))
     have hnx:=HNX.out
     clear HNX
     rw [ht] at hnx
     have HNX:=hid hnx
     rw [show tok (E.l.drop j6) = t from ht] at hl
     obtain ⟨c,hc⟩ : ∃ c,word was t = c:=⟨_,rfl⟩
     rw [hc] at hl
     have HR7:=hid hl;have HTt:=hid ht;have HCt:=hid hc
     clear hl hnx ht
     have hdc : decide (tk E j6 = (3,was)) = c:=by rw [HTt.out];exact same_word hc
     have HDC:=hid hdc
     clear hc hdc HNX
     go_wp2_with fail
     ((with_reducible refine (word_calls' _ _).mono ?_);rintro e w8 ⟨rfl,hb⟩)
     have HK8:=hid (Kp.sb HK7.out hb)
     have HS8:=hid (show (W.heap.size + 1) ≤ w8.heap.size from Nat.le_trans HS7.out (hb).size)
     have HBr8:=hid (HBr7.out.own hb)
     have HBx8:=hid (HBx7.out.own hb)
     have HXx8:=hid (kids_below HXx7.out hb)
     have HP8:=hid (HP7.out.next hb)
     have HR8:=HR7
     clear HK7 HS7 HBr7 HBx7 HXx7
     clear hb HP7 HR7
     have htk:=took_calls hE HP8.out (3,was) (fun e=>by cases e) c HDC.out
     unfold pB at htk
     have HTK:=hid htk
     clear htk HDC
     cases c with
     | true =>
      have hl:=HR8.out
      clear HR8
      rw [if_yes] at hl
      have HR8:=hid hl
      clear hl
      go_wp2_with fail
      ((with_reducible refine HTK.out.mono ?_);rintro e w9 ⟨rfl,hk,hp⟩)
      have HK9:=hid (Kp.tr HK8.out hk)
      have HS9:=hid (show (W.heap.size + 1) ≤ w9.heap.size from Nat.le_trans HS8.out (hk).size)
      have HBr9:=hid (Kp.blk' (n:=W.heap.size) HBr8.out hk HNP.out (Nat.le_refl _))
      have HBx9:=hid (Kp.blk' (n:=W.heap.size) HBx8.out hk HNP.out HLx.out)
      have HXx9:=hid (kids_kp HXx8.out hk (fun k hk=>HNP.out k (by omega)))
      have hl:=HR8.out
      obtain ⟨j9,hj⟩ : ∃ n,j6 + 1 = n:=⟨_,rfl⟩
      have hp2 : Ps E w9 (j6 + 1):=hp
      rw [hj] at hp2
      have HP9:=hid hp2
      rw [run_move,hj] at hl
      have HR9:=hid hl
      clear hp2 hj
      clear HK8 HS8 HBr8 HBx8 HXx8
      clear hk hp hl HTK HR8 HP8
      obtain ⟨o10,h10,hr10⟩:=bind_run HR9.out
      have hcall:=Tl.at hk2 HP9.out h10
      have HC:=hid hcall;have HR10:=hid hr10
      clear hcall h10 hr10 HR9 HP9
      unfold pB at HC
      try unfold methV at HC
      go_wp2_with fail
      ((with_reducible refine HC.out.mono ?_);rintro e w10 ⟨hk,hm⟩)
      clear HC
      rcases o10 with ⟨r10,x10⟩ | ⟨r10⟩
      rotate_left
      ·obtain ⟨j,hj,hd,rfl⟩:=hm
       obtain rfl : o = .bad r10:=(Option.some.inj HR10.out).symm
       exact ⟨rfl,Kp.tr HK9.out hk,j,hj,hd,rfl⟩
      obtain ⟨v10,j10,rfl,hp,rfl,hR⟩:=hm
      have HK10:=hid (Kp.tr HK9.out hk)
      have HS10:=hid (show (W.heap.size + 1) ≤ w10.heap.size from Nat.le_trans HS9.out (hk).size)
      have HBr10:=hid (Kp.blk' (n:=W.heap.size) HBr9.out hk HNP.out (Nat.le_refl _))
      have HBx10:=hid (Kp.blk' (n:=W.heap.size) HBx9.out hk HNP.out HLx.out)
      have HXx10:=hid (kids_kp HXx9.out hk (fun k hk=>HNP.out k (by omega)))
      have HP10:=hid hp
      obtain ⟨ap,cp,rfl,hx⟩:=kids_new (n:=(W.heap.size + 1)) hR HS9.out
      have HXp10:=hid hx
      clear hk hp hR hx
      have hl:=HR10.out
      clear HR10
      dsimp only at hl
      have HR10:=hid hl
      clear hl
      clear HK9 HS9 HBr9 HBx9 HXx9
      go_upto_region 14 with fail
      obtain ⟨w11,hw⟩ : ∃ w',w10.alloc (.cells (nV x10 ap cp) 32) = w':=⟨_,rfl⟩
      rw [hw]
      have hb : Below w10.heap.size w10 w11:=by rw [← hw];exact (Below.refl _ _).alloc (Nat.le_refl _) _
      have HBp11:=hid (show Blk w11 w10.heap.size 32 (nV x10 ap cp) by rw [← hw];exact Blk.new _ _ _)
      have HLp:=hid (show W.heap.size ≤ w10.heap.size by have:=HS10.out;omega);have HNEp:=hid (show W.heap.size < w10.heap.size by have:=HS10.out;omega)
      have HK11:=hid (Kp.sb HK10.out hb)
      have HS11:=hid (show (W.heap.size + 1) ≤ w11.heap.size from Nat.le_trans HS10.out (hb).size)
      have HBr11:=hid (HBr10.out.own hb)
      have HBx11:=hid (HBx10.out.own hb)
      have HXx11:=hid (kids_below HXx10.out hb)
      have HXp11:=hid (kids_below HXp10.out hb)
      have HP11:=hid (HP10.out.next hb)
      have HR11:=HR10
      clear HK10 HS10 HBr10 HBx10 HXx10 HXp10
      clear hb hw HP10 HR10
      go_wp2_with fail
      ((with_reducible refine (op_calls' _ _).mono ?_);rintro e w12 ⟨rfl,hb⟩)
      have HK12:=hid (Kp.sb HK11.out hb)
      have HS12:=hid (show (W.heap.size + 1) ≤ w12.heap.size from Nat.le_trans HS11.out (hb).size)
      have HBr12:=hid (HBr11.out.own hb)
      have HBx12:=hid (HBx11.out.own hb)
      have HBp12:=hid (HBp11.out.own hb)
      have HXx12:=hid (kids_below HXx11.out hb)
      have HXp12:=hid (kids_below HXp11.out hb)
      have HP12:=hid (HP11.out.next hb)
      have HR12:=HR11
      clear HK11 HS11 HBr11 HBx11 HBp11 HXx11 HXp11
      clear hb HP11 HR11
      obtain ⟨o13,h13,hr13⟩:=bind_run HR12.out
      have hcall:=Tl.at (must_op hE in_bar) HP12.out h13
      have HC:=hid hcall;have HR13:=hid hr13
      clear hcall h13 hr13 HR12 HP12
      unfold pB at HC
      try unfold methV at HC
      go_wp2_with fail
      ((with_reducible refine HC.out.mono ?_);rintro e w13 ⟨hk,hm⟩)
      clear HC
      rcases o13 with ⟨r13,x13⟩ | ⟨r13⟩
      rotate_left
      ·obtain ⟨j,hj,hd,rfl⟩:=hm
       obtain rfl : o = .bad r13:=(Option.some.inj HR13.out).symm
       exact ⟨rfl,Kp.tr HK12.out hk,j,hj,hd,rfl⟩
      obtain ⟨v13,j13,rfl,hp,rfl,hR⟩:=hm
      have HK13:=hid (Kp.tr HK12.out hk)
      have HS13:=hid (show (W.heap.size + 1) ≤ w13.heap.size from Nat.le_trans HS12.out (hk).size)
      have HBr13:=hid (Kp.blk' (n:=W.heap.size) HBr12.out hk HNP.out (Nat.le_refl _))
      have HBx13:=hid (Kp.blk' (n:=W.heap.size) HBx12.out hk HNP.out HLx.out)
      have HBp13:=hid (Kp.blk' (n:=W.heap.size) HBp12.out hk HNP.out HLp.out)
      have HXx13:=hid (kids_kp HXx12.out hk (fun k hk=>HNP.out k (by omega)))
      have HXp13:=hid (kids_kp HXp12.out hk (fun k hk=>HNP.out k (by omega)))
      have HP13:=hid hp
      obtain rfl:=hR
      clear hk hp
      have hl:=HR13.out
      clear HR13
      dsimp only at hl
      have HR13:=hid hl
      clear hl
      clear HK12 HS12 HBr12 HBx12 HBp12 HXx12 HXp12
      go_upto_region 15 with fail
      have hb:=(Below.refl w13.heap.size w13).drew
      have HK14:=hid (Kp.sb HK13.out hb)
      have HS14:=hid (show (W.heap.size + 1) ≤ w13.drew.heap.size from Nat.le_trans HS13.out (hb).size)
      have HBr14:=hid (HBr13.out.own hb)
      have HBx14:=hid (HBx13.out.own hb)
      have HBp14:=hid (HBp13.out.own hb)
      have HXx14:=hid (kids_below HXx13.out hb)
      have HXp14:=hid (kids_below HXp13.out hb)
      have HP14:=hid (HP13.out.next hb)
      have HR14:=HR13
      clear HK13 HS13 HBr13 HBx13 HBp13 HXx13 HXp13
      clear hb HP13 HR13
      have hS0 : C3 w6.heap.size (.int .i64 x6.k) (.string x6.t) (.slice ax x6.kids.len cx) w13.drew ∧ C3 w10.heap.size (.int .i64 x10.k) (.string x10.t) (.slice ap x10.kids.len cp) w13.drew:=⟨C3.of HBx14.out,C3.of HBp14.out⟩
      have hnex : W.heap.size ≠ w6.heap.size:=by have:=HNEx.out;omega
      have hnep : W.heap.size ≠ w10.heap.size:=by have:=HNEp.out;omega
      obtain ⟨o15,h15,hr15⟩:=bind_run HR14.out
      have hcall:=Tl.at hq HP14.out h15
      have HC:=hid hcall;have HR15:=hid hr15
      clear hcall h15 hr15 HR14 HP14
      unfold pB at HC
      try unfold methV at HC
      go_region_held (fun u=>C3 w6.heap.size (.int .i64 x6.k) (.string x6.t) (.slice ax x6.kids.len cx) u ∧ C3 w10.heap.size (.int .i64 x10.k) (.string x10.t) (.slice ap x10.kids.len cp) u)
       (first | assumption | (have hc:=(by assumption : C3 w6.heap.size (.int .i64 x6.k) (.string x6.t) (.slice ax x6.kids.len cx) _ ∧ C3 w10.heap.size (.int .i64 x10.k) (.string x10.t) (.slice ap x10.kids.len cp) _);obtain ⟨hh0,hh1⟩:=hc;exact ⟨C3.alloc hh0 _,C3.alloc hh1 _⟩) | (have hc:=(by assumption : C3 w6.heap.size (.int .i64 x6.k) (.string x6.t) (.slice ax x6.kids.len cx) _ ∧ C3 w10.heap.size (.int .i64 x10.k) (.string x10.t) (.slice ap x10.kids.len cp) _);obtain ⟨hh0,hh1⟩:=hc;exact ⟨C3.set hh0 hnex _ _ _,C3.set hh1 hnep _ _ _⟩))
       (first
        | (go_at_call 123;(with_reducible refine HC.out.mono ?_);rintro e w15 ⟨hk,hm⟩;clear HC;rcases o15 with ⟨r15,x15⟩ | ⟨r15⟩;rotate_left;(obtain ⟨j,hj,hd,rfl⟩:=hm;obtain rfl : o = .bad r15:=(Option.some.inj HR15.out).symm;exact ⟨rfl,Kp.tr HK14.out hk,j,hj,hd,rfl⟩);obtain ⟨v15,j15,rfl,hp,rfl,hR⟩:=hm;have HK15:=hid (Kp.tr HK14.out hk);have HS15:=hid (show (W.heap.size + 1) ≤ w15.heap.size from Nat.le_trans HS14.out (hk).size);have HBr15:=hid (Kp.blk' (n:=W.heap.size) HBr14.out hk HNP.out (Nat.le_refl _));have HBx15:=hid (Kp.blk' (n:=W.heap.size) HBx14.out hk HNP.out HLx.out);have HBp15:=hid (Kp.blk' (n:=W.heap.size) HBp14.out hk HNP.out HLp.out);have HXx15:=hid (kids_kp HXx14.out hk (fun k hk=>HNP.out k (by omega)));have HXp15:=hid (kids_kp HXp14.out hk (fun k hk=>HNP.out k (by omega)));have HP15:=hid hp;obtain ⟨ay,cy,rfl,hx⟩:=kids_new (n:=(W.heap.size + 1)) hR HS14.out;have HXy15:=hid hx;clear hk hp hR hx;have hl:=HR15.out;clear HR15;dsimp only at hl;have HR15:=hid hl;clear hl;clear HK14 HS14 HBr14 HBx14 HBp14 HXx14 HXp14;have hS15 : C3 w6.heap.size (.int .i64 x6.k) (.string x6.t) (.slice ax x6.kids.len cx) w15 ∧ C3 w10.heap.size (.int .i64 x10.k) (.string x10.t) (.slice ap x10.kids.len cp) w15:=⟨C3.of HBx15.out,C3.of HBp15.out⟩)
        | (go_at_call 85;(with_reducible refine (node_calls _ _ _ _ _ _).mono ?_);rintro e w16 ⟨rfl,hbn⟩;have hrow:=Blk.new w15 32 #[.int .i64 x6.k,.string x6.t,.slice ax x6.kids.len cx,.int .i64 x10.k,.string x10.t,.slice ap x10.kids.len cp,.int .i64 x15.k,.string x15.t,.slice ay x15.kids.len cy];have hba : Below w15.heap.size w15 (w15.alloc (.cells #[.int .i64 x6.k,.string x6.t,.slice ax x6.kids.len cx,.int .i64 x10.k,.string x10.t,.slice ap x10.kids.len cp,.int .i64 x15.k,.string x15.t,.slice ay x15.kids.len cy] 32)):=(Below.refl _ _).alloc (Nat.le_refl _) _;have hb:=hba.trans (hbn.mono hba.size);have hrw:=hrow.own hbn;have HK16:=hid (Kp.sb HK15.out hb);have HS16:=hid (show (W.heap.size + 1) ≤ w16.heap.size from Nat.le_trans HS15.out (hb).size);have HBr16:=hid (HBr15.out.own hb);have HBx16:=hid (HBx15.out.own hb);have HBp16:=hid (HBp15.out.own hb);have HXx16:=hid (kids_below HXx15.out hb);have HXp16:=hid (kids_below HXp15.out hb);have HXy16:=hid (kids_below HXy15.out hb);have HP16:=hid (HP15.out.next hb);have hx:=row3 HXx16.out HXp16.out HXy16.out hrw HS15.out;have hS16 : C3 w6.heap.size (.int .i64 x6.k) (.string x6.t) (.slice ax x6.kids.len cx) w16 ∧ C3 w10.heap.size (.int .i64 x10.k) (.string x10.t) (.slice ap x10.kids.len cp) w16:=⟨C3.of HBx16.out,C3.of HBp16.out⟩;have rc0:=HBr16.out.cell 0;have rf0:=HBr16.out.frozen 0;have rc1:=HBr16.out.cell 1;have rf1:=HBr16.out.frozen 1;have rc2:=HBr16.out.cell 2;have rf2:=HBr16.out.frozen 2))
      have hfin:=fin_node hE (x:=(mk 26 eB [x6,x10,x15])) H00.out HP16.out HK16.out (Nat.le_refl _) HBr16.out hx
      obtain rfl : o = .ok (E.l.drop j15) (mk 26 eB [x6,x10,x15]):=(Option.some.inj HR15.out).symm
      have g0:=hfin.1.cell 0;have g1:=hfin.1.cell 1;have g2:=hfin.1.cell 2
      have HF:=hid hfin.2
      simp only [mk,Fo.ofL,Fo.len] at g0 g1 g2
      clear hfin
      go_wp2_with fail
      refine bodyPost_ret (v:=.agg (nV (mk 26 eB [x6,x10,x15]) (some ⟨w15.heap.size,0,none⟩) 3)) (by simp [results,Tryz.results186,go_sem,g0,g1,g2,mk,Fo.ofL,Fo.len]) rfl ?_
      exact HF.out
     | false =>
      have hl:=HR8.out
      clear HR8
      rw [if_no] at hl
      have HR8:=hid hl
      clear hl
      go_wp2_with fail
      ((with_reducible refine HTK.out.mono ?_);rintro e w9 ⟨rfl,hk,hp⟩)
      have HK9:=hid (Kp.tr HK8.out hk)
      have HS9:=hid (show (W.heap.size + 1) ≤ w9.heap.size from Nat.le_trans HS8.out (hk).size)
      have HBr9:=hid (Kp.blk' (n:=W.heap.size) HBr8.out hk HNP.out (Nat.le_refl _))
      have HBx9:=hid (Kp.blk' (n:=W.heap.size) HBx8.out hk HNP.out HLx.out)
      have HXx9:=hid (kids_kp HXx8.out hk (fun k hk=>HNP.out k (by omega)))
      have hl:=HR8.out
      have HP9:=hid (show Ps E w9 j6 from hp)
      have HR9:=hid hl
      clear HK8 HS8 HBr8 HBx8 HXx8
      clear hk hp hl HTK HR8 HP8
      have xc0:=HBx9.out.cell 0;have xf0:=HBx9.out.frozen 0
      have xc1:=HBx9.out.cell 1;have xf1:=HBx9.out.frozen 1
      have xc2:=HBx9.out.cell 2;have xf2:=HBx9.out.frozen 2
      obtain rfl : o = .ok (E.l.drop j6) x6:=(Option.some.inj HR9.out).symm
      have hfin:=fin_node hE H00.out HP9.out HK9.out (Nat.le_refl _) HBr9.out HXx9.out
      have rc0:=HBr9.out.cell 0;have rf0:=HBr9.out.frozen 0
      have rc1:=HBr9.out.cell 1;have rf1:=HBr9.out.frozen 1
      have rc2:=HBr9.out.cell 2;have rf2:=HBr9.out.frozen 2
      have g0:=hfin.1.cell 0;have g1:=hfin.1.cell 1;have g2:=hfin.1.cell 2
      have HF:=hid hfin.2
      skip
      clear hfin
      go_wp2_with fail
      refine bodyPost_ret (v:=.agg (nV x6 ax cx)) (by simp [results,Tryz.results186,go_sem,g0,g1,g2]) rfl ?_
      exact HF.out
end Go.Proofs.YtlklhkkjcfmefaaGreatDoor.pa
namespace Go.Proofs.YtlklhkkjcfmefaaGreatDoor.pa
open Go.Lib (hid)
open Go.RowKit nd pr sx ed
theorem folded_tl {E : Env} (hE : EnvOk E) {q qp qk : Pa Nd} (hq : Tl E q RN 123 #[pB E]) (hpo : Tl E qp RN 159 #[pB E]) (hk2 : Tl E qk RN 160 #[pB E]) {s : ByteArray} (hs : s ∈ words) : Tl E (need s (qp.bind fun x=>need was (qk.bind fun p=>need lpar (q.bind fun a=>need semi (q.bind fun b=>.ret [x,p,a,b]))))) RL 124 #[pB E,.string s]:=by
 intro W i o hp hr
 simp only [need_bind s,need_bind was,need_bind lpar,need_bind semi] at hr
 have hs0:=hs
 have HNP:=hid hp.far;have H00:=hid hp
 have HK0:=hid (Kp.refl E W);have HP0:=hid hp;have HR0:=hid hr;have HS0:=hid (Nat.le_refl W.heap.size)
 clear hp hr
 unfold pB
 go_enter Tryz.func124,Tryz.ntmps124
 go_wp2_with fail
 ((with_reducible refine (word_calls' _ _).mono ?_);rintro e w1 ⟨rfl,hb⟩)
 have HK1:=hid (Kp.sb HK0.out hb)
 have HS1:=hid (show W.heap.size ≤ w1.heap.size from Nat.le_trans HS0.out (hb).size)
 have HP1:=hid (HP0.out.next hb)
 have HR1:=HR0
 clear HK0 HS0
 clear hb HP0 HR0
 obtain ⟨o2,h2,hr2⟩:=bind_run HR1.out
 have hcall:=Tl.at (must_word hE hs) HP1.out h2
 have HC:=hid hcall;have HR2:=hid hr2
 clear hcall h2 hr2 HR1 HP1
 unfold pB at HC
 try unfold methV at HC
 go_wp2_with fail
 ((with_reducible refine HC.out.mono ?_);rintro e w2 ⟨hk,hm⟩)
 clear HC
 rcases o2 with ⟨r2,x2⟩ | ⟨r2⟩
 rotate_left
 ·obtain ⟨j,hj,hd,rfl⟩:=hm
  obtain rfl : o = .bad r2:=(Option.some.inj HR2.out).symm
  exact ⟨rfl,Kp.tr HK1.out hk,j,hj,hd,rfl⟩
 obtain ⟨v2,j2,rfl,hp,rfl,hR⟩:=hm
 have HK2:=hid (Kp.tr HK1.out hk)
 have HS2:=hid (show W.heap.size ≤ w2.heap.size from Nat.le_trans HS1.out (hk).size)
 have HP2:=hid hp
 obtain rfl:=hR
 clear hk hp
 have hl:=HR2.out
 clear HR2
 dsimp only at hl
 have HR2:=hid hl
 clear hl
 clear HK1 HS1
 obtain ⟨o3,h3,hr3⟩:=bind_run HR2.out
 have hcall:=Tl.at hpo HP2.out h3
 have HC:=hid hcall;have HR3:=hid hr3
 clear hcall h3 hr3 HR2 HP2
 unfold pB at HC
 try unfold methV at HC
 go_wp2_with fail
 ((with_reducible refine HC.out.mono ?_);rintro e w3 ⟨hk,hm⟩)
 clear HC
 rcases o3 with ⟨r3,x3⟩ | ⟨r3⟩
 rotate_left
 ·obtain ⟨j,hj,hd,rfl⟩:=hm
  obtain rfl : o = .bad r3:=(Option.some.inj HR3.out).symm
  exact ⟨rfl,Kp.tr HK2.out hk,j,hj,hd,rfl⟩
 obtain ⟨v3,j3,rfl,hp,rfl,hR⟩:=hm
 have HK3:=hid (Kp.tr HK2.out hk)
 have HS3:=hid (show W.heap.size ≤ w3.heap.size from Nat.le_trans HS2.out (hk).size)
 have HP3:=hid hp
 obtain ⟨ax,cx,rfl,hx⟩:=kids_new (n:=W.heap.size) hR HS2.out
 have HXx3:=hid hx
 clear hk hp hR hx
 have hl:=HR3.out
 clear HR3
 dsimp only at hl
 have HR3:=hid hl
 clear hl
 clear HK2 HS2
 have HNEx:=hid (Nat.le_refl 0)
 go_upto_region 3 with fail
 obtain ⟨w4,hw⟩ : ∃ w',w3.alloc (.cells (nV x3 ax cx) 32) = w':=⟨_,rfl⟩
 rw [hw]
 have hb : Below w3.heap.size w3 w4:=by rw [← hw];exact (Below.refl _ _).alloc (Nat.le_refl _) _
 have HBx4:=hid (show Blk w4 w3.heap.size 32 (nV x3 ax cx) by rw [← hw];exact Blk.new _ _ _)
 have HLx:=hid (show W.heap.size ≤ w3.heap.size by have:=HS3.out;omega)
 have HK4:=hid (Kp.sb HK3.out hb)
 have HS4:=hid (show W.heap.size ≤ w4.heap.size from Nat.le_trans HS3.out (hb).size)
 have HXx4:=hid (kids_below HXx3.out hb)
 have HP4:=hid (HP3.out.next hb)
 have HR4:=HR3
 clear HK3 HS3 HXx3
 clear hb hw HP3 HR3
 go_wp2_with fail
 ((with_reducible refine (word_calls' _ _).mono ?_);rintro e w5 ⟨rfl,hb⟩)
 have HK5:=hid (Kp.sb HK4.out hb)
 have HS5:=hid (show W.heap.size ≤ w5.heap.size from Nat.le_trans HS4.out (hb).size)
 have HBx5:=hid (HBx4.out.own hb)
 have HXx5:=hid (kids_below HXx4.out hb)
 have HP5:=hid (HP4.out.next hb)
 have HR5:=HR4
 clear HK4 HS4 HBx4 HXx4
 clear hb HP4 HR4
 obtain ⟨o6,h6,hr6⟩:=bind_run HR5.out
 have hcall:=Tl.at (must_word hE in_was) HP5.out h6
 have HC:=hid hcall;have HR6:=hid hr6
 clear hcall h6 hr6 HR5 HP5
 unfold pB at HC
 try unfold methV at HC
 go_wp2_with fail
 ((with_reducible refine HC.out.mono ?_);rintro e w6 ⟨hk,hm⟩)
 clear HC
 rcases o6 with ⟨r6,x6⟩ | ⟨r6⟩
 rotate_left
 ·obtain ⟨j,hj,hd,rfl⟩:=hm
  obtain rfl : o = .bad r6:=(Option.some.inj HR6.out).symm
  exact ⟨rfl,Kp.tr HK5.out hk,j,hj,hd,rfl⟩
 obtain ⟨v6,j6,rfl,hp,rfl,hR⟩:=hm
 have HK6:=hid (Kp.tr HK5.out hk)
 have HS6:=hid (show W.heap.size ≤ w6.heap.size from Nat.le_trans HS5.out (hk).size)
 have HBx6:=hid (Kp.blk' (n:=W.heap.size) HBx5.out hk HNP.out HLx.out)
 have HXx6:=hid (kids_kp HXx5.out hk (fun k hk=>HNP.out k (by omega)))
 have HP6:=hid hp
 obtain rfl:=hR
 clear hk hp
 have hl:=HR6.out
 clear HR6
 dsimp only at hl
 have HR6:=hid hl
 clear hl
 clear HK5 HS5 HBx5 HXx5
 obtain ⟨o7,h7,hr7⟩:=bind_run HR6.out
 have hcall:=Tl.at hk2 HP6.out h7
 have HC:=hid hcall;have HR7:=hid hr7
 clear hcall h7 hr7 HR6 HP6
 unfold pB at HC
 try unfold methV at HC
 go_wp2_with fail
 ((with_reducible refine HC.out.mono ?_);rintro e w7 ⟨hk,hm⟩)
 clear HC
 rcases o7 with ⟨r7,x7⟩ | ⟨r7⟩
 rotate_left
 ·obtain ⟨j,hj,hd,rfl⟩:=hm
  obtain rfl : o = .bad r7:=(Option.some.inj HR7.out).symm
  exact ⟨rfl,Kp.tr HK6.out hk,j,hj,hd,rfl⟩
 obtain ⟨v7,j7,rfl,hp,rfl,hR⟩:=hm
 have HK7:=hid (Kp.tr HK6.out hk)
 have HS7:=hid (show W.heap.size ≤ w7.heap.size from Nat.le_trans HS6.out (hk).size)
 have HBx7:=hid (Kp.blk' (n:=W.heap.size) HBx6.out hk HNP.out HLx.out)
 have HXx7:=hid (kids_kp HXx6.out hk (fun k hk=>HNP.out k (by omega)))
 have HP7:=hid hp
 obtain ⟨ap,cp,rfl,hx⟩:=kids_new (n:=W.heap.size) hR HS6.out
 have HXp7:=hid hx
 clear hk hp hR hx
 have hl:=HR7.out
 clear HR7
 dsimp only at hl
 have HR7:=hid hl
 clear hl
 clear HK6 HS6 HBx6 HXx6
 go_upto_region 5 with fail
 obtain ⟨w8,hw⟩ : ∃ w',w7.alloc (.cells (nV x7 ap cp) 32) = w':=⟨_,rfl⟩
 rw [hw]
 have hb : Below w7.heap.size w7 w8:=by rw [← hw];exact (Below.refl _ _).alloc (Nat.le_refl _) _
 have HBp8:=hid (show Blk w8 w7.heap.size 32 (nV x7 ap cp) by rw [← hw];exact Blk.new _ _ _)
 have HLp:=hid (show W.heap.size ≤ w7.heap.size by have:=HS7.out;omega)
 have HK8:=hid (Kp.sb HK7.out hb)
 have HS8:=hid (show W.heap.size ≤ w8.heap.size from Nat.le_trans HS7.out (hb).size)
 have HBx8:=hid (HBx7.out.own hb)
 have HXx8:=hid (kids_below HXx7.out hb)
 have HXp8:=hid (kids_below HXp7.out hb)
 have HP8:=hid (HP7.out.next hb)
 have HR8:=HR7
 clear HK7 HS7 HBx7 HXx7 HXp7
 clear hb hw HP7 HR7
 go_wp2_with fail
 ((with_reducible refine (op_calls' _ _).mono ?_);rintro e w9 ⟨rfl,hb⟩)
 have HK9:=hid (Kp.sb HK8.out hb)
 have HS9:=hid (show W.heap.size ≤ w9.heap.size from Nat.le_trans HS8.out (hb).size)
 have HBx9:=hid (HBx8.out.own hb)
 have HBp9:=hid (HBp8.out.own hb)
 have HXx9:=hid (kids_below HXx8.out hb)
 have HXp9:=hid (kids_below HXp8.out hb)
 have HP9:=hid (HP8.out.next hb)
 have HR9:=HR8
 clear HK8 HS8 HBx8 HBp8 HXx8 HXp8
 clear hb HP8 HR8
 obtain ⟨o10,h10,hr10⟩:=bind_run HR9.out
 have hcall:=Tl.at (must_op hE in_lpar) HP9.out h10
 have HC:=hid hcall;have HR10:=hid hr10
 clear hcall h10 hr10 HR9 HP9
 unfold pB at HC
 try unfold methV at HC
 go_wp2_with fail
 ((with_reducible refine HC.out.mono ?_);rintro e w10 ⟨hk,hm⟩)
 clear HC
 rcases o10 with ⟨r10,x10⟩ | ⟨r10⟩
 rotate_left
 ·obtain ⟨j,hj,hd,rfl⟩:=hm
  obtain rfl : o = .bad r10:=(Option.some.inj HR10.out).symm
  exact ⟨rfl,Kp.tr HK9.out hk,j,hj,hd,rfl⟩
 obtain ⟨v10,j10,rfl,hp,rfl,hR⟩:=hm
 have HK10:=hid (Kp.tr HK9.out hk)
 have HS10:=hid (show W.heap.size ≤ w10.heap.size from Nat.le_trans HS9.out (hk).size)
 have HBx10:=hid (Kp.blk' (n:=W.heap.size) HBx9.out hk HNP.out HLx.out)
 have HBp10:=hid (Kp.blk' (n:=W.heap.size) HBp9.out hk HNP.out HLp.out)
 have HXx10:=hid (kids_kp HXx9.out hk (fun k hk=>HNP.out k (by omega)))
 have HXp10:=hid (kids_kp HXp9.out hk (fun k hk=>HNP.out k (by omega)))
 have HP10:=hid hp
 obtain rfl:=hR
 clear hk hp
 have hl:=HR10.out
 clear HR10
 dsimp only at hl
 have HR10:=hid hl
 clear hl
 clear HK9 HS9 HBx9 HBp9 HXx9 HXp9
 obtain ⟨o11,h11,hr11⟩:=bind_run HR10.out
 have hcall:=Tl.at hq HP10.out h11
 have HC:=hid hcall;have HR11:=hid hr11
 clear hcall h11 hr11 HR10 HP10
 unfold pB at HC
 try unfold methV at HC
 go_wp2_with fail
 ((with_reducible refine HC.out.mono ?_);rintro e w11 ⟨hk,hm⟩)
 clear HC
 rcases o11 with ⟨r11,x11⟩ | ⟨r11⟩
 rotate_left
 ·obtain ⟨j,hj,hd,rfl⟩:=hm
  obtain rfl : o = .bad r11:=(Option.some.inj HR11.out).symm
  exact ⟨rfl,Kp.tr HK10.out hk,j,hj,hd,rfl⟩
 obtain ⟨v11,j11,rfl,hp,rfl,hR⟩:=hm
 have HK11:=hid (Kp.tr HK10.out hk)
 have HS11:=hid (show W.heap.size ≤ w11.heap.size from Nat.le_trans HS10.out (hk).size)
 have HBx11:=hid (Kp.blk' (n:=W.heap.size) HBx10.out hk HNP.out HLx.out)
 have HBp11:=hid (Kp.blk' (n:=W.heap.size) HBp10.out hk HNP.out HLp.out)
 have HXx11:=hid (kids_kp HXx10.out hk (fun k hk=>HNP.out k (by omega)))
 have HXp11:=hid (kids_kp HXp10.out hk (fun k hk=>HNP.out k (by omega)))
 have HP11:=hid hp
 obtain ⟨aa,ca,rfl,hx⟩:=kids_new (n:=W.heap.size) hR HS10.out
 have HXa11:=hid hx
 clear hk hp hR hx
 have hl:=HR11.out
 clear HR11
 dsimp only at hl
 have HR11:=hid hl
 clear hl
 clear HK10 HS10 HBx10 HBp10 HXx10 HXp10
 go_upto_region 7 with fail
 obtain ⟨w12,hw⟩ : ∃ w',w11.alloc (.cells (nV x11 aa ca) 32) = w':=⟨_,rfl⟩
 rw [hw]
 have hb : Below w11.heap.size w11 w12:=by rw [← hw];exact (Below.refl _ _).alloc (Nat.le_refl _) _
 have HBa12:=hid (show Blk w12 w11.heap.size 32 (nV x11 aa ca) by rw [← hw];exact Blk.new _ _ _)
 have HLa:=hid (show W.heap.size ≤ w11.heap.size by have:=HS11.out;omega)
 have HK12:=hid (Kp.sb HK11.out hb)
 have HS12:=hid (show W.heap.size ≤ w12.heap.size from Nat.le_trans HS11.out (hb).size)
 have HBx12:=hid (HBx11.out.own hb)
 have HBp12:=hid (HBp11.out.own hb)
 have HXx12:=hid (kids_below HXx11.out hb)
 have HXp12:=hid (kids_below HXp11.out hb)
 have HXa12:=hid (kids_below HXa11.out hb)
 have HP12:=hid (HP11.out.next hb)
 have HR12:=HR11
 clear HK11 HS11 HBx11 HBp11 HXx11 HXp11 HXa11
 clear hb hw HP11 HR11
 go_wp2_with fail
 ((with_reducible refine (op_calls' _ _).mono ?_);rintro e w13 ⟨rfl,hb⟩)
 have HK13:=hid (Kp.sb HK12.out hb)
 have HS13:=hid (show W.heap.size ≤ w13.heap.size from Nat.le_trans HS12.out (hb).size)
 have HBx13:=hid (HBx12.out.own hb)
 have HBp13:=hid (HBp12.out.own hb)
 have HBa13:=hid (HBa12.out.own hb)
 have HXx13:=hid (kids_below HXx12.out hb)
 have HXp13:=hid (kids_below HXp12.out hb)
 have HXa13:=hid (kids_below HXa12.out hb)
 have HP13:=hid (HP12.out.next hb)
 have HR13:=HR12
 clear HK12 HS12 HBx12 HBp12 HBa12 HXx12 HXp12 HXa12
 clear hb HP12 HR12
 obtain ⟨o14,h14,hr14⟩:=bind_run HR13.out
 have hcall:=Tl.at (must_op hE in_semi) HP13.out h14
 have HC:=hid hcall;have HR14:=hid hr14
 clear hcall h14 hr14 HR13 HP13
 unfold pB at HC
 try unfold methV at HC
 go_wp2_with fail
 ((with_reducible refine HC.out.mono ?_);rintro e w14 ⟨hk,hm⟩)
 clear HC
 rcases o14 with ⟨r14,x14⟩ | ⟨r14⟩
 rotate_left
 ·obtain ⟨j,hj,hd,rfl⟩:=hm
  obtain rfl : o = .bad r14:=(Option.some.inj HR14.out).symm
  exact ⟨rfl,Kp.tr HK13.out hk,j,hj,hd,rfl⟩
 obtain ⟨v14,j14,rfl,hp,rfl,hR⟩:=hm
 have HK14:=hid (Kp.tr HK13.out hk)
 have HS14:=hid (show W.heap.size ≤ w14.heap.size from Nat.le_trans HS13.out (hk).size)
 have HBx14:=hid (Kp.blk' (n:=W.heap.size) HBx13.out hk HNP.out HLx.out)
 have HBp14:=hid (Kp.blk' (n:=W.heap.size) HBp13.out hk HNP.out HLp.out)
 have HBa14:=hid (Kp.blk' (n:=W.heap.size) HBa13.out hk HNP.out HLa.out)
 have HXx14:=hid (kids_kp HXx13.out hk (fun k hk=>HNP.out k (by omega)))
 have HXp14:=hid (kids_kp HXp13.out hk (fun k hk=>HNP.out k (by omega)))
 have HXa14:=hid (kids_kp HXa13.out hk (fun k hk=>HNP.out k (by omega)))
 have HP14:=hid hp
 obtain rfl:=hR
 clear hk hp
 have hl:=HR14.out
 clear HR14
 dsimp only at hl
 have HR14:=hid hl
 clear hl
 clear HK13 HS13 HBx13 HBp13 HBa13 HXx13 HXp13 HXa13
 go_upto_region 8 with fail
 have hb:=(Below.refl w14.heap.size w14).drew
 have HK15:=hid (Kp.sb HK14.out hb)
 have HS15:=hid (show W.heap.size ≤ w14.drew.heap.size from Nat.le_trans HS14.out (hb).size)
 have HBx15:=hid (HBx14.out.own hb)
 have HBp15:=hid (HBp14.out.own hb)
 have HBa15:=hid (HBa14.out.own hb)
 have HXx15:=hid (kids_below HXx14.out hb)
 have HXp15:=hid (kids_below HXp14.out hb)
 have HXa15:=hid (kids_below HXa14.out hb)
 have HP15:=hid (HP14.out.next hb)
 have HR15:=HR14
 clear HK14 HS14 HBx14 HBp14 HBa14 HXx14 HXp14 HXa14
 clear hb HP14 HR14
 have hS0 : C3 w3.heap.size (.int .i64 x3.k) (.string x3.t) (.slice ax x3.kids.len cx) w14.drew ∧ C3 w7.heap.size (.int .i64 x7.k) (.string x7.t) (.slice ap x7.kids.len cp) w14.drew ∧ C3 w11.heap.size (.int .i64 x11.k) (.string x11.t) (.slice aa x11.kids.len ca) w14.drew:=⟨C3.of HBx15.out,C3.of HBp15.out,C3.of HBa15.out⟩
 obtain ⟨o16,h16,hr16⟩:=bind_run HR15.out
 have hcall:=Tl.at hq HP15.out h16
 have HC:=hid hcall;have HR16:=hid hr16
 clear hcall h16 hr16 HR15 HP15
 unfold pB at HC
 try unfold methV at HC
 go_region_held (fun u=>C3 w3.heap.size (.int .i64 x3.k) (.string x3.t) (.slice ax x3.kids.len cx) u ∧ C3 w7.heap.size (.int .i64 x7.k) (.string x7.t) (.slice ap x7.kids.len cp) u ∧ C3 w11.heap.size (.int .i64 x11.k) (.string x11.t) (.slice aa x11.kids.len ca) u)
  (first | assumption | (have hc:=(by assumption : C3 w3.heap.size (.int .i64 x3.k) (.string x3.t) (.slice ax x3.kids.len cx) _ ∧ C3 w7.heap.size (.int .i64 x7.k) (.string x7.t) (.slice ap x7.kids.len cp) _ ∧ C3 w11.heap.size (.int .i64 x11.k) (.string x11.t) (.slice aa x11.kids.len ca) _);obtain ⟨hh0,hh1,hh2⟩:=hc;exact ⟨C3.alloc hh0 _,C3.alloc hh1 _,C3.alloc hh2 _⟩) | (have hc:=(by assumption : C3 w3.heap.size (.int .i64 x3.k) (.string x3.t) (.slice ax x3.kids.len cx) _ ∧ C3 w7.heap.size (.int .i64 x7.k) (.string x7.t) (.slice ap x7.kids.len cp) _ ∧ C3 w11.heap.size (.int .i64 x11.k) (.string x11.t) (.slice aa x11.kids.len ca) _);obtain ⟨hh0,hh1,hh2⟩:=hc;exact ⟨C3.set hh0 hnex _ _ _,C3.set hh1 hnep _ _ _,C3.set hh2 hnea _ _ _⟩))
  (first
   | (go_at_call 123;(with_reducible refine HC.out.mono ?_);rintro e w16 ⟨hk,hm⟩;clear HC;rcases o16 with ⟨r16,x16⟩ | ⟨r16⟩;rotate_left;(obtain ⟨j,hj,hd,rfl⟩:=hm;obtain rfl : o = .bad r16:=(Option.some.inj HR16.out).symm;exact ⟨rfl,Kp.tr HK15.out hk,j,hj,hd,rfl⟩);obtain ⟨v16,j16,rfl,hp,rfl,hR⟩:=hm;have HK16:=hid (Kp.tr HK15.out hk);have HS16:=hid (show W.heap.size ≤ w16.heap.size from Nat.le_trans HS15.out (hk).size);have HBx16:=hid (Kp.blk' (n:=W.heap.size) HBx15.out hk HNP.out HLx.out);have HBp16:=hid (Kp.blk' (n:=W.heap.size) HBp15.out hk HNP.out HLp.out);have HBa16:=hid (Kp.blk' (n:=W.heap.size) HBa15.out hk HNP.out HLa.out);have HXx16:=hid (kids_kp HXx15.out hk (fun k hk=>HNP.out k (by omega)));have HXp16:=hid (kids_kp HXp15.out hk (fun k hk=>HNP.out k (by omega)));have HXa16:=hid (kids_kp HXa15.out hk (fun k hk=>HNP.out k (by omega)));have HP16:=hid hp;obtain ⟨ab,cb,rfl,hx⟩:=kids_new (n:=W.heap.size) hR HS15.out;have HXb16:=hid hx;clear hk hp hR hx;have hl:=HR16.out;clear HR16;dsimp only at hl;have HR16:=hid hl;clear hl;clear HK15 HS15 HBx15 HBp15 HBa15 HXx15 HXp15 HXa15;have hS16 : C3 w3.heap.size (.int .i64 x3.k) (.string x3.t) (.slice ax x3.kids.len cx) w16 ∧ C3 w7.heap.size (.int .i64 x7.k) (.string x7.t) (.slice ap x7.kids.len cp) w16 ∧ C3 w11.heap.size (.int .i64 x11.k) (.string x11.t) (.slice aa x11.kids.len ca) w16:=⟨C3.of HBx16.out,C3.of HBp16.out,C3.of HBa16.out⟩))
 obtain rfl : o = .ok (E.l.drop j16) [x3,x7,x11,x16]:=(Option.some.inj HR16.out).symm
 have hown:=kids_since4 (cells_four HXx16.out HXp16.out HXa16.out HXb16.out) rfl 4 rfl (by unfold maxLen;decide) HS16.out
 have HOWN:=hid hown;clear hown
 go_wp2_with fail
 go_ret
 exact ⟨Kp.sb HK16.out ((Below.refl _ _).alloc (Nat.le_refl _) _),_,j16,rfl,HP16.out.next ((Below.refl _ _).alloc (Nat.le_refl _) _),rfl,HOWN.out⟩
end Go.Proofs.YtlklhkkjcfmefaaGreatDoor.pa
