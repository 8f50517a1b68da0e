/- Ground of the law: PaP12, LxLaw. -/
import Derived.Test.YtlklhkkjcfmefaaGreatDoorQe24
import Derived.Test.YtlklhkkjcfmefaaGreatDoorQe01
import Derived.Test.YtlklhkkjcfmefaaGreatDoorQe09
import Derived.Test.YtlklhkkjcfmefaaGreatDoorQe25
import Derived.ProofKit
import Derived.LaidMore
import Derived.Lay
import Derived.Stop.Joined
set_option maxRecDepth 100000
set_option maxHeartbeats 8000000
set_option linter.unusedVariables false
set_option linter.unusedSimpArgs false
namespace Go.Proofs.YtlklhkkjcfmefaaGreatDoor.pa
open Go.Lib (hid)
open Go.RowKit nd pr sx ed
def paramP : Pa Nd:=.look fun t=>if (t.1 == 5) = true then .move (.ret (mk 30 t.2 [])) else nameP.bind fun s=>.ret (mk 30 s [])
def defP (q : Pa Nd) (n : Nat) (qr : Pa Nd) : Pa Nd:=need wdef (nameP.bind fun s=>(Pa.look fun t=>if op lpar t = true then need lpar ((listP paramP (op semi) n).bind fun l=>need rpar (.ret l)) else .ret ([] : List Nd)).bind fun l=>need colon (q.bind fun b=>need semi (qr.bind fun y=>.ret (mk 29 s ((l ++ [b]) ++ [y])))))
theorem def_of {E : Env} (hE : EnvOk E) {q : Pa Nd} (hq : Tl E q RN 123 #[pB E]) (n : Nat) (hn : n ≤ 100000000) {qr : Pa Nd} (v : Value) : ∀ W i o,FT E qr v W → Ps E W i → (defP q n qr).run (E.l.drop i) = some o → Calls Tryz.prog 133 #[pB E,v] W (Post E RN W o):=by
 intro W i o hv hp hr
 obtain ⟨g,fa,lb,rfl,hen,hcv⟩:=hv
 have HCV:=hid hcv;have HEN:=hid hen;clear hcv hen
 unfold defP at hr
 simp only [need_bind wdef,need_bind colon,need_bind semi (Pa.bind _ _)] at hr
 have HLIST:=hid (enclosed_tl hE en_param (param_tl hE) in_lpar in_semi in_rpar n hn);have HNN:=hid hn
 have hmf : ∀ (fn : Go.Fn) (first cap : Array Value) (w : World),(Instr.makeFunc fn first cap).run Tryz.prog w = .ok (.func fn first cap) w:=fun _ _ _ _=>rfl
 have HNP:=hid hp.far;have H00:=hid hp
 obtain ⟨W0,hW0⟩ : ∃ W0,W.alloc (.cells nodeZ 32) = W0:=⟨_,rfl⟩
 have hb0 : Below W.heap.size W W0:=by rw [← hW0];exact (Below.refl _ W).alloc (Nat.le_refl _) _
 have hk0 : Blk W0 W.heap.size 32 nodeZ:=by rw [← hW0];exact Blk.new W _ _
 have hs0 : W.heap.size + 1 ≤ W0.heap.size:=by rw [← hW0];simp
 have HW0:=hid hW0;have HK0:=hid (Kp.of_below (E:=E) hb0);have HP0:=hid (hp.next hb0);have HS0:=hid hs0;have HR0:=hid hr
 have HBr0:=hid hk0
 clear hW0 hb0 hk0 hs0 hp hr
 unfold pB
 go_enter Tryz.func133,Tryz.ntmps133
 go_upto_region 1 with fail
 rw [HW0.out]
 go_wp2_with fail
 ((with_reducible refine (word_calls' _ _).mono ?_);rintro e w1 ⟨rfl,hb⟩)
 have HK1:=hid (Kp.sb HK0.out hb)
 have HS1:=hid (show (W.heap.size + 1) ≤ w1.heap.size from Nat.le_trans HS0.out (hb).size)
 have HBr1:=hid (HBr0.out.own hb)
 have HP1:=hid (HP0.out.next hb)
 have HR1:=HR0
 clear HK0 HS0 HBr0
 clear hb HP0 HR0
 obtain ⟨o2,h2,hr2⟩:=bind_run HR1.out
 have hcall:=Tl.at (must_word hE in_wdef) HP1.out h2
 have HC:=hid hcall;have HR2:=hid hr2
 clear hcall h2 hr2 HR1 HP1
 unfold pB at HC
 try unfold methV at HC
 go_wp2_with fail
 ((with_reducible refine HC.out.mono ?_);rintro e w2 ⟨hk,hm⟩)
 clear HC
 rcases o2 with ⟨r2,x2⟩ | ⟨r2⟩
 rotate_left
 ·obtain ⟨j,hj,hd,rfl⟩:=hm
  obtain rfl : o = .bad r2:=(Option.some.inj HR2.out).symm
  exact ⟨rfl,Kp.tr HK1.out hk,j,hj,hd,rfl⟩
 obtain ⟨v2,j2,rfl,hp,rfl,hR⟩:=hm
 have HK2:=hid (Kp.tr HK1.out hk)
 have HS2:=hid (show (W.heap.size + 1) ≤ w2.heap.size from Nat.le_trans HS1.out (hk).size)
 have HBr2:=hid (Kp.blk' (n:=W.heap.size) HBr1.out hk HNP.out (Nat.le_refl _))
 have HP2:=hid hp
 obtain rfl:=hR
 clear hk hp
 have hl:=HR2.out
 clear HR2
 dsimp only at hl
 have HR2:=hid hl
 clear hl
 clear HK1 HS1 HBr1
 obtain ⟨o3,h3,hr3⟩:=bind_run HR2.out
 have hcall:=Tl.at (name_tl hE) HP2.out h3
 have HC:=hid hcall;have HR3:=hid hr3
 clear hcall h3 hr3 HR2 HP2
 unfold pB at HC
 try unfold methV at HC
 go_wp2_with fail
 ((with_reducible refine HC.out.mono ?_);rintro e w3 ⟨hk,hm⟩)
 clear HC
 rcases o3 with ⟨r3,x3⟩ | ⟨r3⟩
 rotate_left
 ·obtain ⟨j,hj,hd,rfl⟩:=hm
  obtain rfl : o = .bad r3:=(Option.some.inj HR3.out).symm
  exact ⟨rfl,Kp.tr HK2.out hk,j,hj,hd,rfl⟩
 obtain ⟨v3,j3,rfl,hp,rfl,hR⟩:=hm
 have HK3:=hid (Kp.tr HK2.out hk)
 have HS3:=hid (show (W.heap.size + 1) ≤ w3.heap.size from Nat.le_trans HS2.out (hk).size)
 have HBr3:=hid (Kp.blk' (n:=W.heap.size) HBr2.out hk HNP.out (Nat.le_refl _))
 have HP3:=hid hp
 obtain rfl:=hR
 clear hk hp
 have hl:=HR3.out
 clear HR3
 dsimp only at hl
 have HR3:=hid hl
 clear hl
 clear HK2 HS2 HBr2
 have hl:=HR3.out
 clear HR3
 rw [look_bind,run_look] at hl
 obtain ⟨t,ht⟩ : ∃ t,tk E j3 = t:=⟨_,rfl⟩
 have HNX:=hid (fun W' (hb : Below w3.heap.size w3 W')=>next_calls hE (HP3.out.next hb))
 have hnx:=HNX.out
 clear HNX
 rw [ht] at hnx
 have HNX:=hid hnx
 rw [show tok (E.l.drop j3) = t from ht] at hl
 obtain ⟨c,hc⟩ : ∃ c,op lpar t = c:=⟨_,rfl⟩
 rw [hc] at hl
 have HR3:=hid hl;have HTt:=hid ht;have HCt:=hid hc
 clear hl hnx ht
 have hv:=same_op hc
 clear hc
 have hq1:=run_sameV;have hq2:=run_otherV;have hq3:=guard_eqV;have hq4:=guard_neV
 unfold pB at HNX
 go_wp2_with fail
 ((with_reducible refine (HNX.out _ (Below.refl _ _)).mono ?_);rintro e w4 ⟨rfl,hb⟩)
 have HK4:=hid (Kp.sb HK3.out hb)
 have HS4:=hid (show (W.heap.size + 1) ≤ w4.heap.size from Nat.le_trans HS3.out (hb).size)
 have HBr4:=hid (HBr3.out.own hb)
 have HP4:=hid (HP3.out.next hb)
 have HR4:=HR3
 clear HK3 HS3 HBr3
 clear hb HNX HP3 HR3
 go_wp2_with fail
 ((with_reducible refine (op_calls' _ _).mono ?_);rintro e w5 ⟨rfl,hb⟩)
 have HK5:=hid (Kp.sb HK4.out hb)
 have HS5:=hid (show (W.heap.size + 1) ≤ w5.heap.size from Nat.le_trans HS4.out (hb).size)
 have HBr5:=hid (HBr4.out.own hb)
 have HP5:=hid (HP4.out.next hb)
 have HR5:=HR4
 clear HK4 HS4 HBr4
 clear hb HP4 HR4
 cases c with
 | true =>
  have hl:=HR5.out
  clear HR5
  rw [if_yes] at hl
  have HR5:=hid hl
  clear hl
  obtain ⟨o6,h6,hr6⟩:=bind_run HR5.out
  have hcall:=Tl.at HLIST.out HP5.out h6
  have HNOTE:=hid h6
  have HC:=hid hcall;have HR6:=hid hr6
  clear hcall h6 hr6 HR5 HP5
  unfold pB at HC
  try unfold methV at HC
  go_wp2_with fail
  ((with_reducible refine HC.out.mono ?_);rintro e w6 ⟨hk,hm⟩)
  clear HC
  rcases o6 with ⟨r6,x6⟩ | ⟨r6⟩
  rotate_left
  ·obtain ⟨j,hj,hd,rfl⟩:=hm
   obtain rfl : o = .bad r6:=(Option.some.inj HR6.out).symm
   exact ⟨rfl,Kp.tr HK5.out hk,j,hj,hd,rfl⟩
  obtain ⟨v6,j6,rfl,hp,rfl,hR⟩:=hm
  have HK6:=hid (Kp.tr HK5.out hk)
  have HS6:=hid (show (W.heap.size + 1) ≤ w6.heap.size from Nat.le_trans HS5.out (hk).size)
  have HBr6:=hid (Kp.blk' (n:=W.heap.size) HBr5.out hk HNP.out (Nat.le_refl _))
  have HP6:=hid hp
  obtain ⟨al,cl,rfl⟩:=OwnL.slice hR
  have HOl6:=hid (OwnL.mono hR HS5.out)
  clear hk hp hR
  have hl:=HR6.out
  clear HR6
  dsimp only at hl
  have HR6:=hid hl
  clear hl
  clear HK5 HS5 HBr5
  have hll:=encl_len HNOTE.out
  have HLL:=hid hll;clear hll HNOTE
  go_wp2_with fail
  ((with_reducible refine (op_calls' _ _).mono ?_);rintro e w7 ⟨rfl,hb⟩)
  have HK7:=hid (Kp.sb HK6.out hb)
  have HS7:=hid (show (W.heap.size + 1) ≤ w7.heap.size from Nat.le_trans HS6.out (hb).size)
  have HBr7:=hid (HBr6.out.own hb)
  have HOl7:=hid (OwnL.below HOl6.out hb)
  have HP7:=hid (HP6.out.next hb)
  have HR7:=HR6
  clear HK6 HS6 HBr6 HOl6
  clear hb HP6 HR6
  obtain ⟨o8,h8,hr8⟩:=bind_run HR7.out
  have hcall:=Tl.at (must_op hE in_colon) HP7.out h8
  have HC:=hid hcall;have HR8:=hid hr8
  clear hcall h8 hr8 HR7 HP7
  unfold pB at HC
  try unfold methV at HC
  go_wp2_with fail
  ((with_reducible refine HC.out.mono ?_);rintro e w8 ⟨hk,hm⟩)
  clear HC
  rcases o8 with ⟨r8,x8⟩ | ⟨r8⟩
  rotate_left
  ·obtain ⟨j,hj,hd,rfl⟩:=hm
   obtain rfl : o = .bad r8:=(Option.some.inj HR8.out).symm
   exact ⟨rfl,Kp.tr HK7.out hk,j,hj,hd,rfl⟩
  obtain ⟨v8,j8,rfl,hp,rfl,hR⟩:=hm
  have HK8:=hid (Kp.tr HK7.out hk)
  have HS8:=hid (show (W.heap.size + 1) ≤ w8.heap.size from Nat.le_trans HS7.out (hk).size)
  have HBr8:=hid (Kp.blk' (n:=W.heap.size) HBr7.out hk HNP.out (Nat.le_refl _))
  have HOl8:=hid (OwnL.kp HOl7.out hk (fun k hk=>HNP.out k (by omega)))
  have HP8:=hid hp
  obtain rfl:=hR
  clear hk hp
  have hl:=HR8.out
  clear HR8
  dsimp only at hl
  have HR8:=hid hl
  clear hl
  clear HK7 HS7 HBr7 HOl7
  obtain ⟨o9,h9,hr9⟩:=bind_run HR8.out
  have hcall:=Tl.at hq HP8.out h9
  have HC:=hid hcall;have HR9:=hid hr9
  clear hcall h9 hr9 HR8 HP8
  unfold pB at HC
  try unfold methV at HC
  go_wp2_with fail
  ((with_reducible refine HC.out.mono ?_);rintro e w9 ⟨hk,hm⟩)
  clear HC
  rcases o9 with ⟨r9,x9⟩ | ⟨r9⟩
  rotate_left
  ·obtain ⟨j,hj,hd,rfl⟩:=hm
   obtain rfl : o = .bad r9:=(Option.some.inj HR9.out).symm
   exact ⟨rfl,Kp.tr HK8.out hk,j,hj,hd,rfl⟩
  obtain ⟨v9,j9,rfl,hp,rfl,hR⟩:=hm
  have HK9:=hid (Kp.tr HK8.out hk)
  have HS9:=hid (show (W.heap.size + 1) ≤ w9.heap.size from Nat.le_trans HS8.out (hk).size)
  have HBr9:=hid (Kp.blk' (n:=W.heap.size) HBr8.out hk HNP.out (Nat.le_refl _))
  have HOl9:=hid (OwnL.kp HOl8.out hk (fun k hk=>HNP.out k (by omega)))
  have HP9:=hid hp
  obtain ⟨sb,rfl,hks⟩:=hR
  obtain ⟨ab,cb,rfl,_⟩:=hks.slice
  have hks2:=hks.keep (S':=Aw (W.heap.size + 1) w9 (.slice al x6.length cl)) (fun k e=>(kids_aux e (HOl8.out) HS8.out)) (fun _ _=>rfl)
  have HAb:=hid hks2
  clear hk hp hks hks2
  have hl:=HR9.out
  clear HR9
  dsimp only at hl
  have HR9:=hid hl
  clear hl
  clear HK8 HS8 HBr8 HOl8
  have hrow:=Blk.new w9 32 (nV x9 ab cb)
  have hba : Below w9.heap.size w9 (w9.alloc (.cells (nV x9 ab cb) 32)):=(Below.refl _ _).alloc (Nat.le_refl _) _
  have HOWN:=hid (HOl9.out.below hba);have HCE:=hid (cells_one (aw_below HAb.out hba));have HROW:=hid hrow
  have HPA:=hid (HP9.out.next hba);have HKA:=hid (Kp.sb HK9.out hba);have HSA:=hid (Nat.le_trans HS9.out hba.size)
  have HBAr:=hid (HBr9.out.own hba)
  clear hrow hba
  go_wp2_with (at_builtin;refine wpList_append_nodes rfl _ _ rfl (W.heap.size + 1) j9 i x6 [x9] _ rfl HOWN.out (by have:=HLL.out;have:=HNN.out;omega) (by simp) w9.heap.size [.int .i64 x9.k,.string x9.t,.slice ab x9.kids.len cb] rfl HROW.out HCE.out HSA.out HPA.out HKA.out (by omega) HNP.out H00.out ?_;intro v' w10 hgrew;obtain ⟨al10,cl10,hv5⟩:=hgrew.own.slice;rw [show (x6 ++ [x9]).length = x6.length + 1 by simp] at hv5;subst hv5;have HG:=hid hgrew;clear hgrew)
  have HK10:=hid HG.out.kp;have HP10:=hid HG.out.ps;have HS10:=hid (Nat.le_trans HSA.out HG.out.size);have HOl10:=hid HG.out.own
  have HBr10:=hid (HG.out.blk _ _ _ HBAr.out (by omega))
  have HR10:=HR9
  clear HK9 HS9 HBr9 HOl9
  clear HOWN HCE HROW HPA HKA HSA HG HR9 HP9 HAb HBAr
  go_wp2_with fail
  ((with_reducible refine (op_calls' _ _).mono ?_);rintro e w11 ⟨rfl,hb⟩)
  have HK11:=hid (Kp.sb HK10.out hb)
  have HS11:=hid (show (W.heap.size + 1) ≤ w11.heap.size from Nat.le_trans HS10.out (hb).size)
  have HBr11:=hid (HBr10.out.own hb)
  have HOl11:=hid (OwnL.below HOl10.out hb)
  have HP11:=hid (HP10.out.next hb)
  have HR11:=HR10
  clear HK10 HS10 HBr10 HOl10
  clear hb HP10 HR10
  obtain ⟨o12,h12,hr12⟩:=bind_run HR11.out
  have hcall:=Tl.at (must_op hE in_semi) HP11.out h12
  have HC:=hid hcall;have HR12:=hid hr12
  clear hcall h12 hr12 HR11 HP11
  unfold pB at HC
  try unfold methV at HC
  go_wp2_with fail
  ((with_reducible refine HC.out.mono ?_);rintro e w12 ⟨hk,hm⟩)
  clear HC
  rcases o12 with ⟨r12,x12⟩ | ⟨r12⟩
  rotate_left
  ·obtain ⟨j,hj,hd,rfl⟩:=hm
   obtain rfl : o = .bad r12:=(Option.some.inj HR12.out).symm
   exact ⟨rfl,Kp.tr HK11.out hk,j,hj,hd,rfl⟩
  obtain ⟨v12,j12,rfl,hp,rfl,hR⟩:=hm
  have HK12:=hid (Kp.tr HK11.out hk)
  have HS12:=hid (show (W.heap.size + 1) ≤ w12.heap.size from Nat.le_trans HS11.out (hk).size)
  have HBr12:=hid (Kp.blk' (n:=W.heap.size) HBr11.out hk HNP.out (Nat.le_refl _))
  have HOl12:=hid (OwnL.kp HOl11.out hk (fun k hk=>HNP.out k (by omega)))
  have HP12:=hid hp
  obtain rfl:=hR
  clear hk hp
  have hl:=HR12.out
  clear HR12
  dsimp only at hl
  have HR12:=hid hl
  clear hl
  clear HK11 HS11 HBr11 HOl11
  have hen:=HEN.out
  obtain ⟨o13,h13,hr13⟩:=bind_run HR12.out
  have hcall:=HCV.out w12 HK12.out j12 o13 HP12.out h13
  have HC:=hid hcall;have HR13:=hid hr13
  clear hcall h13 hr13 HR12 HP12
  unfold pB at HC
  try unfold methV at HC
  go_wp2_with fail
  ((with_reducible refine HC.out.mono ?_);rintro e w13 ⟨hk,hm⟩)
  clear HC
  rcases o13 with ⟨r13,x13⟩ | ⟨r13⟩
  rotate_left
  ·obtain ⟨j,hj,hd,rfl⟩:=hm
   obtain rfl : o = .bad r13:=(Option.some.inj HR13.out).symm
   exact ⟨rfl,Kp.tr HK12.out hk,j,hj,hd,rfl⟩
  obtain ⟨v13,j13,rfl,hp,rfl,hR⟩:=hm
  have HK13:=hid (Kp.tr HK12.out hk)
  have HS13:=hid (show (W.heap.size + 1) ≤ w13.heap.size from Nat.le_trans HS12.out (hk).size)
  have HBr13:=hid (Kp.blk' (n:=W.heap.size) HBr12.out hk HNP.out (Nat.le_refl _))
  have HOl13:=hid (OwnL.kp HOl12.out hk (fun k hk=>HNP.out k (by omega)))
  have HP13:=hid hp
  obtain ⟨sy,rfl,hks⟩:=hR
  obtain ⟨ay,cy,rfl,_⟩:=hks.slice
  have hks2:=hks.keep (S':=Aw (W.heap.size + 1) w13 (.slice al10 (x6.length + 1) cl10)) (fun k e=>(kids_aux e (HOl12.out) HS12.out)) (fun _ _=>rfl)
  have HAy:=hid hks2
  clear hk hp hks hks2
  have hl:=HR13.out
  clear HR13
  dsimp only at hl
  have HR13:=hid hl
  clear hl
  clear HK12 HS12 HBr12 HOl12
  have hrow:=Blk.new w13 32 (nV x13 ay cy)
  have hba : Below w13.heap.size w13 (w13.alloc (.cells (nV x13 ay cy) 32)):=(Below.refl _ _).alloc (Nat.le_refl _) _
  have HOWN:=hid (HOl13.out.below hba);have HCE:=hid (cells_one (aw_below HAy.out hba));have HROW:=hid hrow
  have HPA:=hid (HP13.out.next hba);have HKA:=hid (Kp.sb HK13.out hba);have HSA:=hid (Nat.le_trans HS13.out hba.size)
  have HBAr:=hid (HBr13.out.own hba)
  clear hrow hba
  go_wp2_with (at_builtin;refine wpList_append_nodes rfl _ _ rfl (W.heap.size + 1) j13 i (x6 ++ [x9]) [x13] _ rfl HOWN.out (by have:=HLL.out;have:=HNN.out;simp;omega) (by simp) w13.heap.size [.int .i64 x13.k,.string x13.t,.slice ay x13.kids.len cy] rfl HROW.out HCE.out HSA.out HPA.out HKA.out (by omega) HNP.out H00.out ?_;intro v' w14 hgrew;obtain ⟨al14,cl14,hv5⟩:=hgrew.own.slice;rw [show ((x6 ++ [x9]) ++ [x13]).length = (x6.length + 1) + 1 by simp] at hv5;subst hv5;have HG:=hid hgrew;clear hgrew)
  have HK14:=hid HG.out.kp;have HP14:=hid HG.out.ps;have HS14:=hid (Nat.le_trans HSA.out HG.out.size);have HOl14:=hid HG.out.own
  have HBr14:=hid (HG.out.blk _ _ _ HBAr.out (by omega))
  have HR14:=HR13
  clear HK13 HS13 HBr13 HOl13
  clear HOWN HCE HROW HPA HKA HSA HG HR13 HP13 HAy HBAr
  go_wp2_with fail
  ((with_reducible refine (node_calls _ _ _ _ _ _).mono ?_);rintro e w15 ⟨rfl,hb⟩)
  have HK15:=hid (Kp.sb HK14.out hb)
  have HS15:=hid (show (W.heap.size + 1) ≤ w15.heap.size from Nat.le_trans HS14.out (hb).size)
  have HBr15:=hid (HBr14.out.own hb)
  have HOl15:=hid (OwnL.below HOl14.out hb)
  have HP15:=hid (HP14.out.next hb)
  have hx:=HOl15.out.kids
  have hx2 : KidsAt (Fr (W.heap.size + 1) w15) w15 (mk 29 x3 ((x6 ++ [x9]) ++ [x13])).kids (.slice al14 (mk 29 x3 ((x6 ++ [x9]) ++ [x13])).kids.len cl14):=by rw [show (mk 29 x3 ((x6 ++ [x9]) ++ [x13])).kids.len = ((x6.length + 1) + 1) from (Fo.ofL_len _).trans (by simp)];exact hx
  have hfin:=fin_node hE (x:=(mk 29 x3 ((x6 ++ [x9]) ++ [x13]))) H00.out HP15.out HK15.out (Nat.le_refl _) HBr15.out hx2
  obtain rfl : o = .ok (E.l.drop j13) (mk 29 x3 ((x6 ++ [x9]) ++ [x13])):=(Option.some.inj HR14.out).symm
  have rc0:=HBr15.out.cell 0;have rf0:=HBr15.out.frozen 0
  have rc1:=HBr15.out.cell 1;have rf1:=HBr15.out.frozen 1
  have rc2:=HBr15.out.cell 2;have rf2:=HBr15.out.frozen 2
  have hln : (mk 29 x3 ((x6 ++ [x9]) ++ [x13])).kids.len = ((x6.length + 1) + 1):=(Fo.ofL_len _).trans (by simp)
  have g0:=hfin.1.cell 0;have g1:=hfin.1.cell 1;have g2 : _ = some (Value.slice al14 (mk 29 x3 ((x6 ++ [x9]) ++ [x13])).kids.len cl14):=hfin.1.cell 2
  have hF2:=hfin.2
  dsimp only [nV] at hF2
  rw [hln] at hF2 g0 g1 g2
  simp only [mk] at g0 g1 g2
  have HF:=hid hF2
  clear hfin hx hx2 hln hF2
  go_wp2_with fail
  refine bodyPost_ret (v:=.agg #[.int .i64 29,.string x3,.slice al14 ((x6.length + 1) + 1) cl14]) (by simp [results,Tryz.results133,go_sem,g0,g1,g2]) rfl ?_
  exact HF.out
 | false =>
  have hl:=HR5.out
  clear HR5
  rw [if_no] at hl
  have HR5:=hid hl
  clear hl
  have hl:=HR5.out
  clear HR5
  rw [ret_bind] at hl
  have HR5:=hid hl
  clear hl
  have HOl5:=hid (OwnL.nil (W.heap.size + 1) w5)
  go_wp2_with fail
  ((with_reducible refine (op_calls' _ _).mono ?_);rintro e w6 ⟨rfl,hb⟩)
  have HK6:=hid (Kp.sb HK5.out hb)
  have HS6:=hid (show (W.heap.size + 1) ≤ w6.heap.size from Nat.le_trans HS5.out (hb).size)
  have HBr6:=hid (HBr5.out.own hb)
  have HOl6:=hid (OwnL.below HOl5.out hb)
  have HP6:=hid (HP5.out.next hb)
  have HR6:=HR5
  clear HK5 HS5 HBr5 HOl5
  clear hb HP5 HR5
  obtain ⟨o7,h7,hr7⟩:=bind_run HR6.out
  have hcall:=Tl.at (must_op hE in_colon) HP6.out h7
  have HC:=hid hcall;have HR7:=hid hr7
  clear hcall h7 hr7 HR6 HP6
  unfold pB at HC
  try unfold methV at HC
  go_wp2_with fail
  ((with_reducible refine HC.out.mono ?_);rintro e w7 ⟨hk,hm⟩)
  clear HC
  rcases o7 with ⟨r7,x7⟩ | ⟨r7⟩
  rotate_left
  ·obtain ⟨j,hj,hd,rfl⟩:=hm
   obtain rfl : o = .bad r7:=(Option.some.inj HR7.out).symm
   exact ⟨rfl,Kp.tr HK6.out hk,j,hj,hd,rfl⟩
  obtain ⟨v7,j7,rfl,hp,rfl,hR⟩:=hm
  have HK7:=hid (Kp.tr HK6.out hk)
  have HS7:=hid (show (W.heap.size + 1) ≤ w7.heap.size from Nat.le_trans HS6.out (hk).size)
  have HBr7:=hid (Kp.blk' (n:=W.heap.size) HBr6.out hk HNP.out (Nat.le_refl _))
  have HOl7:=hid (OwnL.kp HOl6.out hk (fun k hk=>HNP.out k (by omega)))
  have HP7:=hid hp
  obtain rfl:=hR
  clear hk hp
  have hl:=HR7.out
  clear HR7
  dsimp only at hl
  have HR7:=hid hl
  clear hl
  clear HK6 HS6 HBr6 HOl6
  obtain ⟨o8,h8,hr8⟩:=bind_run HR7.out
  have hcall:=Tl.at hq HP7.out h8
  have HC:=hid hcall;have HR8:=hid hr8
  clear hcall h8 hr8 HR7 HP7
  unfold pB at HC
  try unfold methV at HC
  go_wp2_with fail
  ((with_reducible refine HC.out.mono ?_);rintro e w8 ⟨hk,hm⟩)
  clear HC
  rcases o8 with ⟨r8,x8⟩ | ⟨r8⟩
  rotate_left
  ·obtain ⟨j,hj,hd,rfl⟩:=hm
   obtain rfl : o = .bad r8:=(Option.some.inj HR8.out).symm
   exact ⟨rfl,Kp.tr HK7.out hk,j,hj,hd,rfl⟩
  obtain ⟨v8,j8,rfl,hp,rfl,hR⟩:=hm
  have HK8:=hid (Kp.tr HK7.out hk)
  have HS8:=hid (show (W.heap.size + 1) ≤ w8.heap.size from Nat.le_trans HS7.out (hk).size)
  have HBr8:=hid (Kp.blk' (n:=W.heap.size) HBr7.out hk HNP.out (Nat.le_refl _))
  have HOl8:=hid (OwnL.kp HOl7.out hk (fun k hk=>HNP.out k (by omega)))
  have HP8:=hid hp
  obtain ⟨sb,rfl,hks⟩:=hR
  obtain ⟨ab,cb,rfl,_⟩:=hks.slice
  have hks2:=hks.keep (S':=Aw (W.heap.size + 1) w8 (.slice none 0 0)) (fun k e=>(kids_aux e (HOl7.out) HS7.out)) (fun _ _=>rfl)
  have HAb:=hid hks2
  clear hk hp hks hks2
  have hl:=HR8.out
  clear HR8
  dsimp only at hl
  have HR8:=hid hl
  clear hl
  clear HK7 HS7 HBr7 HOl7
  have hrow:=Blk.new w8 32 (nV x8 ab cb)
  have hba : Below w8.heap.size w8 (w8.alloc (.cells (nV x8 ab cb) 32)):=(Below.refl _ _).alloc (Nat.le_refl _) _
  have HOWN:=hid (HOl8.out.below hba);have HCE:=hid (cells_one (aw_below HAb.out hba));have HROW:=hid hrow
  have HPA:=hid (HP8.out.next hba);have HKA:=hid (Kp.sb HK8.out hba);have HSA:=hid (Nat.le_trans HS8.out hba.size)
  have HBAr:=hid (HBr8.out.own hba)
  clear hrow hba
  go_wp2_with (at_builtin;refine wpList_append_nodes rfl _ _ rfl (W.heap.size + 1) j8 i ([] : List Nd) [x8] _ rfl HOWN.out (by simp) (by simp) w8.heap.size [.int .i64 x8.k,.string x8.t,.slice ab x8.kids.len cb] rfl HROW.out HCE.out HSA.out HPA.out HKA.out (by omega) HNP.out H00.out ?_;intro v' w9 hgrew;obtain ⟨al9,cl9,hv5⟩:=hgrew.own.slice;rw [show (([] : List Nd) ++ [x8]).length = 0 + 1 by simp] at hv5;subst hv5;have HG:=hid hgrew;clear hgrew)
  have HK9:=hid HG.out.kp;have HP9:=hid HG.out.ps;have HS9:=hid (Nat.le_trans HSA.out HG.out.size);have HOl9:=hid HG.out.own
  have HBr9:=hid (HG.out.blk _ _ _ HBAr.out (by omega))
  have HR9:=HR8
  clear HK8 HS8 HBr8 HOl8
  clear HOWN HCE HROW HPA HKA HSA HG HR8 HP8 HAb HBAr
  go_wp2_with fail
  ((with_reducible refine (op_calls' _ _).mono ?_);rintro e w10 ⟨rfl,hb⟩)
  have HK10:=hid (Kp.sb HK9.out hb)
  have HS10:=hid (show (W.heap.size + 1) ≤ w10.heap.size from Nat.le_trans HS9.out (hb).size)
  have HBr10:=hid (HBr9.out.own hb)
  have HOl10:=hid (OwnL.below HOl9.out hb)
  have HP10:=hid (HP9.out.next hb)
  have HR10:=HR9
  clear HK9 HS9 HBr9 HOl9
  clear hb HP9 HR9
  obtain ⟨o11,h11,hr11⟩:=bind_run HR10.out
  have hcall:=Tl.at (must_op hE in_semi) HP10.out h11
  have HC:=hid hcall;have HR11:=hid hr11
  clear hcall h11 hr11 HR10 HP10
  unfold pB at HC
  try unfold methV at HC
  go_wp2_with fail
  ((with_reducible refine HC.out.mono ?_);rintro e w11 ⟨hk,hm⟩)
  clear HC
  rcases o11 with ⟨r11,x11⟩ | ⟨r11⟩
  rotate_left
  ·obtain ⟨j,hj,hd,rfl⟩:=hm
   obtain rfl : o = .bad r11:=(Option.some.inj HR11.out).symm
   exact ⟨rfl,Kp.tr HK10.out hk,j,hj,hd,rfl⟩
  obtain ⟨v11,j11,rfl,hp,rfl,hR⟩:=hm
  have HK11:=hid (Kp.tr HK10.out hk)
  have HS11:=hid (show (W.heap.size + 1) ≤ w11.heap.size from Nat.le_trans HS10.out (hk).size)
  have HBr11:=hid (Kp.blk' (n:=W.heap.size) HBr10.out hk HNP.out (Nat.le_refl _))
  have HOl11:=hid (OwnL.kp HOl10.out hk (fun k hk=>HNP.out k (by omega)))
  have HP11:=hid hp
  obtain rfl:=hR
  clear hk hp
  have hl:=HR11.out
  clear HR11
  dsimp only at hl
  have HR11:=hid hl
  clear hl
  clear HK10 HS10 HBr10 HOl10
  have hen:=HEN.out
  obtain ⟨o12,h12,hr12⟩:=bind_run HR11.out
  have hcall:=HCV.out w11 HK11.out j11 o12 HP11.out h12
  have HC:=hid hcall;have HR12:=hid hr12
  clear hcall h12 hr12 HR11 HP11
  unfold pB at HC
  try unfold methV at HC
  go_wp2_with fail
  ((with_reducible refine HC.out.mono ?_);rintro e w12 ⟨hk,hm⟩)
  clear HC
  rcases o12 with ⟨r12,x12⟩ | ⟨r12⟩
  rotate_left
  ·obtain ⟨j,hj,hd,rfl⟩:=hm
   obtain rfl : o = .bad r12:=(Option.some.inj HR12.out).symm
   exact ⟨rfl,Kp.tr HK11.out hk,j,hj,hd,rfl⟩
  obtain ⟨v12,j12,rfl,hp,rfl,hR⟩:=hm
  have HK12:=hid (Kp.tr HK11.out hk)
  have HS12:=hid (show (W.heap.size + 1) ≤ w12.heap.size from Nat.le_trans HS11.out (hk).size)
  have HBr12:=hid (Kp.blk' (n:=W.heap.size) HBr11.out hk HNP.out (Nat.le_refl _))
  have HOl12:=hid (OwnL.kp HOl11.out hk (fun k hk=>HNP.out k (by omega)))
  have HP12:=hid hp
  obtain ⟨sy,rfl,hks⟩:=hR
  obtain ⟨ay,cy,rfl,_⟩:=hks.slice
  have hks2:=hks.keep (S':=Aw (W.heap.size + 1) w12 (.slice al9 (0 + 1) cl9)) (fun k e=>(kids_aux e (HOl11.out) HS11.out)) (fun _ _=>rfl)
  have HAy:=hid hks2
  clear hk hp hks hks2
  have hl:=HR12.out
  clear HR12
  dsimp only at hl
  have HR12:=hid hl
  clear hl
  clear HK11 HS11 HBr11 HOl11
  have hrow:=Blk.new w12 32 (nV x12 ay cy)
  have hba : Below w12.heap.size w12 (w12.alloc (.cells (nV x12 ay cy) 32)):=(Below.refl _ _).alloc (Nat.le_refl _) _
  have HOWN:=hid (HOl12.out.below hba);have HCE:=hid (cells_one (aw_below HAy.out hba));have HROW:=hid hrow
  have HPA:=hid (HP12.out.next hba);have HKA:=hid (Kp.sb HK12.out hba);have HSA:=hid (Nat.le_trans HS12.out hba.size)
  have HBAr:=hid (HBr12.out.own hba)
  clear hrow hba
  go_wp2_with (at_builtin;refine wpList_append_nodes rfl _ _ rfl (W.heap.size + 1) j12 i (([] : List Nd) ++ [x8]) [x12] _ rfl HOWN.out (by simp) (by simp) w12.heap.size [.int .i64 x12.k,.string x12.t,.slice ay x12.kids.len cy] rfl HROW.out HCE.out HSA.out HPA.out HKA.out (by omega) HNP.out H00.out ?_;intro v' w13 hgrew;obtain ⟨al13,cl13,hv5⟩:=hgrew.own.slice;rw [show ((([] : List Nd) ++ [x8]) ++ [x12]).length = (0 + 1) + 1 by simp] at hv5;subst hv5;have HG:=hid hgrew;clear hgrew)
  have HK13:=hid HG.out.kp;have HP13:=hid HG.out.ps;have HS13:=hid (Nat.le_trans HSA.out HG.out.size);have HOl13:=hid HG.out.own
  have HBr13:=hid (HG.out.blk _ _ _ HBAr.out (by omega))
  have HR13:=HR12
  clear HK12 HS12 HBr12 HOl12
  clear HOWN HCE HROW HPA HKA HSA HG HR12 HP12 HAy HBAr
  go_wp2_with fail
  ((with_reducible refine (node_calls _ _ _ _ _ _).mono ?_);rintro e w14 ⟨rfl,hb⟩)
  have HK14:=hid (Kp.sb HK13.out hb)
  have HS14:=hid (show (W.heap.size + 1) ≤ w14.heap.size from Nat.le_trans HS13.out (hb).size)
  have HBr14:=hid (HBr13.out.own hb)
  have HOl14:=hid (OwnL.below HOl13.out hb)
  have HP14:=hid (HP13.out.next hb)
  have hx:=HOl14.out.kids
  have hx2 : KidsAt (Fr (W.heap.size + 1) w14) w14 (mk 29 x3 ((([] : List Nd) ++ [x8]) ++ [x12])).kids (.slice al13 (mk 29 x3 ((([] : List Nd) ++ [x8]) ++ [x12])).kids.len cl13):=by rw [show (mk 29 x3 ((([] : List Nd) ++ [x8]) ++ [x12])).kids.len = ((0 + 1) + 1) from (Fo.ofL_len _).trans (by simp)];exact hx
  have hfin:=fin_node hE (x:=(mk 29 x3 ((([] : List Nd) ++ [x8]) ++ [x12]))) H00.out HP14.out HK14.out (Nat.le_refl _) HBr14.out hx2
  obtain rfl : o = .ok (E.l.drop j12) (mk 29 x3 ((([] : List Nd) ++ [x8]) ++ [x12])):=(Option.some.inj HR13.out).symm
  have rc0:=HBr14.out.cell 0;have rf0:=HBr14.out.frozen 0
  have rc1:=HBr14.out.cell 1;have rf1:=HBr14.out.frozen 1
  have rc2:=HBr14.out.cell 2;have rf2:=HBr14.out.frozen 2
  have hln : (mk 29 x3 ((([] : List Nd) ++ [x8]) ++ [x12])).kids.len = ((0 + 1) + 1):=(Fo.ofL_len _).trans (by simp)
  have g0:=hfin.1.cell 0;have g1:=hfin.1.cell 1;have g2 : _ = some (Value.slice al13 (mk 29 x3 ((([] : List Nd) ++ [x8]) ++ [x12])).kids.len cl13):=hfin.1.cell 2
  have hF2:=hfin.2
  dsimp only [nV] at hF2
  rw [hln] at hF2 g0 g1 g2
  simp only [mk] at g0 g1 g2
  have HF:=hid hF2
  clear hfin hx hx2 hln hF2
  go_wp2_with fail
  refine bodyPost_ret (v:=.agg #[.int .i64 29,.string x3,.slice al13 ((0 + 1) + 1) cl13]) (by simp [results,Tryz.results133,go_sem,g0,g1,g2]) rfl ?_
  exact HF.out
theorem outer1_of {E : Env} (hE : EnvOk E) {qo : Pa Nd} (ho : Tl E qo RN 83 #[pB E]) (b : Nat) : ∀ W i o,Blk W b 81 #[pB E] → ¬ Pm E b → Ps E W i → (Pa.ended fun z=>if z = true then .ret none0 else qo).run (E.l.drop i) = some o → Calls Tryz.prog 134 #[.pointer (some ⟨b,0,none⟩)] W (Post E RN W o):=by
 intro W i o hbk hnb hp hr
 have HBK:=hid hbk;have HNB:=hid hnb;clear hbk hnb
 have HNP:=hid hp.far;have H00:=hid hp
 obtain ⟨W0,hW0⟩ : ∃ W0,W.alloc (.cells nodeZ 32) = W0:=⟨_,rfl⟩
 have hb0 : Below W.heap.size W W0:=by rw [← hW0];exact (Below.refl _ W).alloc (Nat.le_refl _) _
 have hk0 : Blk W0 W.heap.size 32 nodeZ:=by rw [← hW0];exact Blk.new W _ _
 have hs0 : W.heap.size + 1 ≤ W0.heap.size:=by rw [← hW0];simp
 have HW0:=hid hW0;have HK0:=hid (Kp.of_below (E:=E) hb0);have HP0:=hid (hp.next hb0);have HS0:=hid hs0;have HR0:=hid hr
 have HBr0:=hid hk0
 clear hW0 hb0 hk0 hs0 hp hr
 go_enter Tryz.func134,Tryz.ntmps134
 go_upto_region 1 with fail
 rw [HW0.out]
 have hl:=HR0.out
 clear HR0
 rw [run_ended] at hl
 obtain ⟨z,hz⟩ : ∃ z,(E.l.drop i).isEmpty = z:=⟨_,rfl⟩
 rw [hz] at hl
 have HR0:=hid hl
 have hen:=ended_calls hE HP0.out
 rw [hz] at hen
 unfold pB at hen
 have HEN:=hid hen
 clear hen hl hz
 have bc0:=(HBK.out.own (show Below W.heap.size W W0 by rw [← HW0.out];exact (Below.refl _ W).alloc (Nat.le_refl _) _)).cell 0
 unfold pB at bc0
 cases z with
 | true =>
  have hl:=HR0.out
  clear HR0
  rw [if_yes] at hl
  have HR0:=hid hl
  clear hl
  go_wp2_with fail
  ((with_reducible refine HEN.out.mono ?_);rintro e w1 ⟨rfl,hb⟩)
  have HK1:=hid (Kp.sb HK0.out hb)
  have HS1:=hid (show (W.heap.size + 1) ≤ w1.heap.size from Nat.le_trans HS0.out (hb).size)
  have HBr1:=hid (HBr0.out.own hb)
  have HP1:=hid (HP0.out.next hb)
  have HR1:=HR0
  have bc1 : w1.cell? ⟨b,0,none⟩ = some (.pointer (some ⟨E.B,0,none⟩)):=(((HBK.out.own (show Below W.heap.size W W0 by rw [← HW0.out];exact (Below.refl _ W).alloc (Nat.le_refl _) _)).own hb).cell 0)
  clear HK0 HS0 HBr0
  clear hb HP0 HR0 HEN bc0
  obtain rfl : o = .ok (E.l.drop i) none0:=(Option.some.inj HR1.out).symm
  have hx:=kids_nil (Fr (W.heap.size + 1) w1) w1 none 0
  have hfin:=fin_node hE (x:=none0) H00.out HP1.out HK1.out (Nat.le_refl _) HBr1.out hx
  have rc0:=HBr1.out.cell 0;have rf0:=HBr1.out.frozen 0
  have rc1:=HBr1.out.cell 1;have rf1:=HBr1.out.frozen 1
  have rc2:=HBr1.out.cell 2;have rf2:=HBr1.out.frozen 2
  have g0:=hfin.1.cell 0;have g1:=hfin.1.cell 1;have g2:=hfin.1.cell 2
  simp only [none0,Fo.len] at g0 g1 g2
  have HF:=hid hfin.2
  clear hfin
  go_wp2_with fail
  refine bodyPost_ret (v:=.agg (nV none0 none 0)) (by simp [results,Tryz.results134,go_sem,g0,g1,g2,none0,Fo.len]) rfl ?_
  exact HF.out
 | false =>
  have hl:=HR0.out
  clear HR0
  rw [if_no] at hl
  have HR0:=hid hl
  clear hl
  go_wp2_with fail
  ((with_reducible refine HEN.out.mono ?_);rintro e w1 ⟨rfl,hb⟩)
  have HK1:=hid (Kp.sb HK0.out hb)
  have HS1:=hid (show (W.heap.size + 1) ≤ w1.heap.size from Nat.le_trans HS0.out (hb).size)
  have HBr1:=hid (HBr0.out.own hb)
  have HP1:=hid (HP0.out.next hb)
  have HR1:=HR0
  have bc1 : w1.cell? ⟨b,0,none⟩ = some (.pointer (some ⟨E.B,0,none⟩)):=(((HBK.out.own (show Below W.heap.size W W0 by rw [← HW0.out];exact (Below.refl _ W).alloc (Nat.le_refl _) _)).own hb).cell 0)
  clear HK0 HS0 HBr0
  clear hb HP0 HR0 HEN bc0
  have hl:=run_tail HR1.out
  clear HR1
  have HR1:=hid hl
  clear hl
  obtain ⟨o2,h2,hr2⟩:=bind_run HR1.out
  have hcall:=Tl.at ho HP1.out h2
  have HC:=hid hcall;have HR2:=hid hr2
  clear hcall h2 hr2 HR1 HP1
  unfold pB at HC
  try unfold methV at HC
  go_wp2_with fail
  ((with_reducible refine HC.out.mono ?_);rintro e w2 ⟨hk,hm⟩)
  clear HC
  rcases o2 with ⟨r2,x2⟩ | ⟨r2⟩
  rotate_left
  ·obtain ⟨j,hj,hd,rfl⟩:=hm
   obtain rfl : o = .bad r2:=(Option.some.inj HR2.out).symm
   exact ⟨rfl,Kp.tr HK1.out hk,j,hj,hd,rfl⟩
  obtain ⟨v2,j2,rfl,hp,rfl,hR⟩:=hm
  have HK2:=hid (Kp.tr HK1.out hk)
  have HS2:=hid (show (W.heap.size + 1) ≤ w2.heap.size from Nat.le_trans HS1.out (hk).size)
  have HBr2:=hid (Kp.blk' (n:=W.heap.size) HBr1.out hk HNP.out (Nat.le_refl _))
  have HP2:=hid hp
  obtain ⟨ax,cx,rfl,hx⟩:=kids_new (n:=(W.heap.size + 1)) hR HS1.out
  have HXx2:=hid hx
  clear hk hp hR hx
  have hl:=HR2.out
  clear HR2
  dsimp only at hl
  have HR2:=hid hl
  clear hl
  clear HK1 HS1 HBr1
  obtain rfl : o = .ok (E.l.drop j2) x2:=(Option.some.inj HR2.out).symm
  have hfin:=fin_node hE H00.out HP2.out HK2.out (Nat.le_refl _) HBr2.out HXx2.out
  have rc0:=HBr2.out.cell 0;have rf0:=HBr2.out.frozen 0
  have rc1:=HBr2.out.cell 1;have rf1:=HBr2.out.frozen 1
  have rc2:=HBr2.out.cell 2;have rf2:=HBr2.out.frozen 2
  have g0:=hfin.1.cell 0;have g1:=hfin.1.cell 1;have g2:=hfin.1.cell 2
  have HF:=hid hfin.2
  skip
  clear hfin
  go_wp2_with fail
  refine bodyPost_ret (v:=.agg (nV x2 ax cx)) (by simp [results,Tryz.results134,go_sem,g0,g1,g2]) rfl ?_
  exact HF.out
theorem en_outer1 : Enters 134:=enters_of Tryz.func134 (by kernel_rfl) rfl
theorem outer_tl {E : Env} (hE : EnvOk E) {q qo : Pa Nd} (hq : Tl E q RN 123 #[pB E]) (ho : Tl E qo RN 83 #[pB E]) (n : Nat) (hn : n ≤ 100000000) : Tl E (.look fun t=>if word wdef t = true then defP q n (.ended fun z=>if z = true then .ret none0 else qo) else q) RN 83 #[pB E]:=by
 intro W i o hp hr
 have hmf : ∀ (fn : Go.Fn) (first cap : Array Value) (w : World),(Instr.makeFunc fn first cap).run Tryz.prog w = .ok (.func fn first cap) w:=fun _ _ _ _=>rfl
 have HNP:=hid hp.far;have H00:=hid hp
 obtain ⟨W0,hW0⟩ : ∃ W0,(W.alloc (.cells #[pB E] 81)).alloc (.cells nodeZ 32) = W0:=⟨_,rfl⟩
 have hb0 : Below W.heap.size W W0:=by rw [← hW0];exact ((Below.refl _ W).alloc (Nat.le_refl _) _).alloc (by simp) _
 have hk0 : Blk W0 (W.heap.size + 1) 32 nodeZ:=by rw [← hW0];simpa using Blk.new (W.alloc (.cells #[pB E] 81)) 32 nodeZ
 have hk1 : Blk W0 W.heap.size 81 #[pB E]:=by rw [← hW0];exact (Blk.new W _ _).alloc _
 have hs0 : W.heap.size + 2 ≤ W0.heap.size:=by rw [← hW0];simp
 have HW0:=hid hW0;have HK0:=hid (Kp.of_below (E:=E) hb0);have HP0:=hid (hp.next hb0);have HS0:=hid hs0;have HR0:=hid hr
 have HBr0:=hid hk0;have HBp0:=hid hk1;have HLp:=hid (Nat.le_refl W.heap.size)
 clear hW0 hb0 hk0 hk1 hs0 hp hr
 unfold pB
 go_enter Tryz.func83,Tryz.ntmps83
 go_upto_region 1 with fail
 rw [HW0.out]
 have hl:=HR0.out
 clear HR0
 rw [run_look] at hl
 obtain ⟨t,ht⟩ : ∃ t,tk E i = t:=⟨_,rfl⟩
 have HNX:=hid (fun W' (hb : Below W0.heap.size W0 W')=>next_calls hE (HP0.out.next hb))
 have hnx:=HNX.out
 clear HNX
 rw [ht] at hnx
 have HNX:=hid hnx
 rw [show tok (E.l.drop i) = t from ht] at hl
 obtain ⟨c,hc⟩ : ∃ c,word wdef t = c:=⟨_,rfl⟩
 rw [hc] at hl
 have HR0:=hid hl;have HTt:=hid ht;have HCt:=hid hc
 clear hl hnx ht
 have hv:=same_word hc
 clear hc
 have hq1:=run_sameV;have hq2:=run_otherV;have hq3:=guard_eqV;have hq4:=guard_neV
 have pc0:=HBp0.out.cell 0;have pf0:=HBp0.out.frozen 0
 unfold pB at HNX
 go_wp2_with fail
 ((with_reducible refine (HNX.out _ (Below.refl _ _)).mono ?_);rintro e w1 ⟨rfl,hb⟩)
 have HK1:=hid (Kp.sb HK0.out hb)
 have HS1:=hid (show (W.heap.size + 2) ≤ w1.heap.size from Nat.le_trans HS0.out (hb).size)
 have HBr1:=hid (HBr0.out.own hb)
 have HBp1:=hid (HBp0.out.own hb)
 have HP1:=hid (HP0.out.next hb)
 have HR1:=HR0
 clear HK0 HS0 HBr0 HBp0
 clear hb HNX HP0 HR0
 clear pc0 pf0
 go_wp2_with fail
 ((with_reducible refine (word_calls' _ _).mono ?_);rintro e w2 ⟨rfl,hb⟩)
 have HK2:=hid (Kp.sb HK1.out hb)
 have HS2:=hid (show (W.heap.size + 2) ≤ w2.heap.size from Nat.le_trans HS1.out (hb).size)
 have HBr2:=hid (HBr1.out.own hb)
 have HBp2:=hid (HBp1.out.own hb)
 have HP2:=hid (HP1.out.next hb)
 have HR2:=HR1
 clear HK1 HS1 HBr1 HBp1
 clear hb HP1 HR1
 cases c with
 | true =>
  have hl:=HR2.out
  clear HR2
  rw [if_yes] at hl
  have HR2:=hid hl
  clear hl
  have hft : FT E (.ended fun z=>if z = true then .ret none0 else qo) (.func (.func 134) #[] #[.pointer (some ⟨W.heap.size,0,none⟩)]) w2:=⟨134,#[],#[.pointer (some ⟨W.heap.size,0,none⟩)],rfl,en_outer1,fun W' hk i o hp hr=>outer1_of hE ho W.heap.size W' i o (Kp.blk' (n:=W.heap.size) HBp2.out hk HNP.out (Nat.le_refl _)) (HNP.out _ (Nat.le_refl _)) hp hr⟩
  have HFT:=hid hft;clear hft
  have hl:=run_tail HR2.out
  clear HR2
  have HR2:=hid hl
  clear hl
  have pc0:=HBp2.out.cell 0;have pf0:=HBp2.out.frozen 0
  obtain ⟨o3,h3,hr3⟩:=bind_run HR2.out
  have hcall:=def_of hE hq n hn _ w2 i o3 HFT.out HP2.out h3
  have HC:=hid hcall;have HR3:=hid hr3
  clear hcall h3 hr3 HR2 HP2
  unfold pB at HC
  try unfold methV at HC
  go_wp2_with fail
  ((with_reducible refine HC.out.mono ?_);rintro e w3 ⟨hk,hm⟩)
  clear HC
  rcases o3 with ⟨r3,x3⟩ | ⟨r3⟩
  rotate_left
  ·obtain ⟨j,hj,hd,rfl⟩:=hm
   obtain rfl : o = .bad r3:=(Option.some.inj HR3.out).symm
   exact ⟨rfl,Kp.tr HK2.out hk,j,hj,hd,rfl⟩
  obtain ⟨v3,j3,rfl,hp,rfl,hR⟩:=hm
  have HK3:=hid (Kp.tr HK2.out hk)
  have HS3:=hid (show (W.heap.size + 2) ≤ w3.heap.size from Nat.le_trans HS2.out (hk).size)
  have HBr3:=hid (Kp.blk' (n:=W.heap.size) HBr2.out hk HNP.out (Nat.le_succ _))
  have HBp3:=hid (Kp.blk' (n:=W.heap.size) HBp2.out hk HNP.out HLp.out)
  have HP3:=hid hp
  obtain ⟨ax,cx,rfl,hx⟩:=kids_new (n:=(W.heap.size + 2)) hR HS2.out
  have HXx3:=hid hx
  clear hk hp hR hx
  have hl:=HR3.out
  clear HR3
  dsimp only at hl
  have HR3:=hid hl
  clear hl
  clear HK2 HS2 HBr2 HBp2
  clear pc0 pf0
  obtain rfl : o = .ok (E.l.drop j3) x3:=(Option.some.inj HR3.out).symm
  have hfin:=fin_node hE H00.out HP3.out HK3.out (Nat.le_succ _) HBr3.out HXx3.out
  have rc0:=HBr3.out.cell 0;have rf0:=HBr3.out.frozen 0
  have rc1:=HBr3.out.cell 1;have rf1:=HBr3.out.frozen 1
  have rc2:=HBr3.out.cell 2;have rf2:=HBr3.out.frozen 2
  have g0:=hfin.1.cell 0;have g1:=hfin.1.cell 1;have g2:=hfin.1.cell 2
  have HF:=hid hfin.2
  skip
  clear hfin
  go_wp2_with fail
  refine bodyPost_ret (v:=.agg (nV x3 ax cx)) (by simp [results,Tryz.results83,go_sem,g0,g1,g2]) rfl ?_
  exact HF.out
 | false =>
  have hl:=HR2.out
  clear HR2
  rw [if_no] at hl
  have HR2:=hid hl
  clear hl
  have hl:=run_tail HR2.out
  clear HR2
  have HR2:=hid hl
  clear hl
  have pc0:=HBp2.out.cell 0;have pf0:=HBp2.out.frozen 0
  obtain ⟨o3,h3,hr3⟩:=bind_run HR2.out
  have hcall:=Tl.at hq HP2.out h3
  have HC:=hid hcall;have HR3:=hid hr3
  clear hcall h3 hr3 HR2 HP2
  unfold pB at HC
  try unfold methV at HC
  go_wp2_with fail
  ((with_reducible refine HC.out.mono ?_);rintro e w3 ⟨hk,hm⟩)
  clear HC
  rcases o3 with ⟨r3,x3⟩ | ⟨r3⟩
  rotate_left
  ·obtain ⟨j,hj,hd,rfl⟩:=hm
   obtain rfl : o = .bad r3:=(Option.some.inj HR3.out).symm
   exact ⟨rfl,Kp.tr HK2.out hk,j,hj,hd,rfl⟩
  obtain ⟨v3,j3,rfl,hp,rfl,hR⟩:=hm
  have HK3:=hid (Kp.tr HK2.out hk)
  have HS3:=hid (show (W.heap.size + 2) ≤ w3.heap.size from Nat.le_trans HS2.out (hk).size)
  have HBr3:=hid (Kp.blk' (n:=W.heap.size) HBr2.out hk HNP.out (Nat.le_succ _))
  have HBp3:=hid (Kp.blk' (n:=W.heap.size) HBp2.out hk HNP.out HLp.out)
  have HP3:=hid hp
  obtain ⟨ax,cx,rfl,hx⟩:=kids_new (n:=(W.heap.size + 2)) hR HS2.out
  have HXx3:=hid hx
  clear hk hp hR hx
  have hl:=HR3.out
  clear HR3
  dsimp only at hl
  have HR3:=hid hl
  clear hl
  clear HK2 HS2 HBr2 HBp2
  clear pc0 pf0
  obtain rfl : o = .ok (E.l.drop j3) x3:=(Option.some.inj HR3.out).symm
  have hfin:=fin_node hE H00.out HP3.out HK3.out (Nat.le_succ _) HBr3.out HXx3.out
  have rc0:=HBr3.out.cell 0;have rf0:=HBr3.out.frozen 0
  have rc1:=HBr3.out.cell 1;have rf1:=HBr3.out.frozen 1
  have rc2:=HBr3.out.cell 2;have rf2:=HBr3.out.frozen 2
  have g0:=hfin.1.cell 0;have g1:=hfin.1.cell 1;have g2:=hfin.1.cell 2
  have HF:=hid hfin.2
  skip
  clear hfin
  go_wp2_with fail
  refine bodyPost_ret (v:=.agg (nV x3 ax cx)) (by simp [results,Tryz.results83,go_sem,g0,g1,g2]) rfl ?_
  exact HF.out
end Go.Proofs.YtlklhkkjcfmefaaGreatDoor.pa
namespace Go.Proofs.YtlklhkkjcfmefaaGreatDoor.lx
open sg (opsL OpsAt)
open Go.RowKit Go.ChangeShapes Go.WideShapes Go.ChangeAt
def laid : List (String × DataW Unit):=[("unicode/utf8.acceptRanges",Rows.laid_unicode_utf8_acceptRanges),("subeditor/sign.operators",Rows.laid_subeditor_sign_operators),("unicode/utf8.first",Rows.laid_unicode_utf8_first)]
theorem laid_list : (Rows.laid_subeditor_sign_operators : DataW Unit) = .agg (Sg.opers.map fun l=>.lit (.string l)):=rfl
theorem opsL_get {r : Nat} (hr : r < 34) : opsL[r]? = some (.string ⟨(Sg.opers.getD r []).toArray⟩):=by
 have hl : Sg.opers.length = 34:=rfl
 simp [opsL,List.getD,hr,hl]
end Go.Proofs.YtlklhkkjcfmefaaGreatDoor.lx
