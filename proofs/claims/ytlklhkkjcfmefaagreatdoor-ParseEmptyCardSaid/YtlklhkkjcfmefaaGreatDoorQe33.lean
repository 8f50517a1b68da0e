/- Ground of the law: PaP15, PaP17, PaP25, LxDoc. -/
import Derived.Test.YtlklhkkjcfmefaaGreatDoorQe30
import Derived.Test.YtlklhkkjcfmefaaGreatDoorQe17
import Derived.Test.YtlklhkkjcfmefaaGreatDoorQe31
import Derived.Test.YtlklhkkjcfmefaaGreatDoorQe04
import Derived.Test.YtlklhkkjcfmefaaGreatDoorQe05
import Derived.Test.YtlklhkkjcfmefaaGreatDoorQe07
import Derived.Test.YtlklhkkjcfmefaaGreatDoorQe08
import Derived.Test.YtlklhkkjcfmefaaGreatDoorQe09
import Derived.Test.YtlklhkkjcfmefaaGreatDoorQe28
import Derived.Test.YtlklhkkjcfmefaaGreatDoorQe22
import Derived.Test.YtlklhkkjcfmefaaGreatDoorQe03
import Derived.Maps.AppendAt
import Derived.Laws.AppendOwnNone
import Derived.BigQuiet
import Derived.Deep.Slices
import Derived.SizedLaws
import Derived.Test.YtlklhkkjcfmefaaGreatDoorRows
import Derived.Deep.QuietTactic
import Derived.Deep.Cut
import Derived.Deep.CutRange
import Derived.Lib.Bytealg
import Derived.Laws.StructEq
set_option maxRecDepth 100000
set_option maxHeartbeats 8000000
set_option linter.unusedVariables false
set_option linter.unusedSimpArgs false
namespace Go.Proofs.YtlklhkkjcfmefaaGreatDoor.pa
open Go.Lib (hid)
open Go.RowKit nd pr sx ed
theorem pair_tl {E : Env} (hE : EnvOk E) {qk qv : Pa Nd} (hk2 : Tl E qk RN 155 #[pB E]) (hv2 : Tl E qv RN 157 #[pB E]) : Tl E (qk.bind fun x=>if x.k = 32 then need colon (qv.bind fun y=>.ret (mk 11 eB [x,y])) else .look fun t=>if op colon t = true then need colon (qv.bind fun y=>.ret (mk 11 eB [x,y])) else .ret (mk 11 eB [x])) RN 119 #[pB E]:=by
 intro W i o hp hr
 have hmf : ∀ (fn : Go.Fn) (first cap : Array Value) (w : World),(Instr.makeFunc fn first cap).run Tryz.prog w = .ok (.func fn first cap) w:=fun _ _ _ _=>rfl
 have HNP:=hid hp.far;have H00:=hid hp
 obtain ⟨W0,hW0⟩ : ∃ W0,W.alloc (.cells nodeZ 32) = W0:=⟨_,rfl⟩
 have hb0 : Below W.heap.size W W0:=by rw [← hW0];exact (Below.refl _ W).alloc (Nat.le_refl _) _
 have hk0 : Blk W0 W.heap.size 32 nodeZ:=by rw [← hW0];exact Blk.new W _ _
 have hs0 : W.heap.size + 1 ≤ W0.heap.size:=by rw [← hW0];simp
 have HW0:=hid hW0;have HK0:=hid (Kp.of_below (E:=E) hb0);have HP0:=hid (hp.next hb0);have HS0:=hid hs0;have HR0:=hid hr
 have HBr0:=hid hk0
 clear hW0 hb0 hk0 hs0 hp hr
 unfold pB
 go_enter Tryz.func119,Tryz.ntmps119
 go_upto_region 1 with fail
 rw [HW0.out]
 obtain ⟨o1,h1,hr1⟩:=bind_run HR0.out
 have hcall:=Tl.at hk2 HP0.out h1
 have HC:=hid hcall;have HR1:=hid hr1
 clear hcall h1 hr1 HR0 HP0
 unfold pB at HC
 try unfold methV at HC
 go_wp2_with fail
 ((with_reducible refine HC.out.mono ?_);rintro e w1 ⟨hk,hm⟩)
 clear HC
 rcases o1 with ⟨r1,x1⟩ | ⟨r1⟩
 rotate_left
 ·obtain ⟨j,hj,hd,rfl⟩:=hm
  obtain rfl : o = .bad r1:=(Option.some.inj HR1.out).symm
  exact ⟨rfl,Kp.tr HK0.out hk,j,hj,hd,rfl⟩
 obtain ⟨v1,j1,rfl,hp,rfl,hR⟩:=hm
 have HK1:=hid (Kp.tr HK0.out hk)
 have HS1:=hid (show (W.heap.size + 1) ≤ w1.heap.size from Nat.le_trans HS0.out (hk).size)
 have HBr1:=hid (Kp.blk' (n:=W.heap.size) HBr0.out hk HNP.out (Nat.le_refl _))
 have HP1:=hid hp
 obtain ⟨ax,cx,rfl,hx⟩:=kids_new (n:=(W.heap.size + 1)) hR HS0.out
 have HXx1:=hid hx
 clear hk hp hR hx
 have hl:=HR1.out
 clear HR1
 dsimp only at hl
 have HR1:=hid hl
 clear hl
 clear HK0 HS0 HBr0
 go_upto_region 2 with fail
 obtain ⟨w2,hw⟩ : ∃ w',w1.alloc (.cells (nV x1 ax cx) 32) = w':=⟨_,rfl⟩
 rw [hw]
 have hb : Below w1.heap.size w1 w2:=by rw [← hw];exact (Below.refl _ _).alloc (Nat.le_refl _) _
 have HBx2:=hid (show Blk w2 w1.heap.size 32 (nV x1 ax cx) by rw [← hw];exact Blk.new _ _ _)
 have HLx:=hid (show W.heap.size ≤ w1.heap.size by have:=HS1.out;omega);have HNEx:=hid (show W.heap.size < w1.heap.size by have:=HS1.out;omega)
 have HK2:=hid (Kp.sb HK1.out hb)
 have HS2:=hid (show (W.heap.size + 1) ≤ w2.heap.size from Nat.le_trans HS1.out (hb).size)
 have HBr2:=hid (HBr1.out.own hb)
 have HXx2:=hid (kids_below HXx1.out hb)
 have HP2:=hid (HP1.out.next hb)
 have HR2:=HR1
 clear HK1 HS1 HBr1 HXx1
 clear hb hw HP1 HR1
 have xc0:=HBx2.out.cell 0;have xf0:=HBx2.out.frozen 0
 have xc1:=HBx2.out.cell 1;have xf1:=HBx2.out.frozen 1
 have xc2:=HBx2.out.cell 2;have xf2:=HBx2.out.frozen 2
 by_cases hcd : (x1.k == 32) = true
 ·
  have q1:=hcd;have q2 : (x1.k != 32) = false:=by unfold bne;rw [hcd];rfl
  have hl:=HR2.out
  clear HR2
  rw [if_pos (show (x1.k = 32) by simpa using q1)] at hl
  have HR2:=hid hl
  clear hl hcd
  have hl:=run_tail HR2.out
  clear HR2
  have HR2:=hid hl
  clear hl
  obtain ⟨o3,h3,hr3⟩:=bind_run HR2.out
  have hcall:=keyed_false hE en_given hv2 11 x1 ax cx w2 j1 o3 HXx2.out (fun k e=>⟨e.2,HNP.out k (by have:=e.1;omega)⟩) HP2.out h3
  have HC:=hid hcall;have HR3:=hid hr3
  clear hcall h3 hr3 HR2 HP2
  unfold pB at HC
  try unfold methV at HC
  go_wp2_with fail
  ((with_reducible refine HC.out.mono ?_);rintro e w3 ⟨hk,hm⟩)
  clear HC
  rcases o3 with ⟨r3,x3⟩ | ⟨r3⟩
  rotate_left
  ·obtain ⟨j,hj,hd,rfl⟩:=hm
   obtain rfl : o = .bad r3:=(Option.some.inj HR3.out).symm
   exact ⟨rfl,Kp.tr HK2.out hk,j,hj,hd,rfl⟩
  obtain ⟨v3,j3,rfl,hp,rfl,hR⟩:=hm
  have HK3:=hid (Kp.tr HK2.out hk)
  have HS3:=hid (show (W.heap.size + 1) ≤ w3.heap.size from Nat.le_trans HS2.out (hk).size)
  have HBr3:=hid (Kp.blk' (n:=W.heap.size) HBr2.out hk HNP.out (Nat.le_refl _))
  have HBx3:=hid (Kp.blk' (n:=W.heap.size) HBx2.out hk HNP.out HLx.out)
  have HXx3:=hid (kids_kp HXx2.out hk (fun k hk=>HNP.out k (by omega)))
  have HP3:=hid hp
  obtain ⟨ay,cy,rfl,hx⟩:=kids_newS (n:=(W.heap.size + 1)) hR HS2.out hk.size
  have HXy3:=hid hx
  clear hk hp hR hx
  have hl:=HR3.out
  clear HR3
  dsimp only at hl
  have HR3:=hid hl
  clear hl
  clear HK2 HS2 HBr2 HBx2 HXx2
  obtain rfl : o = .ok (E.l.drop j3) x3:=(Option.some.inj HR3.out).symm
  have hfin:=fin_node hE H00.out HP3.out HK3.out (Nat.le_refl _) HBr3.out HXy3.out
  have rc0:=HBr3.out.cell 0;have rf0:=HBr3.out.frozen 0
  have rc1:=HBr3.out.cell 1;have rf1:=HBr3.out.frozen 1
  have rc2:=HBr3.out.cell 2;have rf2:=HBr3.out.frozen 2
  have g0:=hfin.1.cell 0;have g1:=hfin.1.cell 1;have g2:=hfin.1.cell 2
  have HF:=hid hfin.2
  skip
  clear hfin
  go_wp2_with fail
  refine bodyPost_ret (v:=.agg (nV x3 ay cy)) (by simp [results,Tryz.results119,go_sem,g0,g1,g2]) rfl ?_
  exact HF.out
 ·
  have q1 : (x1.k == 32) = false:=by simpa using hcd
  have q2 : (x1.k != 32) = true:=by unfold bne;rw [q1];rfl
  have hl:=HR2.out
  clear HR2
  rw [if_neg (show ¬ (x1.k = 32) by simpa using q1)] at hl
  have HR2:=hid hl
  clear hl hcd
  have hl:=run_tail HR2.out
  clear HR2
  have HR2:=hid hl
  clear hl
  obtain ⟨o3,h3,hr3⟩:=bind_run HR2.out
  have hcall:=keyed_true hE en_given hv2 11 x1 ax cx w2 j1 o3 HXx2.out (fun k e=>⟨e.2,HNP.out k (by have:=e.1;omega)⟩) HP2.out h3
  have HC:=hid hcall;have HR3:=hid hr3
  clear hcall h3 hr3 HR2 HP2
  unfold pB at HC
  try unfold methV at HC
  go_wp2_with fail
  ((with_reducible refine HC.out.mono ?_);rintro e w3 ⟨hk,hm⟩)
  clear HC
  rcases o3 with ⟨r3,x3⟩ | ⟨r3⟩
  rotate_left
  ·obtain ⟨j,hj,hd,rfl⟩:=hm
   obtain rfl : o = .bad r3:=(Option.some.inj HR3.out).symm
   exact ⟨rfl,Kp.tr HK2.out hk,j,hj,hd,rfl⟩
  obtain ⟨v3,j3,rfl,hp,rfl,hR⟩:=hm
  have HK3:=hid (Kp.tr HK2.out hk)
  have HS3:=hid (show (W.heap.size + 1) ≤ w3.heap.size from Nat.le_trans HS2.out (hk).size)
  have HBr3:=hid (Kp.blk' (n:=W.heap.size) HBr2.out hk HNP.out (Nat.le_refl _))
  have HBx3:=hid (Kp.blk' (n:=W.heap.size) HBx2.out hk HNP.out HLx.out)
  have HXx3:=hid (kids_kp HXx2.out hk (fun k hk=>HNP.out k (by omega)))
  have HP3:=hid hp
  obtain ⟨ay,cy,rfl,hx⟩:=kids_newS (n:=(W.heap.size + 1)) hR HS2.out hk.size
  have HXy3:=hid hx
  clear hk hp hR hx
  have hl:=HR3.out
  clear HR3
  dsimp only at hl
  have HR3:=hid hl
  clear hl
  clear HK2 HS2 HBr2 HBx2 HXx2
  obtain rfl : o = .ok (E.l.drop j3) x3:=(Option.some.inj HR3.out).symm
  have hfin:=fin_node hE H00.out HP3.out HK3.out (Nat.le_refl _) HBr3.out HXy3.out
  have rc0:=HBr3.out.cell 0;have rf0:=HBr3.out.frozen 0
  have rc1:=HBr3.out.cell 1;have rf1:=HBr3.out.frozen 1
  have rc2:=HBr3.out.cell 2;have rf2:=HBr3.out.frozen 2
  have g0:=hfin.1.cell 0;have g1:=hfin.1.cell 1;have g2:=hfin.1.cell 2
  have HF:=hid hfin.2
  skip
  clear hfin
  go_wp2_with fail
  refine bodyPost_ret (v:=.agg (nV x3 ay cy)) (by simp [results,Tryz.results119,go_sem,g0,g1,g2]) rfl ?_
  exact HF.out
theorem keyPat_tl {E : Env} (hE : EnvOk E) {qk qv : Pa Nd} (hk2 : Tl E qk RN 155 #[pB E]) (hv2 : Tl E qv RN 160 #[pB E]) : Tl E (qk.bind fun x=>if ¬ x.k = 4 then need colon (qv.bind fun y=>.ret (mk 37 eB [x,y])) else .look fun t=>if op colon t = true then need colon (qv.bind fun y=>.ret (mk 37 eB [x,y])) else .ret (mk 37 eB [x])) RN 191 #[pB E]:=by
 intro W i o hp hr
 have hmf : ∀ (fn : Go.Fn) (first cap : Array Value) (w : World),(Instr.makeFunc fn first cap).run Tryz.prog w = .ok (.func fn first cap) w:=fun _ _ _ _=>rfl
 have HNP:=hid hp.far;have H00:=hid hp
 obtain ⟨W0,hW0⟩ : ∃ W0,W.alloc (.cells nodeZ 32) = W0:=⟨_,rfl⟩
 have hb0 : Below W.heap.size W W0:=by rw [← hW0];exact (Below.refl _ W).alloc (Nat.le_refl _) _
 have hk0 : Blk W0 W.heap.size 32 nodeZ:=by rw [← hW0];exact Blk.new W _ _
 have hs0 : W.heap.size + 1 ≤ W0.heap.size:=by rw [← hW0];simp
 have HW0:=hid hW0;have HK0:=hid (Kp.of_below (E:=E) hb0);have HP0:=hid (hp.next hb0);have HS0:=hid hs0;have HR0:=hid hr
 have HBr0:=hid hk0
 clear hW0 hb0 hk0 hs0 hp hr
 unfold pB
 go_enter Tryz.func191,Tryz.ntmps191
 go_upto_region 1 with fail
 rw [HW0.out]
 obtain ⟨o1,h1,hr1⟩:=bind_run HR0.out
 have hcall:=Tl.at hk2 HP0.out h1
 have HC:=hid hcall;have HR1:=hid hr1
 clear hcall h1 hr1 HR0 HP0
 unfold pB at HC
 try unfold methV at HC
 go_wp2_with fail
 ((with_reducible refine HC.out.mono ?_);rintro e w1 ⟨hk,hm⟩)
 clear HC
 rcases o1 with ⟨r1,x1⟩ | ⟨r1⟩
 rotate_left
 ·obtain ⟨j,hj,hd,rfl⟩:=hm
  obtain rfl : o = .bad r1:=(Option.some.inj HR1.out).symm
  exact ⟨rfl,Kp.tr HK0.out hk,j,hj,hd,rfl⟩
 obtain ⟨v1,j1,rfl,hp,rfl,hR⟩:=hm
 have HK1:=hid (Kp.tr HK0.out hk)
 have HS1:=hid (show (W.heap.size + 1) ≤ w1.heap.size from Nat.le_trans HS0.out (hk).size)
 have HBr1:=hid (Kp.blk' (n:=W.heap.size) HBr0.out hk HNP.out (Nat.le_refl _))
 have HP1:=hid hp
 obtain ⟨ax,cx,rfl,hx⟩:=kids_new (n:=(W.heap.size + 1)) hR HS0.out
 have HXx1:=hid hx
 clear hk hp hR hx
 have hl:=HR1.out
 clear HR1
 dsimp only at hl
 have HR1:=hid hl
 clear hl
 clear HK0 HS0 HBr0
 go_upto_region 2 with fail
 obtain ⟨w2,hw⟩ : ∃ w',w1.alloc (.cells (nV x1 ax cx) 32) = w':=⟨_,rfl⟩
 rw [hw]
 have hb : Below w1.heap.size w1 w2:=by rw [← hw];exact (Below.refl _ _).alloc (Nat.le_refl _) _
 have HBx2:=hid (show Blk w2 w1.heap.size 32 (nV x1 ax cx) by rw [← hw];exact Blk.new _ _ _)
 have HLx:=hid (show W.heap.size ≤ w1.heap.size by have:=HS1.out;omega);have HNEx:=hid (show W.heap.size < w1.heap.size by have:=HS1.out;omega)
 have HK2:=hid (Kp.sb HK1.out hb)
 have HS2:=hid (show (W.heap.size + 1) ≤ w2.heap.size from Nat.le_trans HS1.out (hb).size)
 have HBr2:=hid (HBr1.out.own hb)
 have HXx2:=hid (kids_below HXx1.out hb)
 have HP2:=hid (HP1.out.next hb)
 have HR2:=HR1
 clear HK1 HS1 HBr1 HXx1
 clear hb hw HP1 HR1
 have xc0:=HBx2.out.cell 0;have xf0:=HBx2.out.frozen 0
 have xc1:=HBx2.out.cell 1;have xf1:=HBx2.out.frozen 1
 have xc2:=HBx2.out.cell 2;have xf2:=HBx2.out.frozen 2
 by_cases hcd : (x1.k == 4) = true
 ·
  have q1:=hcd;have q2 : (x1.k != 4) = false:=by unfold bne;rw [hcd];rfl
  have hl:=HR2.out
  clear HR2
  rw [if_neg (show ¬ (¬ x1.k = 4) by simpa using q1)] at hl
  have HR2:=hid hl
  clear hl hcd
  have hl:=run_tail HR2.out
  clear HR2
  have HR2:=hid hl
  clear hl
  obtain ⟨o3,h3,hr3⟩:=bind_run HR2.out
  have hcall:=keyed_true hE en_pattern hv2 37 x1 ax cx w2 j1 o3 HXx2.out (fun k e=>⟨e.2,HNP.out k (by have:=e.1;omega)⟩) HP2.out h3
  have HC:=hid hcall;have HR3:=hid hr3
  clear hcall h3 hr3 HR2 HP2
  unfold pB at HC
  try unfold methV at HC
  go_wp2_with fail
  ((with_reducible refine HC.out.mono ?_);rintro e w3 ⟨hk,hm⟩)
  clear HC
  rcases o3 with ⟨r3,x3⟩ | ⟨r3⟩
  rotate_left
  ·obtain ⟨j,hj,hd,rfl⟩:=hm
   obtain rfl : o = .bad r3:=(Option.some.inj HR3.out).symm
   exact ⟨rfl,Kp.tr HK2.out hk,j,hj,hd,rfl⟩
  obtain ⟨v3,j3,rfl,hp,rfl,hR⟩:=hm
  have HK3:=hid (Kp.tr HK2.out hk)
  have HS3:=hid (show (W.heap.size + 1) ≤ w3.heap.size from Nat.le_trans HS2.out (hk).size)
  have HBr3:=hid (Kp.blk' (n:=W.heap.size) HBr2.out hk HNP.out (Nat.le_refl _))
  have HBx3:=hid (Kp.blk' (n:=W.heap.size) HBx2.out hk HNP.out HLx.out)
  have HXx3:=hid (kids_kp HXx2.out hk (fun k hk=>HNP.out k (by omega)))
  have HP3:=hid hp
  obtain ⟨ay,cy,rfl,hx⟩:=kids_newS (n:=(W.heap.size + 1)) hR HS2.out hk.size
  have HXy3:=hid hx
  clear hk hp hR hx
  have hl:=HR3.out
  clear HR3
  dsimp only at hl
  have HR3:=hid hl
  clear hl
  clear HK2 HS2 HBr2 HBx2 HXx2
  obtain rfl : o = .ok (E.l.drop j3) x3:=(Option.some.inj HR3.out).symm
  have hfin:=fin_node hE H00.out HP3.out HK3.out (Nat.le_refl _) HBr3.out HXy3.out
  have rc0:=HBr3.out.cell 0;have rf0:=HBr3.out.frozen 0
  have rc1:=HBr3.out.cell 1;have rf1:=HBr3.out.frozen 1
  have rc2:=HBr3.out.cell 2;have rf2:=HBr3.out.frozen 2
  have g0:=hfin.1.cell 0;have g1:=hfin.1.cell 1;have g2:=hfin.1.cell 2
  have HF:=hid hfin.2
  skip
  clear hfin
  go_wp2_with fail
  refine bodyPost_ret (v:=.agg (nV x3 ay cy)) (by simp [results,Tryz.results191,go_sem,g0,g1,g2]) rfl ?_
  exact HF.out
 ·
  have q1 : (x1.k == 4) = false:=by simpa using hcd
  have q2 : (x1.k != 4) = true:=by unfold bne;rw [q1];rfl
  have hl:=HR2.out
  clear HR2
  rw [if_pos (show (¬ x1.k = 4) by simpa using q1)] at hl
  have HR2:=hid hl
  clear hl hcd
  have hl:=run_tail HR2.out
  clear HR2
  have HR2:=hid hl
  clear hl
  obtain ⟨o3,h3,hr3⟩:=bind_run HR2.out
  have hcall:=keyed_false hE en_pattern hv2 37 x1 ax cx w2 j1 o3 HXx2.out (fun k e=>⟨e.2,HNP.out k (by have:=e.1;omega)⟩) HP2.out h3
  have HC:=hid hcall;have HR3:=hid hr3
  clear hcall h3 hr3 HR2 HP2
  unfold pB at HC
  try unfold methV at HC
  go_wp2_with fail
  ((with_reducible refine HC.out.mono ?_);rintro e w3 ⟨hk,hm⟩)
  clear HC
  rcases o3 with ⟨r3,x3⟩ | ⟨r3⟩
  rotate_left
  ·obtain ⟨j,hj,hd,rfl⟩:=hm
   obtain rfl : o = .bad r3:=(Option.some.inj HR3.out).symm
   exact ⟨rfl,Kp.tr HK2.out hk,j,hj,hd,rfl⟩
  obtain ⟨v3,j3,rfl,hp,rfl,hR⟩:=hm
  have HK3:=hid (Kp.tr HK2.out hk)
  have HS3:=hid (show (W.heap.size + 1) ≤ w3.heap.size from Nat.le_trans HS2.out (hk).size)
  have HBr3:=hid (Kp.blk' (n:=W.heap.size) HBr2.out hk HNP.out (Nat.le_refl _))
  have HBx3:=hid (Kp.blk' (n:=W.heap.size) HBx2.out hk HNP.out HLx.out)
  have HXx3:=hid (kids_kp HXx2.out hk (fun k hk=>HNP.out k (by omega)))
  have HP3:=hid hp
  obtain ⟨ay,cy,rfl,hx⟩:=kids_newS (n:=(W.heap.size + 1)) hR HS2.out hk.size
  have HXy3:=hid hx
  clear hk hp hR hx
  have hl:=HR3.out
  clear HR3
  dsimp only at hl
  have HR3:=hid hl
  clear hl
  clear HK2 HS2 HBr2 HBx2 HXx2
  obtain rfl : o = .ok (E.l.drop j3) x3:=(Option.some.inj HR3.out).symm
  have hfin:=fin_node hE H00.out HP3.out HK3.out (Nat.le_refl _) HBr3.out HXy3.out
  have rc0:=HBr3.out.cell 0;have rf0:=HBr3.out.frozen 0
  have rc1:=HBr3.out.cell 1;have rf1:=HBr3.out.frozen 1
  have rc2:=HBr3.out.cell 2;have rf2:=HBr3.out.frozen 2
  have g0:=hfin.1.cell 0;have g1:=hfin.1.cell 1;have g2:=hfin.1.cell 2
  have HF:=hid hfin.2
  skip
  clear hfin
  go_wp2_with fail
  refine bodyPost_ret (v:=.agg (nV x3 ay cy)) (by simp [results,Tryz.results191,go_sem,g0,g1,g2]) rfl ?_
  exact HF.out
end Go.Proofs.YtlklhkkjcfmefaaGreatDoor.pa
namespace Go.Proofs.YtlklhkkjcfmefaaGreatDoor.pa
open Go.Lib (hid)
open Go.RowKit nd pr sx ed
theorem dotted_of {E : Env} (hE : EnvOk E) {qp : ByteArray → Pa Nd} {qx : Pa Nd} {S : Nat → Prop} (x : Nd) (a : Option Addr) (c : Nat) (hpk : ∀ (d : ByteArray) (S' : Nat → Prop) (W : World) (i : Nat) (o : Out Nd) (a' : Option Addr) (c' : Nat),KidsAt S' W x.kids (.slice a' x.kids.len c') → OldS E W S' → Ps E W i → (qp d).run (E.l.drop i) = some o → Calls Tryz.prog 190 #[pB E,.agg (nV x a' c'),.string d] W (Post E (RNS S') W o)) (hqx : Tl E qx RN 79 #[pB E]) : ∀ W i o,KidsAt S W x.kids (.slice a x.kids.len c) → OldS E W S → Ps E W i → ((.look fun t=>if t.1 = 0 then .out else .move (.look fun u=>if op lbr u = true then qp t.2 else qx.bind fun y=>.ret (mk 22 eB [x,y]))) : Pa Nd).run (E.l.drop i) = some o → Calls Tryz.prog 189 #[pB E,.agg (nV x a c)] W (Post E (RNS S) W o):=by
 intro W i o hxi hos hp hr
 have HXI:=hid hxi;have HOS:=hid hos;clear hxi hos
 have HPK:=hid hpk;clear hpk
 have HNP:=hid hp.far;have H00:=hid hp
 obtain ⟨W0,hW0⟩ : ∃ W0,(W.alloc (.cells (nV x a c) 32)).alloc (.cells nodeZ 32) = W0:=⟨_,rfl⟩
 have hb0 : Below W.heap.size W W0:=by rw [← hW0];exact ((Below.refl _ W).alloc (Nat.le_refl _) _).alloc (by simp) _
 have hk0 : Blk W0 (W.heap.size + 1) 32 nodeZ:=by rw [← hW0];simpa using Blk.new (W.alloc (.cells (nV x a c) 32)) 32 nodeZ
 have hk1 : Blk W0 W.heap.size 32 (nV x a c):=by rw [← hW0];exact (Blk.new W _ _).alloc _
 have hs0 : W.heap.size + 2 ≤ W0.heap.size:=by rw [← hW0];simp
 have HW0:=hid hW0;have HK0:=hid (Kp.of_below (E:=E) hb0);have HP0:=hid (hp.next hb0);have HS0:=hid hs0;have HR0:=hid hr
 have HBr0:=hid hk0;have HBn0:=hid hk1;have HLn:=hid (Nat.le_refl W.heap.size)
 clear hW0 hb0 hk0 hk1 hs0 hp hr
 unfold pB
 go_enter Tryz.func189,Tryz.ntmps189
 go_upto_region 1 with fail
 rw [HW0.out]
 have HXn0:=hid (kidsS_below (kidsS_of (n:=(W.heap.size + 2)) HXI.out) (show Below W.heap.size W W0 by rw [← HW0.out];exact ((Below.refl _ W).alloc (Nat.le_refl _) _).alloc (by simp) _) HOS.out (Nat.le_refl _))
 have HNEn:=hid (Nat.lt_succ_self W.heap.size)
 have hl:=HR0.out
 clear HR0
 rw [run_look] at hl
 obtain ⟨t,ht⟩ : ∃ t,tk E i = t:=⟨_,rfl⟩
 rw [show tok (E.l.drop i) = t from ht] at hl
 have hk0 : t.1 ≠ 0:=fun e=>by rw [if_pos e] at hl;cases hl
 rw [if_neg hk0] at hl
 have HTt:=hid ht;have HK0t:=hid hk0
 have HR0:=hid hl
 clear hl ht hk0
 have htk:=take_calls hE HP0.out (tok_lt HTt.out HK0t.out)
 rw [HTt.out] at htk
 unfold pB at htk
 have HTK:=hid htk
 clear htk
 go_wp2_with fail
 ((with_reducible refine HTK.out.mono ?_);rintro e w1 ⟨rfl,hk,hp⟩)
 have HK1:=hid (Kp.tr HK0.out hk)
 have HS1:=hid (show (W.heap.size + 2) ≤ w1.heap.size from Nat.le_trans HS0.out (hk).size)
 have HBr1:=hid (Kp.blk' (n:=W.heap.size) HBr0.out hk HNP.out (Nat.le_succ _))
 have HBn1:=hid (Kp.blk' (n:=W.heap.size) HBn0.out hk HNP.out HLn.out)
 have HXn1:=hid (kidsS_kp HXn0.out hk (fun k hk=>HNP.out k (by omega)) HOS.out (by have:=HS0.out;omega))
 have hl:=HR0.out
 obtain ⟨j1,hj⟩ : ∃ n,i + 1 = n:=⟨_,rfl⟩
 rw [hj] at hp
 have HP1:=hid hp
 rw [run_move,hj] at hl
 have HR1:=hid hl
 clear HK0 HS0 HBr0 HBn0 HXn0
 clear hk hp hj hl HTK HR0 HP0
 have hl:=HR1.out
 clear HR1
 rw [run_look] at hl
 obtain ⟨u,ht⟩ : ∃ t,tk E j1 = t:=⟨_,rfl⟩
 have HNX:=hid (fun W' (hb : Below w1.heap.size w1 W')=>next_calls hE (HP1.out.next hb))
 have hnx:=HNX.out
 clear HNX
 rw [ht] at hnx
 have HNX:=hid hnx
 rw [show tok (E.l.drop j1) = u from ht] at hl
 obtain ⟨c,hc⟩ : ∃ c,op lbr u = c:=⟨_,rfl⟩
 rw [hc] at hl
 have HR1:=hid hl;have HTu:=hid ht;have HCu:=hid hc
 clear hl hnx ht
 have hv:=same_op hc
 clear hc
 have hq1:=run_sameV;have hq2:=run_otherV;have hq3:=guard_eqV;have hq4:=guard_neV
 unfold pB at HNX
 go_wp2_with fail
 ((with_reducible refine (HNX.out _ (Below.refl _ _)).mono ?_);rintro e w2 ⟨rfl,hb⟩)
 have HK2:=hid (Kp.sb HK1.out hb)
 have HS2:=hid (show (W.heap.size + 2) ≤ w2.heap.size from Nat.le_trans HS1.out (hb).size)
 have HBr2:=hid (HBr1.out.own hb)
 have HBn2:=hid (HBn1.out.own hb)
 have HXn2:=hid (kidsS_below HXn1.out hb HOS.out (by have:=HS1.out;omega))
 have HP2:=hid (HP1.out.next hb)
 have HR2:=HR1
 clear HK1 HS1 HBr1 HBn1 HXn1
 clear hb HNX HP1 HR1
 go_wp2_with fail
 ((with_reducible refine (op_calls' _ _).mono ?_);rintro e w3 ⟨rfl,hb⟩)
 have HK3:=hid (Kp.sb HK2.out hb)
 have HS3:=hid (show (W.heap.size + 2) ≤ w3.heap.size from Nat.le_trans HS2.out (hb).size)
 have HBr3:=hid (HBr2.out.own hb)
 have HBn3:=hid (HBn2.out.own hb)
 have HXn3:=hid (kidsS_below HXn2.out hb HOS.out (by have:=HS2.out;omega))
 have HP3:=hid (HP2.out.next hb)
 have HR3:=HR2
 clear HK2 HS2 HBr2 HBn2 HXn2
 clear hb HP2 HR2
 cases c with
 | true =>
  have hl:=HR3.out
  clear HR3
  rw [if_yes] at hl
  have HR3:=hid hl
  clear hl
  have hl:=run_tail HR3.out
  clear HR3
  have HR3:=hid hl
  clear hl
  have nc0:=HBn3.out.cell 0;have nf0:=HBn3.out.frozen 0
  have nc1:=HBn3.out.cell 1;have nf1:=HBn3.out.frozen 1
  have nc2:=HBn3.out.cell 2;have nf2:=HBn3.out.frozen 2
  obtain ⟨o4,h4,hr4⟩:=bind_run HR3.out
  have hcall:=HPK.out t.2 (FrS S (W.heap.size + 2) w3) w3 j1 o4 a c HXn3.out (oldS_frs HOS.out (by have:=HS3.out;omega) (fun k hk=>HNP.out k (by omega))) HP3.out h4
  have HC:=hid hcall;have HR4:=hid hr4
  clear hcall h4 hr4 HR3 HP3
  unfold pB at HC
  try unfold methV at HC
  go_wp2_with fail
  ((with_reducible refine HC.out.mono ?_);rintro e w4 ⟨hk,hm⟩)
  clear HC
  rcases o4 with ⟨r4,x4⟩ | ⟨r4⟩
  rotate_left
  ·obtain ⟨j,hj,hd,rfl⟩:=hm
   obtain rfl : o = .bad r4:=(Option.some.inj HR4.out).symm
   exact ⟨rfl,Kp.tr HK3.out hk,j,hj,hd,rfl⟩
  obtain ⟨v4,j4,rfl,hp,rfl,hR⟩:=hm
  have HK4:=hid (Kp.tr HK3.out hk)
  have HS4:=hid (show (W.heap.size + 2) ≤ w4.heap.size from Nat.le_trans HS3.out (hk).size)
  have HBr4:=hid (Kp.blk' (n:=W.heap.size) HBr3.out hk HNP.out (Nat.le_succ _))
  have HBn4:=hid (Kp.blk' (n:=W.heap.size) HBn3.out hk HNP.out HLn.out)
  have HXn4:=hid (kidsS_kp HXn3.out hk (fun k hk=>HNP.out k (by omega)) HOS.out (by have:=HS3.out;omega))
  have HP4:=hid hp
  obtain ⟨ay,cy,rfl,hx⟩:=kids_newSS (n:=(W.heap.size + 2)) hR HS3.out hk.size
  have HXy4:=hid hx
  clear hk hp hR hx
  have hl:=HR4.out
  clear HR4
  dsimp only at hl
  have HR4:=hid hl
  clear hl
  clear HK3 HS3 HBr3 HBn3 HXn3
  obtain rfl : o = .ok (E.l.drop j4) x4:=(Option.some.inj HR4.out).symm
  have hfin:=fin_nodeS hE H00.out HOS.out HP4.out HK4.out (Nat.le_succ _) HBr4.out HXy4.out
  have rc0:=HBr4.out.cell 0;have rf0:=HBr4.out.frozen 0
  have rc1:=HBr4.out.cell 1;have rf1:=HBr4.out.frozen 1
  have rc2:=HBr4.out.cell 2;have rf2:=HBr4.out.frozen 2
  have g0:=hfin.1.cell 0;have g1:=hfin.1.cell 1;have g2:=hfin.1.cell 2
  have HF:=hid hfin.2
  skip
  clear hfin
  go_wp2_with fail
  refine bodyPost_ret (v:=.agg (nV x4 ay cy)) (by simp [results,Tryz.results189,go_sem,g0,g1,g2]) rfl ?_
  exact HF.out
 | false =>
  have hl:=HR3.out
  clear HR3
  rw [if_no] at hl
  have HR3:=hid hl
  clear hl
  go_upto_region 4 with fail
  have hb:=(Below.refl w3.heap.size w3).drew
  have HK4:=hid (Kp.sb HK3.out hb)
  have HS4:=hid (show (W.heap.size + 2) ≤ w3.drew.heap.size from Nat.le_trans HS3.out (hb).size)
  have HBr4:=hid (HBr3.out.own hb)
  have HBn4:=hid (HBn3.out.own hb)
  have HXn4:=hid (kidsS_below HXn3.out hb HOS.out (by have:=HS3.out;omega))
  have HP4:=hid (HP3.out.next hb)
  have HR4:=HR3
  clear HK3 HS3 HBr3 HBn3 HXn3
  clear hb HP3 HR3
  have hS0 : C3 W.heap.size (.int .i64 x.k) (.string x.t) (.slice a x.kids.len c) w3.drew:=C3.of HBn4.out
  have hnen : (W.heap.size + 1) ≠ W.heap.size:=by have:=HNEn.out;omega
  obtain ⟨o5,h5,hr5⟩:=bind_run HR4.out
  have hcall:=Tl.at hqx HP4.out h5
  have HC:=hid hcall;have HR5:=hid hr5
  clear hcall h5 hr5 HR4 HP4
  unfold pB at HC
  try unfold methV at HC
  go_region_held (fun u=>C3 W.heap.size (.int .i64 x.k) (.string x.t) (.slice a x.kids.len c) u)
   (first | assumption | exact C3.alloc (by assumption) _ | exact C3.set (by assumption) hnen _ _ _)
   (first
    | (go_at_call 79;(with_reducible refine HC.out.mono ?_);rintro e w5 ⟨hk,hm⟩;clear HC;rcases o5 with ⟨r5,x5⟩ | ⟨r5⟩;rotate_left;(obtain ⟨j,hj,hd,rfl⟩:=hm;obtain rfl : o = .bad r5:=(Option.some.inj HR5.out).symm;exact ⟨rfl,Kp.tr HK4.out hk,j,hj,hd,rfl⟩);obtain ⟨v5,j5,rfl,hp,rfl,hR⟩:=hm;have HK5:=hid (Kp.tr HK4.out hk);have HS5:=hid (show (W.heap.size + 2) ≤ w5.heap.size from Nat.le_trans HS4.out (hk).size);have HBr5:=hid (Kp.blk' (n:=W.heap.size) HBr4.out hk HNP.out (Nat.le_succ _));have HBn5:=hid (Kp.blk' (n:=W.heap.size) HBn4.out hk HNP.out HLn.out);have HXn5:=hid (kidsS_kp HXn4.out hk (fun k hk=>HNP.out k (by omega)) HOS.out (by have:=HS4.out;omega));have HP5:=hid hp;obtain ⟨ay,cy,rfl,hx⟩:=kids_new (n:=(W.heap.size + 2)) hR HS4.out;have HXy5:=hid hx;clear hk hp hR hx;have hl:=HR5.out;clear HR5;dsimp only at hl;have HR5:=hid hl;clear hl;clear HK4 HS4 HBr4 HBn4 HXn4;have hS5 : C3 W.heap.size (.int .i64 x.k) (.string x.t) (.slice a x.kids.len c) w5:=C3.of HBn5.out)
    | (go_at_call 85;(with_reducible refine (node_calls _ _ _ _ _ _).mono ?_);rintro e w6 ⟨rfl,hbn⟩;have hrow:=Blk.new w5 32 #[.int .i64 x.k,.string x.t,.slice a x.kids.len c,.int .i64 x5.k,.string x5.t,.slice ay x5.kids.len cy];have hba : Below w5.heap.size w5 (w5.alloc (.cells #[.int .i64 x.k,.string x.t,.slice a x.kids.len c,.int .i64 x5.k,.string x5.t,.slice ay x5.kids.len cy] 32)):=(Below.refl _ _).alloc (Nat.le_refl _) _;have hb:=hba.trans (hbn.mono hba.size);have hrw:=hrow.own hbn;have HK6:=hid (Kp.sb HK5.out hb);have HS6:=hid (show (W.heap.size + 2) ≤ w6.heap.size from Nat.le_trans HS5.out (hb).size);have HBr6:=hid (HBr5.out.own hb);have HBn6:=hid (HBn5.out.own hb);have HXn6:=hid (kidsS_below HXn5.out hb HOS.out (by have:=HS5.out;omega));have HXy6:=hid (kids_below HXy5.out hb);have HP6:=hid (HP5.out.next hb);have hx:=rowS2 HXn6.out (kidsS_fr (S:=S) HXy6.out) hrw HS5.out;have hS6 : C3 W.heap.size (.int .i64 x.k) (.string x.t) (.slice a x.kids.len c) w6:=C3.of HBn6.out;have rc0:=HBr6.out.cell 0;have rf0:=HBr6.out.frozen 0;have rc1:=HBr6.out.cell 1;have rf1:=HBr6.out.frozen 1;have rc2:=HBr6.out.cell 2;have rf2:=HBr6.out.frozen 2))
  have hfin:=fin_nodeS hE (x:=(mk 22 eB [x,x5])) H00.out HOS.out HP6.out HK6.out (Nat.le_succ _) HBr6.out hx
  obtain rfl : o = .ok (E.l.drop j5) (mk 22 eB [x,x5]):=(Option.some.inj HR5.out).symm
  have g0:=hfin.1.cell 0;have g1:=hfin.1.cell 1;have g2:=hfin.1.cell 2
  have HF:=hid hfin.2
  simp only [mk,Fo.ofL,Fo.len] at g0 g1 g2
  clear hfin
  go_wp2_with fail
  refine bodyPost_ret (v:=.agg (nV (mk 22 eB [x,x5]) (some ⟨w5.heap.size,0,none⟩) 2)) (by simp [results,Tryz.results189,go_sem,g0,g1,g2,mk,Fo.ofL,Fo.len]) rfl ?_
  exact HF.out
end Go.Proofs.YtlklhkkjcfmefaaGreatDoor.pa
namespace Go.Proofs.YtlklhkkjcfmefaaGreatDoor.pa
open Go.Lib (hid)
open Go.RowKit nd pr sx ed
theorem zero_fn (w : World) : (zeroValue 83).run Tryz.prog w = .ok .nilFunc w:=by kernel_rfl
theorem terms_keys (B : Nat) : ∀ p ∈ termsL B,KeyT p.1:=by
 intro p hp
 unfold termsL at hp
 simp only [List.mem_cons,List.not_mem_nil,or_false] at hp
 rcases hp with rfl | rfl | rfl | rfl | rfl | rfl | rfl | rfl | rfl | rfl | rfl | rfl | rfl | rfl | rfl <;> (constructor <;> simp only [] <;> decide)
theorem terms_fn (B : Nat) : ∀ p ∈ termsL B,∃ g,p.2 = methV g B:=by
 intro p hp
 unfold termsL at hp
 simp only [List.mem_cons,List.not_mem_nil,or_false] at hp
 rcases hp with rfl | rfl | rfl | rfl | rfl | rfl | rfl | rfl | rfl | rfl | rfl | rfl | rfl | rfl | rfl <;> exact ⟨_,rfl⟩
theorem sortT_key {t : Tk} (h : FitT t) : KeyT (sortT t):=by
 unfold sortT
 split
 ·exact keyT_of h
 ·exact ⟨by have:=h.kind;simp only;omega,by have:=h.kind;simp only;omega,Nat.zero_le _⟩
theorem terms_look {W : World} {T B : Nat} {l : List (Tk × Value)} (h : MapT W T l) (hl : ∀ p,p ∈ l ↔ p ∈ termsL B) {s : Tk} (ht : KeyT s) :
  ((∀ p ∈ termsL B,p.1 ≠ s) ∧ (Instr.lookup 98 (.map (some T)) (tokV s) true).run Tryz.prog W = .ok (.tuple #[.nilFunc,.bool false]) W) ∨
  ∃ g,(s,methV g B) ∈ termsL B ∧ (Instr.lookup 98 (.map (some T)) (tokV s) true).run Tryz.prog W = .ok (.tuple #[methV g B,.bool true]) W:=by
 rcases h.look (fun p hp=>terms_keys B p ((hl p).1 hp)) ht Tryz.underlying98 (zero_fn _) true with ⟨h1,h2⟩ | ⟨p,h1,h2,h3⟩
 ·exact .inl ⟨fun p hp=>h1 p ((hl p).2 hp),h2⟩
 ·have h1:=(hl p).1 h1
  obtain ⟨g,hg⟩:=terms_fn B p h1
  refine .inr ⟨g,?_,by rw [hg] at h3;exact h3⟩
  rw [← h2,← hg];exact h1
theorem term_pick {E : Env} (hE : EnvOk E) {W : World} (h : TermsAt W E) {s : Tk} (hs : KeyT s) : ∃ (v : Value) (is : Bool),(Instr.lookup 98 (.map (some E.T)) (tokV s) true).run Tryz.prog W = .ok (.tuple #[v,.bool is]) W ∧
  (if is = true then ∃ g,v = methV g E.B ∧ (s,methV g E.B) ∈ termsL E.B else v = .nilFunc ∧ ∀ p ∈ termsL E.B,p.1 ≠ s):=by
 rcases terms_look h hE.tm hs with ⟨h1,h2⟩ | ⟨g,h1,h2⟩
 ·exact ⟨_,false,h2,rfl,h1⟩
 ·exact ⟨_,true,h2,g,rfl,h1⟩
theorem term_tl {E : Env} (hE : EnvOk E) {pT : Pa Nd} (H1 : ∀ t g,FitT t → (sortT t,methV g E.B) ∈ termsL E.B → ∃ q,Tl E q RN g #[pB E] ∧ Enters g ∧ ∀ r o,(∀ x ∈ r,FitT x) → tok r = t → pT.run r = some o → q.run r = some o) (H2 : ∀ r o,FitT (tok r) → (∀ p ∈ termsL E.B,p.1 ≠ sortT (tok r)) → pT.run r = some o → o = .bad r) : Tl E (pT) RN 188 #[pB E]:=by
 intro W i o hp hr
 have HH1:=hid H1;have HH2:=hid H2;clear H1 H2
 have HNP:=hid hp.far;have H00:=hid hp
 obtain ⟨W0,hW0⟩ : ∃ W0,W.alloc (.cells nodeZ 32) = W0:=⟨_,rfl⟩
 have hb0 : Below W.heap.size W W0:=by rw [← hW0];exact (Below.refl _ W).alloc (Nat.le_refl _) _
 have hk0 : Blk W0 W.heap.size 32 nodeZ:=by rw [← hW0];exact Blk.new W _ _
 have hs0 : W.heap.size + 1 ≤ W0.heap.size:=by rw [← hW0];simp
 have HW0:=hid hW0;have HK0:=hid (Kp.of_below (E:=E) hb0);have HP0:=hid (hp.next hb0);have HS0:=hid hs0;have HR0:=hid hr
 have HBr0:=hid hk0
 clear hW0 hb0 hk0 hs0 hp hr
 unfold pB
 go_enter Tryz.func188,Tryz.ntmps188
 go_upto_region 1 with fail
 rw [HW0.out]
 have hfit:=fit_tk hE i
 obtain ⟨t,ht⟩ : ∃ t,tk E i = t:=⟨_,rfl⟩
 have hsk:=sortT_key hfit
 have HNX:=hid (fun W' (hb : Below W0.heap.size W0 W')=>next_calls hE (HP0.out.next hb))
 have hnx:=HNX.out;clear HNX;rw [ht] at hnx hfit hsk;have HNX:=hid hnx;clear hnx
 have HSO:=hid (fun w=>sort_calls t hfit.size w);have HTt:=hid ht;have HFIT:=hid hfit;have HSK:=hid hsk;clear ht hfit hsk
 unfold pB at HNX
 have hb:=(Below.refl W0.heap.size W0).drew
 have HK1:=hid (Kp.sb HK0.out hb)
 have HS1:=hid (show (W.heap.size + 1) ≤ W0.drew.heap.size from Nat.le_trans HS0.out (hb).size)
 have HBr1:=hid (HBr0.out.own hb)
 have HP1:=hid (HP0.out.next hb)
 have HR1:=HR0
 have hnx1:=HNX.out _ hb
 have HNX1:=hid hnx1;clear hnx1
 clear HK0 HS0 HBr0
 clear hb HR0
 have c2 : W0.drew.cell? ⟨E.B,2,none⟩ = some (.map (some E.T)):=HP1.out.blk.cell 2
 go_region_with (first | (go_at_call 80;(with_reducible refine HNX1.out.mono ?_);rintro e w2 ⟨rfl,hb⟩;have HK2:=hid (Kp.sb HK1.out hb);have HS2:=hid (show (W.heap.size + 1) ≤ w2.heap.size from Nat.le_trans HS1.out (hb).size);have HBr2:=hid (HBr1.out.own hb);have HP2:=hid (HP1.out.next hb);have HR2:=HR1;have c2' : w2.cell? ⟨E.B,2,none⟩ = some (.map (some E.T)):=HP2.out.blk.cell 2;clear hb) | (go_at_call 218;(with_reducible refine (HSO.out _).mono ?_);rintro e w3 ⟨rfl,hb⟩;have HK3:=hid (Kp.sb HK2.out hb);have HS3:=hid (show (W.heap.size + 1) ≤ w3.heap.size from Nat.le_trans HS2.out (hb).size);have HBr3:=hid (HBr2.out.own hb);have HP3:=hid (HP2.out.next hb);have HR3:=HR2;have c2'' : w3.cell? ⟨E.B,2,none⟩ = some (.map (some E.T)):=HP3.out.blk.cell 2;obtain ⟨vv,is,hrun,hvv⟩:=term_pick hE HP3.out.terms HSK.out;have HVV:=hid hvv;clear hvv;clear hb))
 all_goals
  clear c2 c2' c2'' hrun HNX HNX1
  cases is with
  | false =>
   have hno:=HVV.out
   rw [if_neg (by decide)] at hno
   obtain ⟨rfl,hno⟩:=hno
   have hob : o = .bad (E.l.drop i):=HH2.out _ o (by rw [show tok (E.l.drop i) = t from HTt.out];exact HFIT.out) (by rw [show tok (E.l.drop i) = t from HTt.out];exact hno) HR3.out
   have hf:=fail_calls HP3.out
   unfold pB at hf
   have HF:=hid hf;have HOB:=hid hob;clear hf hob hno HVV
   go_wp2_with fail
   ((with_reducible refine HF.out.mono ?_);rintro e w4 ⟨rfl,hb⟩)
   rw [HOB.out]
   exact ⟨rfl,Kp.sb HK3.out hb,i,HP3.out.le,rfl,rfl⟩
  | true =>
   have hno:=HVV.out
   rw [if_pos rfl] at hno
   obtain ⟨gg,rfl,hmem⟩:=hno
   obtain ⟨q,hq,hen,hsub⟩:=HH1.out t gg HFIT.out hmem
   have hl:=run_tail (hsub _ _ (fun x hx=>hE.fit x (List.mem_of_mem_drop hx)) (show tok (E.l.drop i) = t from HTt.out) HR3.out)
   clear HR3
   have HR3:=hid hl
   clear hl hsub hmem HVV
   unfold methV
   obtain ⟨o4,h4,hr4⟩:=bind_run HR3.out
   have hcall:=Tl.at hq HP3.out h4
   have HC:=hid hcall;have HR4:=hid hr4
   clear hcall h4 hr4 HR3 HP3
   unfold pB at HC
   try unfold methV at HC
   go_wp2_with fail
   ((with_reducible refine HC.out.mono ?_);rintro e w4 ⟨hk,hm⟩)
   clear HC
   rcases o4 with ⟨r4,x4⟩ | ⟨r4⟩
   rotate_left
   ·obtain ⟨j,hj,hd,rfl⟩:=hm
    obtain rfl : o = .bad r4:=(Option.some.inj HR4.out).symm
    exact ⟨rfl,Kp.tr HK3.out hk,j,hj,hd,rfl⟩
   obtain ⟨v4,j4,rfl,hp,rfl,hR⟩:=hm
   have HK4:=hid (Kp.tr HK3.out hk)
   have HS4:=hid (show (W.heap.size + 1) ≤ w4.heap.size from Nat.le_trans HS3.out (hk).size)
   have HBr4:=hid (Kp.blk' (n:=W.heap.size) HBr3.out hk HNP.out (Nat.le_refl _))
   have HP4:=hid hp
   obtain ⟨ax,cx,rfl,hx⟩:=kids_new (n:=(W.heap.size + 1)) hR HS3.out
   have HXx4:=hid hx
   clear hk hp hR hx
   have hl:=HR4.out
   clear HR4
   dsimp only at hl
   have HR4:=hid hl
   clear hl
   clear HK3 HS3 HBr3
   obtain rfl : o = .ok (E.l.drop j4) x4:=(Option.some.inj HR4.out).symm
   have hfin:=fin_node hE H00.out HP4.out HK4.out (Nat.le_refl _) HBr4.out HXx4.out
   have rc0:=HBr4.out.cell 0;have rf0:=HBr4.out.frozen 0
   have rc1:=HBr4.out.cell 1;have rf1:=HBr4.out.frozen 1
   have rc2:=HBr4.out.cell 2;have rf2:=HBr4.out.frozen 2
   have g0:=hfin.1.cell 0;have g1:=hfin.1.cell 1;have g2:=hfin.1.cell 2
   have HF:=hid hfin.2
   skip
   clear hfin
   go_wp2_with fail
   refine bodyPost_ret (v:=.agg (nV x4 ax cx)) (by simp [results,Tryz.results188,go_sem,g0,g1,g2]) rfl ?_
   exact HF.out
end Go.Proofs.YtlklhkkjcfmefaaGreatDoor.pa
namespace Go.Proofs.YtlklhkkjcfmefaaGreatDoor.lx
open Go.RowKit
open sg
end Go.Proofs.YtlklhkkjcfmefaaGreatDoor.lx
namespace Go.Proofs.YtlklhkkjcfmefaaGreatDoor.lx
open Go.RowKit
open sg
open Lx (noteR nstep)
end Go.Proofs.YtlklhkkjcfmefaaGreatDoor.lx
namespace Go.Proofs.YtlklhkkjcfmefaaGreatDoor.lx
open Go.RowKit
open sg
end Go.Proofs.YtlklhkkjcfmefaaGreatDoor.lx
namespace Go.Proofs.YtlklhkkjcfmefaaGreatDoor.lx
open Go.RowKit
open sg
open Lx (note marked just outside find)
end Go.Proofs.YtlklhkkjcfmefaaGreatDoor.lx
namespace Go.Proofs.YtlklhkkjcfmefaaGreatDoor.Lx
open Go.RowKit (wrap64)
def brs (y : Lex) : List Int:=((y.below ++ [y.top]).drop 1).map (·.br)
def Up (y : Lex) : Prop:=∀ z ∈ y.below,z.text = true
def popped (y : Lex) : Lex:=⟨y.below.getLastD ⟨false,0⟩,y.below.dropLast⟩
end Go.Proofs.YtlklhkkjcfmefaaGreatDoor.Lx
namespace Go.Proofs.YtlklhkkjcfmefaaGreatDoor.lx
open Lx (find outside brs Up popped tried next turn)
end Go.Proofs.YtlklhkkjcfmefaaGreatDoor.lx
namespace Go.Proofs.YtlklhkkjcfmefaaGreatDoor.lx
open Go.RowKit Go.ChangeShapes Go.WideShapes Go.ChangeAt Go.ChangeMaps
open sg (OpsAt lst_len)
end Go.Proofs.YtlklhkkjcfmefaaGreatDoor.lx
namespace Go.Proofs.YtlklhkkjcfmefaaGreatDoor.lx
open Go.RowKit Go.Shelf
open sg (lst_len extract_drop ext_size)
open sx
end Go.Proofs.YtlklhkkjcfmefaaGreatDoor.lx
namespace Go.Proofs.YtlklhkkjcfmefaaGreatDoor.lx
open Go.RowKit Go.Shelf
open sg (lst_len extract_drop ext_size)
open sx
def OpenAt (W : World) (v : Value) (op : List Int) : Prop :=
 (v = .slice none 0 0 ∧ op = []) ∨ ∃ g cap cur,v = .slice (some ⟨g,0,none⟩) op.length cap ∧ Blk W g 3 cur ∧ op.length ≤ cap ∧ ∀ (j : Nat) x,op[j]? = some x → cur[j]? = some (.int .i64 x)
section
variable {s : ByteArray} {a : Int} {vL vO : Value} {inn : Bool} {e : Int} {op : List Int} {base : Nat} {ts : List Lx.Tok} {W W1 W2 : World}
end
end Go.Proofs.YtlklhkkjcfmefaaGreatDoor.lx
namespace Go.Proofs.YtlklhkkjcfmefaaGreatDoor.lx
open Go.RowKit Go.Shelf
open sg (lst_len extract_drop ext_size)
open sx
end Go.Proofs.YtlklhkkjcfmefaaGreatDoor.lx
namespace Go.Proofs.YtlklhkkjcfmefaaGreatDoor.lx
open Go.RowKit Go.Shelf
open sg (lst_len extract_drop ext_size)
open sx
end Go.Proofs.YtlklhkkjcfmefaaGreatDoor.lx
namespace Go.Proofs.YtlklhkkjcfmefaaGreatDoor.lx
open Go.RowKit Go.Shelf
open sg (lst_len extract_drop ext_size)
open sx
end Go.Proofs.YtlklhkkjcfmefaaGreatDoor.lx
namespace Go.Proofs.YtlklhkkjcfmefaaGreatDoor.lx
open Go.RowKit Go.Shelf
open sg (lst_len extract_drop ext_size)
open sx
end Go.Proofs.YtlklhkkjcfmefaaGreatDoor.lx
namespace Go.Proofs.YtlklhkkjcfmefaaGreatDoor.lx
open Go.RowKit Go.Shelf
open sg (lst_len extract_drop ext_size)
open sx
end Go.Proofs.YtlklhkkjcfmefaaGreatDoor.lx
namespace Go.Proofs.YtlklhkkjcfmefaaGreatDoor.lx
open Go.RowKit Go.Shelf
open sg (lst_len extract_drop ext_size)
open sx
end Go.Proofs.YtlklhkkjcfmefaaGreatDoor.lx
namespace Go.Proofs.YtlklhkkjcfmefaaGreatDoor.lx
open Go.RowKit Go.Shelf
open sg (lst_len extract_drop ext_size)
open Lx (brs Up popped next turn)
open sx
structure Good (y : Lx.Lex) (a : Nat) : Prop where
 up : Up y
 deep : y.below.length ≤ 256
 br : ∀ z ∈ y.below ++ [y.top],-(a : Int) ≤ z.br ∧ z.br ≤ (a : Int)
section
variable (s : ByteArray) (a : Nat) (vL vO : Value) (y : Lx.Lex) (base : Nat) (ts : List Lx.Tok) (W : World)
 (hown : W.ownsRow base 49 2 vL ts.length (tokCells ts)) (hbase : base ≤ W.heap.size) (hts : ts.length ≤ 65536) (hop : OpenAt W vO (brs y)) (hs : s.size ≤ 65536) (ha : a < s.size) (hg : Good y a)
include hown hbase hts hop hs ha hg
end
end Go.Proofs.YtlklhkkjcfmefaaGreatDoor.lx
namespace Go.Proofs.YtlklhkkjcfmefaaGreatDoor.lx
open Go.RowKit Go.Shelf
open sg (lst_len extract_drop ext_size)
open Lx (brs Up popped next turn)
open sx
end Go.Proofs.YtlklhkkjcfmefaaGreatDoor.lx
namespace Go.Proofs.YtlklhkkjcfmefaaGreatDoor.lx
open Go.RowKit Go.Shelf
open sg (lst_len OpsAt)
end Go.Proofs.YtlklhkkjcfmefaaGreatDoor.lx
namespace Go.Proofs.YtlklhkkjcfmefaaGreatDoor.lx
open Go.RowKit Go.ChangeShapes Go.WideShapes Go.ChangeAt Go.ChangeMaps Go.Deep
instance : Inhabited Tk:=⟨(0,⟨#[]⟩)⟩
end Go.Proofs.YtlklhkkjcfmefaaGreatDoor.lx
namespace Go.Proofs.YtlklhkkjcfmefaaGreatDoor.lx
open Go.RowKit Go.ChangeShapes Go.WideShapes Go.ChangeAt Go.ChangeMaps Go.Deep
end Go.Proofs.YtlklhkkjcfmefaaGreatDoor.lx
