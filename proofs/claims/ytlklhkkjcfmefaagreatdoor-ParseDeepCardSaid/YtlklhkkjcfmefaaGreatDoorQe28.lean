/- Ground of the law: PaP23, PaP22, PaP13, LxRight, LxMath2. -/
import Derived.Test.YtlklhkkjcfmefaaGreatDoorQe26
import Derived.Test.YtlklhkkjcfmefaaGreatDoorQe18
import Derived.Test.YtlklhkkjcfmefaaGreatDoorQe09
import Derived.Test.YtlklhkkjcfmefaaGreatDoorQe01
set_option maxRecDepth 100000
set_option maxHeartbeats 8000000
set_option linter.unusedVariables false
set_option linter.unusedSimpArgs false
namespace Go.Proofs.YtlklhkkjcfmefaaGreatDoor.pa
open Go.Lib (hid)
open Go.RowKit nd pr sx ed
def sortT (t : Tk) : Tk:=if t.1 = 13 ∨ (t.1 = 3 ∧ Sg.key t.2.data.toList = true) then t else (t.1,eB)
theorem sort_calls (t : Tk) (hs : t.2.size ≤ 1000000) (W : World) : Calls Tryz.prog 218 #[tokV t] W fun e w'=>e = .returned (tokV (sortT t)) ∧ Below W.heap.size W w':=by
 obtain ⟨k,s⟩:=t
 have HK:=hid (fun w=>sg.key_calls s (by simp only at hs;omega) w)
 obtain ⟨W0,hW0⟩ : ∃ W0,(W.alloc (.cells #[.int .i64 k,.string s] 49)).alloc (.cells #[.int .i64 0,.string ⟨#[]⟩] 49) = W0:=⟨_,rfl⟩
 have hb0 : Below W.heap.size W W0:=by rw [← hW0];exact ((Below.refl _ W).alloc (Nat.le_refl _) _).alloc (by simp) _
 have hk1 : Blk W0 W.heap.size 49 #[.int .i64 k,.string s]:=by rw [← hW0];exact (Blk.new W _ _).alloc _
 have hk2 : Blk W0 (W.heap.size + 1) 49 #[.int .i64 0,.string ⟨#[]⟩]:=by
  rw [← hW0];simpa using Blk.new (W.alloc (.cells #[.int .i64 k,.string s] 49)) 49 #[.int .i64 0,.string ⟨#[]⟩]
 have hfin : ∀ w1,Below W0.heap.size W0 w1 → ∀ x y,Blk ((w1.setCell ⟨W.heap.size + 1,0,none⟩ x).setCell ⟨W.heap.size + 1,1,none⟩ y) (W.heap.size + 1) 49 #[x,y] ∧ Below W.heap.size W ((w1.setCell ⟨W.heap.size + 1,0,none⟩ x).setCell ⟨W.heap.size + 1,1,none⟩ y):=fun w1 hb x y =>
  ⟨((hk2.own hb).set (o:=0) x).set (o:=1) y,((hb0.trans (hb.mono hb0.size)).setCell (p:=⟨W.heap.size + 1,0,none⟩) (by simp) x).setCell (p:=⟨W.heap.size + 1,1,none⟩) (by simp) y⟩
 have HW0:=hid hW0;have HFIN:=hid hfin;have HK1:=hid hk1;have HK2:=hid hk2
 have a0:=hk1.cell 0;have a1:=hk1.cell 1
 clear hW0 hfin hb0
 unfold tokV
 by_cases h13 : k = 13
 ·subst h13
  have b0 : W0.cell? ⟨W.heap.size + 1,0,none⟩ = some (.int .i64 0):=hk2.cell 0
  have b1 : W0.cell? ⟨W.heap.size + 1,1,none⟩ = some (.string ⟨#[]⟩):=hk2.cell 1
  have f0:=hk2.frozen 0;have f1:=hk2.frozen 1
  obtain ⟨q,gb⟩:=HFIN.out W0 (Below.refl _ _) (.int .i64 13) (.string s)
  have g0:=q.cell 0;have g1:=q.cell 1
  have GB:=hid gb
  clear hk1 hk2 q gb
  go_enter Tryz.func218,Tryz.ntmps218
  go_upto_region 1 with fail
  rw [HW0.out]
  go_wp2_with fail
  refine bodyPost_ret (v:=.agg #[.int .i64 13,.string s]) (by simp [results,Tryz.results218,go_sem,g0,g1]) rfl ?_
  exact ⟨by simp [sortT],GB.out⟩
 ·have p1 : (k == 13) = false:=by rw [beq_eq_false_iff_ne];exact h13
  have H13:=hid h13
  clear h13
  by_cases h3 : k = 3
  ·subst h3
   obtain ⟨q,hq⟩ : ∃ q,Sg.key s.data.toList = q:=⟨_,rfl⟩
   rw [hq] at HK
   have HQ:=hid hq
   clear hq hk1 hk2
   go_enter Tryz.func218,Tryz.ntmps218
   go_upto_region 1 with fail
   rw [HW0.out]
   go_wp2_with fail
   ((with_reducible refine (HK.out _).mono ?_);rintro e w1 ⟨rfl,hb1⟩)
   have a0:=(HK1.out.own hb1).cell 0;have a1:=(HK1.out.own hb1).cell 1
   have b0 : w1.cell? ⟨W.heap.size + 1,0,none⟩ = some (.int .i64 0):=(HK2.out.own hb1).cell 0
   have b1 : w1.cell? ⟨W.heap.size + 1,1,none⟩ = some (.string ⟨#[]⟩):=(HK2.out.own hb1).cell 1
   have f0:=(HK2.out.own hb1).frozen 0;have f1:=(HK2.out.own hb1).frozen 1
   cases q with
   | true =>
    obtain ⟨q,gb⟩:=HFIN.out w1 hb1 (.int .i64 3) (.string s)
    have g0:=q.cell 0;have g1:=q.cell 1
    have GB:=hid gb
    clear q gb hb1
    go_wp2_with fail
    refine bodyPost_ret (v:=.agg #[.int .i64 3,.string s]) (by simp [results,Tryz.results218,go_sem,g0,g1]) rfl ?_
    exact ⟨by simp [sortT,HQ.out],GB.out⟩
   | false =>
    obtain ⟨q,gb⟩:=HFIN.out w1 hb1 (.int .i64 3) (.string ⟨#[]⟩)
    have g0:=q.cell 0;have g1:=q.cell 1
    have GB:=hid gb
    clear q gb hb1
    go_wp2_with fail
    refine bodyPost_ret (v:=.agg #[.int .i64 3,.string ⟨#[]⟩]) (by simp [results,Tryz.results218,go_sem,g0,g1]) rfl ?_
    exact ⟨by simp [sortT,HQ.out],GB.out⟩
  ·have p2 : (k == 3) = false:=by rw [beq_eq_false_iff_ne];exact h3
   have b0 : W0.cell? ⟨W.heap.size + 1,0,none⟩ = some (.int .i64 0):=hk2.cell 0
   have b1 : W0.cell? ⟨W.heap.size + 1,1,none⟩ = some (.string ⟨#[]⟩):=hk2.cell 1
   have f0:=hk2.frozen 0;have f1:=hk2.frozen 1
   obtain ⟨q,gb⟩:=HFIN.out W0 (Below.refl _ _) (.int .i64 k) (.string ⟨#[]⟩)
   have g0:=q.cell 0;have g1:=q.cell 1
   have GB:=hid gb;have H3:=hid h3
   clear hk1 hk2 q gb h3
   go_enter Tryz.func218,Tryz.ntmps218
   go_upto_region 1 with fail
   rw [HW0.out]
   go_wp2_with fail
   refine bodyPost_ret (v:=.agg #[.int .i64 k,.string ⟨#[]⟩]) (by simp [results,Tryz.results218,go_sem,g0,g1]) rfl ?_
   exact ⟨by simp [sortT,H13.out,H3.out],GB.out⟩
theorem operBox {w w1 : World} {a b c : Value} (hb : Below (w.alloc (.cells #[a,b,c] 160)).heap.size (w.alloc (.cells #[a,b,c] 160)) w1) (x y z : Value) :
  Blk (((w1.setCell ⟨w.heap.size,0,none⟩ x).setCell ⟨w.heap.size,1,none⟩ y).setCell ⟨w.heap.size,2,none⟩ z) w.heap.size 160 #[x,y,z] ∧ Below w.heap.size w (((w1.setCell ⟨w.heap.size,0,none⟩ x).setCell ⟨w.heap.size,1,none⟩ y).setCell ⟨w.heap.size,2,none⟩ z):=by
 have h1 : Blk w1 w.heap.size 160 #[a,b,c]:=(Blk.new w _ #[a,b,c]).own hb
 exact ⟨set3b h1 x y z,(((Below.refl _ w).alloc (Nat.le_refl _) _).trans (hb.mono (by simp))).trans (set3o x y z (Nat.le_refl _))⟩
theorem operOf_calls (s : ByteArray) (hs : s.size ≤ maxLen) (W : World) (hL : LvAt W) : Calls Tryz.prog 216 #[.string s] W fun e w'=>e = .returned (operV s) ∧ Below W.heap.size W w':=by
 have hb0 : Below W.heap.size W (W.alloc (.cells #[.int .i64 0,.int .i64 0,.int .i64 0] 160)):=(Below.refl _ W).alloc (Nat.le_refl _) _
 have hq0:=Blk.new W 160 #[.int .i64 0,.int .i64 0,.int .i64 0]
 obtain ⟨W0,hW0⟩ : ∃ W0,W.alloc (.cells #[.int .i64 0,.int .i64 0,.int .i64 0] 160) = W0:=⟨_,rfl⟩
 have hbx:=fun w1 hb x y z=>operBox (w:=W) (w1:=w1) (a:=.int .i64 0) (b:=.int .i64 0) (c:=.int .i64 0) hb x y z
 rw [hW0] at hb0 hq0 hbx
 have HW0:=hid hW0;have HBX:=hid hbx;have HQ0:=hid hq0;have HB0:=hid hb0
 have HL:=hid (fun w (hb : Below W0.heap.size W0 w)=>(hL.own hb0).own hb)
 clear hW0 hbx
 by_cases h0 : s.size = 0
 ·obtain rfl : s = ⟨#[]⟩:=by
   have hl : s.data.toList = []:=List.length_eq_zero_iff.1 (by rw [sg.lst_len];exact h0)
   cases s;simp at hl;subst hl;rfl
  have f0:=hq0.frozen 0;have f1:=hq0.frozen 1;have f2:=hq0.frozen 2
  have b0 : W0.cell? ⟨W.heap.size,0,none⟩ = some (.int .i64 0):=hq0.cell 0
  have b1 : W0.cell? ⟨W.heap.size,1,none⟩ = some (.int .i64 0):=hq0.cell 1
  have b2 : W0.cell? ⟨W.heap.size,2,none⟩ = some (.int .i64 0):=hq0.cell 2
  obtain ⟨q,gb⟩:=HBX.out W0 (Below.refl _ _) (.int .i64 0) (.int .i64 0) (.int .i64 0)
  have g0:=q.cell 0;have g1:=q.cell 1;have g2:=q.cell 2
  have GB:=hid gb
  clear hq0 hb0 q gb h0
  go_enter Tryz.func216,Tryz.ntmps216
  go_upto_region 1 with fail
  rw [HW0.out]
  go_wp2_with fail
  refine bodyPost_ret (v:=.agg #[.int .i64 0,.int .i64 0,.int .i64 0]) (by simp [results,Tryz.results216,go_sem,g0,g1,g2]) rfl ?_
  exact ⟨rfl,GB.out⟩
 ·have hne : s.toList.isEmpty = false:=by
   rw [sg.isEmpty_data]
   cases hl : s.data.toList with
   | nil=>rw [← sg.lst_len,hl] at h0;exact absurd rfl h0
   | cons a r=>rfl
  have hop : operV s = .agg #[.int .i64 (levelOf s),.int .i64 (besideOf s 2),.int .i64 (barredOf s)]:=by unfold operV;rw [if_neg h0]
  have hbar : barredOf s = if sideOf s = 0 then levelOf s else 0:=rfl
  have H1:=hid (fun w (hb : Below W0.heap.size W0 w)=>level_calls s hs w (HL.out w hb))
  have H2:=hid (fun w (hb : Below W0.heap.size W0 w)=>right_calls s hs w (HL.out w hb))
  have H3:=hid (fun w (hb : Below W0.heap.size W0 w)=>side_calls s hs w (HL.out w hb))
  obtain ⟨a,ha⟩ : ∃ a,levelOf s = a:=⟨_,rfl⟩
  obtain ⟨b,hb⟩ : ∃ b,besideOf s 2 = b:=⟨_,rfl⟩
  obtain ⟨d,hd⟩ : ∃ d,sideOf s = d:=⟨_,rfl⟩
  rw [ha,hb] at hop;rw [ha,hd] at hbar;rw [ha] at H1;rw [hb] at H2;rw [hd] at H3
  have HOP:=hid hop;have HBAR:=hid hbar
  clear hop hbar ha hb hd hq0 hb0 h0
  by_cases hz : d = 0
  ·have z1 : (d == 0) = true:=by rw [beq_iff_eq];exact hz
   have hz':=HBAR.out
   rw [if_pos hz] at hz'
   have HZ:=hid hz'
   clear hz hz'
   go_enter Tryz.func216,Tryz.ntmps216
   go_upto_region 1 with fail
   rw [HW0.out]
   go_wp2_with fail
   ((with_reducible refine (H1.out _ (Below.refl _ _)).mono ?_);rintro e w1 ⟨rfl,hb1⟩)
   have HB1:=hid hb1
   clear hb1
   go_wp2_with fail
   ((with_reducible refine (H2.out _ HB1.out).mono ?_);rintro e w2 ⟨rfl,hb2⟩)
   have HB2:=hid (HB1.out.trans (hb2.mono HB1.out.size))
   clear hb2
   go_upto_region 4 with fail
   obtain ⟨w3,hw3⟩ : ∃ w',w2.alloc (.cells #[.int .i64 a,.int .i64 b,.int .i64 0] 160) = w':=⟨_,rfl⟩
   rw [hw3]
   have hb3 : Below w2.heap.size w2 w3:=by rw [← hw3];exact (Below.refl _ _).alloc (Nat.le_refl _) _
   have hx3 : Blk w3 w2.heap.size 160 #[.int .i64 a,.int .i64 b,.int .i64 0]:=by rw [← hw3];exact Blk.new _ _ _
   have HB3:=hid (HB2.out.trans (hb3.mono HB2.out.size));have HX3:=hid hx3
   clear hb3 hx3 hw3
   go_wp2_with fail
   ((with_reducible refine (H3.out _ HB3.out).mono ?_);rintro e w4 ⟨rfl,hb4⟩)
   have hx4:=HX3.out.own hb4
   have HB4:=hid (HB3.out.trans (hb4.mono HB3.out.size))
   have c0:=hx4.cell 0;have c1:=hx4.cell 1;have c2:=hx4.cell 2;have d2:=hx4.frozen 2
   have hlt : W.heap.size < w2.heap.size:=Nat.lt_of_lt_of_le (HQ0.out.lt) HB2.out.size
   have hs5 : Blk (w4.setCell ⟨w2.heap.size,2,none⟩ (.int .i64 a)) w2.heap.size 160 #[.int .i64 a,.int .i64 b,.int .i64 a]:=hx4.set (o:=2) (.int .i64 a)
   have e0:=hs5.cell 0;have e1:=hs5.cell 1;have e2:=hs5.cell 2
   have hb5 : Below W0.heap.size W0 (w4.setCell ⟨w2.heap.size,2,none⟩ (.int .i64 a)):=HB4.out.setCell (p:=⟨w2.heap.size,2,none⟩) HB2.out.size _
   have hr5:=HQ0.out.own hb5
   have f0:=hr5.frozen 0;have f1:=hr5.frozen 1;have f2:=hr5.frozen 2
   have b0 : (w4.setCell ⟨w2.heap.size,2,none⟩ (.int .i64 a)).cell? ⟨W.heap.size,0,none⟩ = some (.int .i64 0):=hr5.cell 0
   have b1 : (w4.setCell ⟨w2.heap.size,2,none⟩ (.int .i64 a)).cell? ⟨W.heap.size,1,none⟩ = some (.int .i64 0):=hr5.cell 1
   have b2 : (w4.setCell ⟨w2.heap.size,2,none⟩ (.int .i64 a)).cell? ⟨W.heap.size,2,none⟩ = some (.int .i64 0):=hr5.cell 2
   obtain ⟨q,gb⟩:=HBX.out _ hb5 (.int .i64 a) (.int .i64 b) (.int .i64 a)
   have g0:=q.cell 0;have g1:=q.cell 1;have g2:=q.cell 2
   have GB:=hid gb
   clear q gb hb5 hr5 hs5 hx4 hb4
   go_wp2_with fail
   refine bodyPost_ret (v:=.agg #[.int .i64 a,.int .i64 b,.int .i64 a]) (by simp [results,Tryz.results216,go_sem,g0,g1,g2]) rfl ?_
   exact ⟨by rw [HOP.out,HZ.out],GB.out⟩
  ·have z1 : (d == 0) = false:=by rw [beq_eq_false_iff_ne];exact hz
   have hz':=HBAR.out
   rw [if_neg hz] at hz'
   have HZ:=hid hz'
   clear hz hz'
   go_enter Tryz.func216,Tryz.ntmps216
   go_upto_region 1 with fail
   rw [HW0.out]
   go_wp2_with fail
   ((with_reducible refine (H1.out _ (Below.refl _ _)).mono ?_);rintro e w1 ⟨rfl,hb1⟩)
   have HB1:=hid hb1
   clear hb1
   go_wp2_with fail
   ((with_reducible refine (H2.out _ HB1.out).mono ?_);rintro e w2 ⟨rfl,hb2⟩)
   have HB2:=hid (HB1.out.trans (hb2.mono HB1.out.size))
   clear hb2
   go_upto_region 4 with fail
   obtain ⟨w3,hw3⟩ : ∃ w',w2.alloc (.cells #[.int .i64 a,.int .i64 b,.int .i64 0] 160) = w':=⟨_,rfl⟩
   rw [hw3]
   have hb3 : Below w2.heap.size w2 w3:=by rw [← hw3];exact (Below.refl _ _).alloc (Nat.le_refl _) _
   have hx3 : Blk w3 w2.heap.size 160 #[.int .i64 a,.int .i64 b,.int .i64 0]:=by rw [← hw3];exact Blk.new _ _ _
   have HB3:=hid (HB2.out.trans (hb3.mono HB2.out.size));have HX3:=hid hx3
   clear hb3 hx3 hw3
   go_wp2_with fail
   ((with_reducible refine (H3.out _ HB3.out).mono ?_);rintro e w4 ⟨rfl,hb4⟩)
   have hx4:=HX3.out.own hb4
   have HB4:=hid (HB3.out.trans (hb4.mono HB3.out.size))
   have c0:=hx4.cell 0;have c1:=hx4.cell 1;have c2:=hx4.cell 2
   have hr5:=HQ0.out.own HB4.out
   have f0:=hr5.frozen 0;have f1:=hr5.frozen 1;have f2:=hr5.frozen 2
   have b0 : w4.cell? ⟨W.heap.size,0,none⟩ = some (.int .i64 0):=hr5.cell 0
   have b1 : w4.cell? ⟨W.heap.size,1,none⟩ = some (.int .i64 0):=hr5.cell 1
   have b2 : w4.cell? ⟨W.heap.size,2,none⟩ = some (.int .i64 0):=hr5.cell 2
   obtain ⟨q,gb⟩:=HBX.out _ HB4.out (.int .i64 a) (.int .i64 b) (.int .i64 0)
   have g0:=q.cell 0;have g1:=q.cell 1;have g2:=q.cell 2
   have GB:=hid gb
   clear q gb hr5 hx4 hb4
   go_wp2_with fail
   refine bodyPost_ret (v:=.agg #[.int .i64 a,.int .i64 b,.int .i64 0]) (by simp [results,Tryz.results216,go_sem,g0,g1,g2]) rfl ?_
   exact ⟨by rw [HOP.out,HZ.out],GB.out⟩
end Go.Proofs.YtlklhkkjcfmefaaGreatDoor.pa
namespace Go.Proofs.YtlklhkkjcfmefaaGreatDoor.pa
open Go.Lib (hid)
open Go.RowKit nd pr sx ed
theorem key_tl {E : Env} (hE : EnvOk E) {qg qx : Pa Nd} (hg : Tl E qg RN 117 #[pB E]) (hx2 : Tl E qx RN 79 #[pB E]) : Tl E (.look fun t=>if (t.1 == 3) = true then .move (.ret (mk 31 t.2 [])) else if (t.1 == 5) = true then (cutP 5).bind (fun s=>.ret (mk 4 s [])) else if op lpar t = true then qg.bind (fun x=>.ret (mk 32 eB [x])) else qx) RN 155 #[pB E]:=by
 intro W i o hp hr
 have hop:=op_calls' lpar
 have HVAL:=hid (value_tl hE)
 unfold tokV at hop
 have HOP:=hid hop;clear hop
 have HNP:=hid hp.far;have H00:=hid hp
 obtain ⟨W0,hW0⟩ : ∃ W0,W.alloc (.cells nodeZ 32) = W0:=⟨_,rfl⟩
 have hb0 : Below W.heap.size W W0:=by rw [← hW0];exact (Below.refl _ W).alloc (Nat.le_refl _) _
 have hk0 : Blk W0 W.heap.size 32 nodeZ:=by rw [← hW0];exact Blk.new W _ _
 have hs0 : W.heap.size + 1 ≤ W0.heap.size:=by rw [← hW0];simp
 have HW0:=hid hW0;have HK0:=hid (Kp.of_below (E:=E) hb0);have HP0:=hid (hp.next hb0);have HS0:=hid hs0;have HR0:=hid hr
 have HBr0:=hid hk0
 clear hW0 hb0 hk0 hs0 hp hr
 unfold pB
 go_enter Tryz.func155,Tryz.ntmps155
 go_upto_region 1 with fail
 rw [HW0.out]
 have hl:=HR0.out
 clear HR0
 rw [run_look] at hl
 obtain ⟨t,ht⟩ : ∃ t,tk E i = t:=⟨_,rfl⟩
 have HNX:=hid (fun W' (hb : Below W0.heap.size W0 W')=>next_calls hE (HP0.out.next hb))
 have hnx:=HNX.out
 clear HNX
 rw [ht] at hnx
 have HNX:=hid hnx
 rw [show tok (E.l.drop i) = t from ht] at hl
 obtain ⟨c,hc⟩ : ∃ c,(t.1 == 3) = c:=⟨_,rfl⟩
 rw [hc] at hl
 have HR0:=hid hl;have HTt:=hid ht;have HCt:=hid hc
 clear hl hnx ht
 have hne0 : t.1 = 3 → t.1 ≠ 0:=fun e=>by rw [e];decide
 have HNE0:=hid hne0;clear hne0
 unfold tokV at HNX
 unfold pB at HNX
 go_wp2_with fail
 ((with_reducible refine (HNX.out _ (Below.refl _ _)).mono ?_);rintro e w1 ⟨rfl,hb⟩)
 have HK1:=hid (Kp.sb HK0.out hb)
 have HS1:=hid (show (W.heap.size + 1) ≤ w1.heap.size from Nat.le_trans HS0.out (hb).size)
 have HBr1:=hid (HBr0.out.own hb)
 have HP1:=hid (HP0.out.next hb)
 have HR1:=HR0
 clear HK0 HS0 HBr0
 clear hb HNX HP0 HR0
 go_upto_region 2 with fail
 obtain ⟨w2,hw⟩ : ∃ w',w1.alloc (.cells #[.int .i64 t.1,.string t.2] 49) = w':=⟨_,rfl⟩
 rw [hw]
 have hb : Below w1.heap.size w1 w2:=by rw [← hw];exact (Below.refl _ _).alloc (Nat.le_refl _) _
 have HBt2:=hid (show Blk w2 w1.heap.size 49 #[.int .i64 t.1,.string t.2] by rw [← hw];exact Blk.new _ _ _)
 have HLt:=hid (show W.heap.size ≤ w1.heap.size by have:=HS1.out;omega)
 have HK2:=hid (Kp.sb HK1.out hb)
 have HS2:=hid (show (W.heap.size + 1) ≤ w2.heap.size from Nat.le_trans HS1.out (hb).size)
 have HBr2:=hid (HBr1.out.own hb)
 have HP2:=hid (HP1.out.next hb)
 have HR2:=HR1
 clear HK1 HS1 HBr1
 clear hb hw HP1 HR1
 have tc0:=HBt2.out.cell 0;have tf0:=HBt2.out.frozen 0
 have tc1:=HBt2.out.cell 1;have tf1:=HBt2.out.frozen 1
 cases c with
 | true =>
  have hl:=HR2.out
  clear HR2
  rw [if_yes] at hl
  have HR2:=hid hl
  clear hl
  have htk:=take_calls hE HP2.out (tok_lt HTt.out (HNE0.out (eq_of_beq HCt.out)))
  rw [HTt.out] at htk
  unfold pB at htk
  have HTK:=hid htk
  clear htk
  go_wp2_with fail
  ((with_reducible refine HTK.out.mono ?_);rintro e w3 ⟨rfl,hk,hp⟩)
  have HK3:=hid (Kp.tr HK2.out hk)
  have HS3:=hid (show (W.heap.size + 1) ≤ w3.heap.size from Nat.le_trans HS2.out (hk).size)
  have HBr3:=hid (Kp.blk' (n:=W.heap.size) HBr2.out hk HNP.out (Nat.le_refl _))
  have HBt3:=hid (Kp.blk' (n:=W.heap.size) HBt2.out hk HNP.out HLt.out)
  have hl:=HR2.out
  obtain ⟨j3,hj⟩ : ∃ n,i + 1 = n:=⟨_,rfl⟩
  rw [hj] at hp
  have HP3:=hid hp
  rw [run_move,hj] at hl
  have HR3:=hid hl
  clear HK2 HS2 HBr2 HBt2
  clear hk hp hj hl HTK HR2 HP2
  go_wp2_with fail
  ((with_reducible refine (node_calls _ _ _ _ _ _).mono ?_);rintro e w4 ⟨rfl,hbn⟩)
  have hb:=hbn
  have HK4:=hid (Kp.sb HK3.out hb)
  have HS4:=hid (show (W.heap.size + 1) ≤ w4.heap.size from Nat.le_trans HS3.out (hb).size)
  have HBr4:=hid (HBr3.out.own hb)
  have HBt4:=hid (HBt3.out.own hb)
  have HP4:=hid (HP3.out.next hb)
  have hx:=kids_nil (Fr (W.heap.size + 1) w4) w4 none 0
  have hfin:=fin_node hE (x:=mk 31 t.2 []) H00.out HP4.out HK4.out (Nat.le_refl _) HBr4.out hx
  obtain rfl : o = .ok (E.l.drop j3) (mk 31 t.2 []):=(Option.some.inj HR3.out).symm
  have rc0:=HBr4.out.cell 0;have rf0:=HBr4.out.frozen 0
  have rc1:=HBr4.out.cell 1;have rf1:=HBr4.out.frozen 1
  have rc2:=HBr4.out.cell 2;have rf2:=HBr4.out.frozen 2
  have g0:=hfin.1.cell 0;have g1:=hfin.1.cell 1;have g2:=hfin.1.cell 2
  have HF:=hid hfin.2
  simp only [mk,Fo.ofL,Fo.len] at g0 g1 g2
  clear hfin
  go_wp2_with fail
  refine bodyPost_ret (v:=.agg (nV (mk 31 t.2 []) none 0)) (by simp [results,Tryz.results155,go_sem,g0,g1,g2,mk,Fo.ofL,Fo.len]) rfl ?_
  exact HF.out
 | false =>
  have hl:=HR2.out
  clear HR2
  rw [if_no] at hl
  have HR2:=hid hl
  clear hl
  obtain ⟨cq5,hcq5⟩ : ∃ c,(t.1 == 5) = c:=⟨_,rfl⟩
  have hl:=HR2.out
  clear HR2
  rw [hcq5] at hl
  have HR2:=hid hl
  have HCq5:=hid hcq5
  clear hl
  cases cq5 with
  | true =>
   have hl:=HR2.out
   clear HR2
   rw [if_yes] at hl
   have HR2:=hid hl
   clear hl
   have hl:=run_tail HR2.out
   clear HR2
   have HR2:=hid hl
   clear hl
   obtain ⟨o3,h3,hr3⟩:=bind_run HR2.out
   have hcall:=Tl.at HVAL.out HP2.out h3
   have HC:=hid hcall;have HR3:=hid hr3
   clear hcall h3 hr3 HR2 HP2
   unfold pB at HC
   try unfold methV at HC
   go_wp2_with fail
   ((with_reducible refine HC.out.mono ?_);rintro e w3 ⟨hk,hm⟩)
   clear HC
   rcases o3 with ⟨r3,x3⟩ | ⟨r3⟩
   rotate_left
   ·obtain ⟨j,hj,hd,rfl⟩:=hm
    obtain rfl : o = .bad r3:=(Option.some.inj HR3.out).symm
    exact ⟨rfl,Kp.tr HK2.out hk,j,hj,hd,rfl⟩
   obtain ⟨v3,j3,rfl,hp,rfl,hR⟩:=hm
   have HK3:=hid (Kp.tr HK2.out hk)
   have HS3:=hid (show (W.heap.size + 1) ≤ w3.heap.size from Nat.le_trans HS2.out (hk).size)
   have HBr3:=hid (Kp.blk' (n:=W.heap.size) HBr2.out hk HNP.out (Nat.le_refl _))
   have HBt3:=hid (Kp.blk' (n:=W.heap.size) HBt2.out hk HNP.out HLt.out)
   have HP3:=hid hp
   obtain ⟨ax,cx,rfl,hx⟩:=kids_new (n:=(W.heap.size + 1)) hR HS2.out
   have HXx3:=hid hx
   clear hk hp hR hx
   have hl:=HR3.out
   clear HR3
   dsimp only at hl
   have HR3:=hid hl
   clear hl
   clear HK2 HS2 HBr2 HBt2
   obtain rfl : o = .ok (E.l.drop j3) x3:=(Option.some.inj HR3.out).symm
   have hfin:=fin_node hE H00.out HP3.out HK3.out (Nat.le_refl _) HBr3.out HXx3.out
   have rc0:=HBr3.out.cell 0;have rf0:=HBr3.out.frozen 0
   have rc1:=HBr3.out.cell 1;have rf1:=HBr3.out.frozen 1
   have rc2:=HBr3.out.cell 2;have rf2:=HBr3.out.frozen 2
   have g0:=hfin.1.cell 0;have g1:=hfin.1.cell 1;have g2:=hfin.1.cell 2
   have HF:=hid hfin.2
   skip
   clear hfin
   go_wp2_with fail
   refine bodyPost_ret (v:=.agg (nV x3 ax cx)) (by simp [results,Tryz.results155,go_sem,g0,g1,g2]) rfl ?_
   exact HF.out
  | false =>
   have hl:=HR2.out
   clear HR2
   rw [if_no] at hl
   have HR2:=hid hl
   clear hl
   obtain ⟨c2,hc2⟩ : ∃ c2,op lpar t = c2:=⟨_,rfl⟩
   have hl:=HR2.out
   clear HR2
   rw [hc2] at hl
   have HR2:=hid hl
   clear hl
   have hv : sameT t.1 t.2 13 lpar = c2:=same_op hc2
   have hq1:=run_same
   clear hc2
   go_upto_region 6 with fail
   have hb:=(Below.refl w2.heap.size w2).drew
   have HK3:=hid (Kp.sb HK2.out hb)
   have HS3:=hid (show (W.heap.size + 1) ≤ w2.drew.heap.size from Nat.le_trans HS2.out (hb).size)
   have HBr3:=hid (HBr2.out.own hb)
   have HBt3:=hid (HBt2.out.own hb)
   have HP3:=hid (HP2.out.next hb)
   have HR3:=HR2
   clear HK2 HS2 HBr2 HBt2
   clear hb HP2 HR2
   clear tc0 tf0 tc1 tf1
   have tc0:=HBt3.out.cell 0;have tf0:=HBt3.out.frozen 0
   have tc1:=HBt3.out.cell 1;have tf1:=HBt3.out.frozen 1
   go_region_with (first | (go_at_call 63;(with_reducible refine (HOP.out _).mono ?_);rintro e w4 ⟨rfl,hb⟩;have HK4:=hid (Kp.sb HK3.out hb);have HS4:=hid (show (W.heap.size + 1) ≤ w4.heap.size from Nat.le_trans HS3.out (hb).size);have HBr4:=hid (HBr3.out.own hb);have HBt4:=hid (HBt3.out.own hb);have HP4:=hid (HP3.out.next hb);have HR4:=HR3;have tc0':=HBt4.out.cell 0;have tc1':=HBt4.out.cell 1))
   all_goals
    clear HK3 HS3 HBr3 HBt3
    clear hb HP3 HR3 tc0 tc1 tf0 tf1 tc0' tc1'
    cases c2 with
    | true =>
     have hl:=HR4.out
     clear HR4
     rw [if_yes] at hl
     have HR4:=hid hl
     clear hl
     obtain ⟨o5,h5,hr5⟩:=bind_run HR4.out
     have hcall:=Tl.at hg HP4.out h5
     have HC:=hid hcall;have HR5:=hid hr5
     clear hcall h5 hr5 HR4 HP4
     unfold pB at HC
     try unfold methV at HC
     go_wp2_with fail
     ((with_reducible refine HC.out.mono ?_);rintro e w5 ⟨hk,hm⟩)
     clear HC
     rcases o5 with ⟨r5,x5⟩ | ⟨r5⟩
     rotate_left
     ·obtain ⟨j,hj,hd,rfl⟩:=hm
      obtain rfl : o = .bad r5:=(Option.some.inj HR5.out).symm
      exact ⟨rfl,Kp.tr HK4.out hk,j,hj,hd,rfl⟩
     obtain ⟨v5,j5,rfl,hp,rfl,hR⟩:=hm
     have HK5:=hid (Kp.tr HK4.out hk)
     have HS5:=hid (show (W.heap.size + 1) ≤ w5.heap.size from Nat.le_trans HS4.out (hk).size)
     have HBr5:=hid (Kp.blk' (n:=W.heap.size) HBr4.out hk HNP.out (Nat.le_refl _))
     have HBt5:=hid (Kp.blk' (n:=W.heap.size) HBt4.out hk HNP.out HLt.out)
     have HP5:=hid hp
     obtain ⟨ax,cx,rfl,hx⟩:=kids_new (n:=(W.heap.size + 1)) hR HS4.out
     have HXx5:=hid hx
     clear hk hp hR hx
     have hl:=HR5.out
     clear HR5
     dsimp only at hl
     have HR5:=hid hl
     clear hl
     clear HK4 HS4 HBr4 HBt4
     have hrow:=Blk.new w5 32 #[.int .i64 x5.k,.string x5.t,.slice ax x5.kids.len cx]
     have hba : Below w5.heap.size w5 (w5.alloc (.cells #[.int .i64 x5.k,.string x5.t,.slice ax x5.kids.len cx] 32)):=(Below.refl _ _).alloc (Nat.le_refl _) _
     go_wp2_with fail
     ((with_reducible refine (node_calls _ _ _ _ _ _).mono ?_);rintro e w6 ⟨rfl,hbn⟩)
     have hb:=hba.trans (hbn.mono hba.size)
     have hrw:=hrow.own hbn
     have HK6:=hid (Kp.sb HK5.out hb)
     have HS6:=hid (show (W.heap.size + 1) ≤ w6.heap.size from Nat.le_trans HS5.out (hb).size)
     have HBr6:=hid (HBr5.out.own hb)
     have HBt6:=hid (HBt5.out.own hb)
     have HXx6:=hid (kids_below HXx5.out hb)
     have HP6:=hid (HP5.out.next hb)
     have hx:=row1 HXx6.out hrw HS5.out
     have hfin:=fin_node hE (x:=mk 32 eB [x5]) H00.out HP6.out HK6.out (Nat.le_refl _) HBr6.out hx
     obtain rfl : o = .ok (E.l.drop j5) (mk 32 eB [x5]):=(Option.some.inj HR5.out).symm
     have rc0:=HBr6.out.cell 0;have rf0:=HBr6.out.frozen 0
     have rc1:=HBr6.out.cell 1;have rf1:=HBr6.out.frozen 1
     have rc2:=HBr6.out.cell 2;have rf2:=HBr6.out.frozen 2
     have g0:=hfin.1.cell 0;have g1:=hfin.1.cell 1;have g2:=hfin.1.cell 2
     have HF:=hid hfin.2
     simp only [mk,Fo.ofL,Fo.len] at g0 g1 g2
     clear hfin
     go_wp2_with fail
     refine bodyPost_ret (v:=.agg (nV (mk 32 eB [x5]) (some ⟨w5.heap.size,0,none⟩) 1)) (by simp [results,Tryz.results155,go_sem,g0,g1,g2,mk,Fo.ofL,Fo.len]) rfl ?_
     exact HF.out
    | false =>
     have hl:=HR4.out
     clear HR4
     rw [if_no] at hl
     have HR4:=hid hl
     clear hl
     have hl:=run_tail HR4.out
     clear HR4
     have HR4:=hid hl
     clear hl
     obtain ⟨o5,h5,hr5⟩:=bind_run HR4.out
     have hcall:=Tl.at hx2 HP4.out h5
     have HC:=hid hcall;have HR5:=hid hr5
     clear hcall h5 hr5 HR4 HP4
     unfold pB at HC
     try unfold methV at HC
     go_wp2_with fail
     ((with_reducible refine HC.out.mono ?_);rintro e w5 ⟨hk,hm⟩)
     clear HC
     rcases o5 with ⟨r5,x5⟩ | ⟨r5⟩
     rotate_left
     ·obtain ⟨j,hj,hd,rfl⟩:=hm
      obtain rfl : o = .bad r5:=(Option.some.inj HR5.out).symm
      exact ⟨rfl,Kp.tr HK4.out hk,j,hj,hd,rfl⟩
     obtain ⟨v5,j5,rfl,hp,rfl,hR⟩:=hm
     have HK5:=hid (Kp.tr HK4.out hk)
     have HS5:=hid (show (W.heap.size + 1) ≤ w5.heap.size from Nat.le_trans HS4.out (hk).size)
     have HBr5:=hid (Kp.blk' (n:=W.heap.size) HBr4.out hk HNP.out (Nat.le_refl _))
     have HBt5:=hid (Kp.blk' (n:=W.heap.size) HBt4.out hk HNP.out HLt.out)
     have HP5:=hid hp
     obtain ⟨ax,cx,rfl,hx⟩:=kids_new (n:=(W.heap.size + 1)) hR HS4.out
     have HXx5:=hid hx
     clear hk hp hR hx
     have hl:=HR5.out
     clear HR5
     dsimp only at hl
     have HR5:=hid hl
     clear hl
     clear HK4 HS4 HBr4 HBt4
     obtain rfl : o = .ok (E.l.drop j5) x5:=(Option.some.inj HR5.out).symm
     have hfin:=fin_node hE H00.out HP5.out HK5.out (Nat.le_refl _) HBr5.out HXx5.out
     have rc0:=HBr5.out.cell 0;have rf0:=HBr5.out.frozen 0
     have rc1:=HBr5.out.cell 1;have rf1:=HBr5.out.frozen 1
     have rc2:=HBr5.out.cell 2;have rf2:=HBr5.out.frozen 2
     have g0:=hfin.1.cell 0;have g1:=hfin.1.cell 1;have g2:=hfin.1.cell 2
     have HF:=hid hfin.2
     skip
     clear hfin
     go_wp2_with fail
     refine bodyPost_ret (v:=.agg (nV x5 ax cx)) (by simp [results,Tryz.results155,go_sem,g0,g1,g2]) rfl ?_
     exact HF.out
end Go.Proofs.YtlklhkkjcfmefaaGreatDoor.pa
namespace Go.Proofs.YtlklhkkjcfmefaaGreatDoor.pa
open Go.Lib (hid)
open Go.RowKit nd pr sx ed
theorem given_tl {E : Env} (hE : EnvOk E) {qu qv : Pa Nd} (hu : Tl E qu RN 185 #[pB E]) (hv2 : Tl E qv RN 157 #[pB E]) : Tl E (qu.bind fun x=>.look fun t=>if op bar t = true then .move (qv.bind fun y=>.ret (mk 24 t.2 [x,y])) else .ret x) RN 157 #[pB E]:=by
 intro W i o hp hr
 have HNP:=hid hp.far;have H00:=hid hp
 obtain ⟨W0,hW0⟩ : ∃ W0,W.alloc (.cells nodeZ 32) = W0:=⟨_,rfl⟩
 have hb0 : Below W.heap.size W W0:=by rw [← hW0];exact (Below.refl _ W).alloc (Nat.le_refl _) _
 have hk0 : Blk W0 W.heap.size 32 nodeZ:=by rw [← hW0];exact Blk.new W _ _
 have hs0 : W.heap.size + 1 ≤ W0.heap.size:=by rw [← hW0];simp
 have HW0:=hid hW0;have HK0:=hid (Kp.of_below (E:=E) hb0);have HP0:=hid (hp.next hb0);have HS0:=hid hs0;have HR0:=hid hr
 have HBr0:=hid hk0
 clear hW0 hb0 hk0 hs0 hp hr
 unfold pB
 go_enter Tryz.func157,Tryz.ntmps157
 go_upto_region 1 with fail
 rw [HW0.out]
 obtain ⟨o1,h1,hr1⟩:=bind_run HR0.out
 have hcall:=Tl.at hu HP0.out h1
 have HC:=hid hcall;have HR1:=hid hr1
 clear hcall h1 hr1 HR0 HP0
 unfold pB at HC
 try unfold methV at HC
 go_wp2_with fail
 ((with_reducible refine HC.out.mono ?_);rintro e w1 ⟨hk,hm⟩)
 clear HC
 rcases o1 with ⟨r1,x1⟩ | ⟨r1⟩
 rotate_left
 ·obtain ⟨j,hj,hd,rfl⟩:=hm
  obtain rfl : o = .bad r1:=(Option.some.inj HR1.out).symm
  exact ⟨rfl,Kp.tr HK0.out hk,j,hj,hd,rfl⟩
 obtain ⟨v1,j1,rfl,hp,rfl,hR⟩:=hm
 have HK1:=hid (Kp.tr HK0.out hk)
 have HS1:=hid (show (W.heap.size + 1) ≤ w1.heap.size from Nat.le_trans HS0.out (hk).size)
 have HBr1:=hid (Kp.blk' (n:=W.heap.size) HBr0.out hk HNP.out (Nat.le_refl _))
 have HP1:=hid hp
 obtain ⟨ax,cx,rfl,hx⟩:=kids_new (n:=(W.heap.size + 1)) hR HS0.out
 have HXx1:=hid hx
 clear hk hp hR hx
 have hl:=HR1.out
 clear HR1
 dsimp only at hl
 have HR1:=hid hl
 clear hl
 clear HK0 HS0 HBr0
 go_upto_region 2 with fail
 obtain ⟨w2,hw⟩ : ∃ w',w1.alloc (.cells (nV x1 ax cx) 32) = w':=⟨_,rfl⟩
 rw [hw]
 have hb : Below w1.heap.size w1 w2:=by rw [← hw];exact (Below.refl _ _).alloc (Nat.le_refl _) _
 have HBx2:=hid (show Blk w2 w1.heap.size 32 (nV x1 ax cx) by rw [← hw];exact Blk.new _ _ _)
 have HLx:=hid (show W.heap.size ≤ w1.heap.size by have:=HS1.out;omega);have HNEx:=hid (show W.heap.size < w1.heap.size by have:=HS1.out;omega)
 have HK2:=hid (Kp.sb HK1.out hb)
 have HS2:=hid (show (W.heap.size + 1) ≤ w2.heap.size from Nat.le_trans HS1.out (hb).size)
 have HBr2:=hid (HBr1.out.own hb)
 have HXx2:=hid (kids_below HXx1.out hb)
 have HP2:=hid (HP1.out.next hb)
 have HR2:=HR1
 clear HK1 HS1 HBr1 HXx1
 clear hb hw HP1 HR1
 have hl:=HR2.out
 clear HR2
 rw [run_look] at hl
 obtain ⟨t,ht⟩ : ∃ t,tk E j1 = t:=⟨_,rfl⟩
 have HNX:=hid (fun W' (hb : Below w2.heap.size w2 W')=>next_calls hE (HP2.out.next hb))
 have hnx:=HNX.out
 clear HNX
 rw [ht] at hnx
 have HNX:=hid hnx
 rw [show tok (E.l.drop j1) = t from ht] at hl
 obtain ⟨c,hc⟩ : ∃ c,op bar t = c:=⟨_,rfl⟩
 rw [hc] at hl
 have HR2:=hid hl;have HTt:=hid ht;have HCt:=hid hc
 clear hl hnx ht
 have hv:=same_op hc
 clear hc
 have hq1:=run_sameV;have hq2:=run_otherV;have hq3:=guard_eqV;have hq4:=guard_neV
 unfold pB at HNX
 go_wp2_with fail
 ((with_reducible refine (HNX.out _ (Below.refl _ _)).mono ?_);rintro e w3 ⟨rfl,hb⟩)
 have HK3:=hid (Kp.sb HK2.out hb)
 have HS3:=hid (show (W.heap.size + 1) ≤ w3.heap.size from Nat.le_trans HS2.out (hb).size)
 have HBr3:=hid (HBr2.out.own hb)
 have HBx3:=hid (HBx2.out.own hb)
 have HXx3:=hid (kids_below HXx2.out hb)
 have HP3:=hid (HP2.out.next hb)
 have HR3:=HR2
 clear HK2 HS2 HBr2 HBx2 HXx2
 clear hb HNX HP2 HR2
 go_wp2_with fail
 ((with_reducible refine (op_calls' _ _).mono ?_);rintro e w4 ⟨rfl,hb⟩)
 have HK4:=hid (Kp.sb HK3.out hb)
 have HS4:=hid (show (W.heap.size + 1) ≤ w4.heap.size from Nat.le_trans HS3.out (hb).size)
 have HBr4:=hid (HBr3.out.own hb)
 have HBx4:=hid (HBx3.out.own hb)
 have HXx4:=hid (kids_below HXx3.out hb)
 have HP4:=hid (HP3.out.next hb)
 have HR4:=HR3
 clear HK3 HS3 HBr3 HBx3 HXx3
 clear hb HP3 HR3
 cases c with
 | true =>
  have hl:=HR4.out
  clear HR4
  rw [if_yes] at hl
  have HR4:=hid hl
  clear hl
  have HTX:=hid (op_text HCt.out)
  go_upto_region 4 with fail
  have hb:=(Below.refl w4.heap.size w4).drew
  have HK5:=hid (Kp.sb HK4.out hb)
  have HS5:=hid (show (W.heap.size + 1) ≤ w4.drew.heap.size from Nat.le_trans HS4.out (hb).size)
  have HBr5:=hid (HBr4.out.own hb)
  have HBx5:=hid (HBx4.out.own hb)
  have HXx5:=hid (kids_below HXx4.out hb)
  have HP5:=hid (HP4.out.next hb)
  have HR5:=HR4
  clear HK4 HS4 HBr4 HBx4 HXx4
  clear hb HP4 HR4
  have hS0 : C3 w1.heap.size (.int .i64 x1.k) (.string x1.t) (.slice ax x1.kids.len cx) w4.drew:=C3.of HBx5.out
  have hnex : W.heap.size ≠ w1.heap.size:=by have:=HNEx.out;omega
  have htk:=take_calls hE HP5.out (tok_lt HTt.out (op_kind HCt.out))
  rw [HTt.out] at htk
  unfold pB at htk
  have HTK:=hid htk
  clear htk
  go_region_held (fun u=>C3 w1.heap.size (.int .i64 x1.k) (.string x1.t) (.slice ax x1.kids.len cx) u)
   (first | assumption | exact C3.alloc (by assumption) _ | exact C3.set (by assumption) hnex _ _ _)
   (first
    | (go_at_call 122;(with_reducible refine HTK.out.mono ?_);rintro e w6 ⟨rfl,hk,hp⟩;have HK6:=hid (Kp.tr HK5.out hk);have HS6:=hid (show (W.heap.size + 1) ≤ w6.heap.size from Nat.le_trans HS5.out (hk).size);have HBr6:=hid (Kp.blk' (n:=W.heap.size) HBr5.out hk HNP.out (Nat.le_refl _));have HBx6:=hid (Kp.blk' (n:=W.heap.size) HBx5.out hk HNP.out HLx.out);have HXx6:=hid (kids_kp HXx5.out hk (fun k hk=>HNP.out k (by omega)));have hl:=HR5.out;obtain ⟨j6,hj⟩ : ∃ n,j1 + 1 = n:=⟨_,rfl⟩;rw [hj] at hp;have HP6:=hid hp;rw [run_move,hj] at hl;have HR6:=hid hl;clear HK5 HS5 HBr5 HBx5 HXx5;clear hk hp hj hl HTK HR5 HP5;have hS6 : C3 w1.heap.size (.int .i64 x1.k) (.string x1.t) (.slice ax x1.kids.len cx) w6:=C3.of HBx6.out;obtain ⟨o7,h7,hr7⟩:=bind_run HR6.out;have hcall:=Tl.at hv2 HP6.out h7;have HC:=hid hcall;have HR7:=hid hr7;clear hcall h7 hr7 HR6 HP6;unfold pB at HC;try unfold methV at HC)
    | (go_at_call 157;(with_reducible refine HC.out.mono ?_);rintro e w7 ⟨hk,hm⟩;clear HC;rcases o7 with ⟨r7,x7⟩ | ⟨r7⟩;rotate_left;(obtain ⟨j,hj,hd,rfl⟩:=hm;obtain rfl : o = .bad r7:=(Option.some.inj HR7.out).symm;exact ⟨rfl,Kp.tr HK6.out hk,j,hj,hd,rfl⟩);obtain ⟨v7,j7,rfl,hp,rfl,hR⟩:=hm;have HK7:=hid (Kp.tr HK6.out hk);have HS7:=hid (show (W.heap.size + 1) ≤ w7.heap.size from Nat.le_trans HS6.out (hk).size);have HBr7:=hid (Kp.blk' (n:=W.heap.size) HBr6.out hk HNP.out (Nat.le_refl _));have HBx7:=hid (Kp.blk' (n:=W.heap.size) HBx6.out hk HNP.out HLx.out);have HXx7:=hid (kids_kp HXx6.out hk (fun k hk=>HNP.out k (by omega)));have HP7:=hid hp;obtain ⟨ay,cy,rfl,hx⟩:=kids_new (n:=(W.heap.size + 1)) hR HS6.out;have HXy7:=hid hx;clear hk hp hR hx;have hl:=HR7.out;clear HR7;dsimp only at hl;have HR7:=hid hl;clear hl;clear HK6 HS6 HBr6 HBx6 HXx6;have hS7 : C3 w1.heap.size (.int .i64 x1.k) (.string x1.t) (.slice ax x1.kids.len cx) w7:=C3.of HBx7.out)
    | (go_at_call 85;(with_reducible refine (node_calls _ _ _ _ _ _).mono ?_);rintro e w8 ⟨rfl,hbn⟩;have hrow:=Blk.new w7 32 #[.int .i64 x1.k,.string x1.t,.slice ax x1.kids.len cx,.int .i64 x7.k,.string x7.t,.slice ay x7.kids.len cy];have hba : Below w7.heap.size w7 (w7.alloc (.cells #[.int .i64 x1.k,.string x1.t,.slice ax x1.kids.len cx,.int .i64 x7.k,.string x7.t,.slice ay x7.kids.len cy] 32)):=(Below.refl _ _).alloc (Nat.le_refl _) _;have hb:=hba.trans (hbn.mono hba.size);have hrw:=hrow.own hbn;have HK8:=hid (Kp.sb HK7.out hb);have HS8:=hid (show (W.heap.size + 1) ≤ w8.heap.size from Nat.le_trans HS7.out (hb).size);have HBr8:=hid (HBr7.out.own hb);have HBx8:=hid (HBx7.out.own hb);have HXx8:=hid (kids_below HXx7.out hb);have HXy8:=hid (kids_below HXy7.out hb);have HP8:=hid (HP7.out.next hb);have hx:=row2 HXx8.out HXy8.out hrw HS7.out;have hS8 : C3 w1.heap.size (.int .i64 x1.k) (.string x1.t) (.slice ax x1.kids.len cx) w8:=C3.of HBx8.out;have rc0:=HBr8.out.cell 0;have rf0:=HBr8.out.frozen 0;have rc1:=HBr8.out.cell 1;have rf1:=HBr8.out.frozen 1;have rc2:=HBr8.out.cell 2;have rf2:=HBr8.out.frozen 2))
  have hfin:=fin_node hE (x:=(mk 24 t.2 [x1,x7])) H00.out HP8.out HK8.out (Nat.le_refl _) HBr8.out hx
  obtain rfl : o = .ok (E.l.drop j7) (mk 24 t.2 [x1,x7]):=(Option.some.inj HR7.out).symm
  have g0:=hfin.1.cell 0;have g1:=hfin.1.cell 1;have g2:=hfin.1.cell 2
  have HF:=hid hfin.2
  simp only [mk,Fo.ofL,Fo.len] at g0 g1 g2
  clear hfin
  go_wp2_with fail
  refine bodyPost_ret (v:=.agg (nV (mk 24 t.2 [x1,x7]) (some ⟨w7.heap.size,0,none⟩) 2)) (by simp [results,Tryz.results157,go_sem,g0,g1,g2,mk,Fo.ofL,Fo.len]) rfl ?_
  exact HF.out
 | false =>
  have hl:=HR4.out
  clear HR4
  rw [if_no] at hl
  have HR4:=hid hl
  clear hl
  have xc0:=HBx4.out.cell 0;have xf0:=HBx4.out.frozen 0
  have xc1:=HBx4.out.cell 1;have xf1:=HBx4.out.frozen 1
  have xc2:=HBx4.out.cell 2;have xf2:=HBx4.out.frozen 2
  obtain rfl : o = .ok (E.l.drop j1) x1:=(Option.some.inj HR4.out).symm
  have hfin:=fin_node hE H00.out HP4.out HK4.out (Nat.le_refl _) HBr4.out HXx4.out
  have rc0:=HBr4.out.cell 0;have rf0:=HBr4.out.frozen 0
  have rc1:=HBr4.out.cell 1;have rf1:=HBr4.out.frozen 1
  have rc2:=HBr4.out.cell 2;have rf2:=HBr4.out.frozen 2
  have g0:=hfin.1.cell 0;have g1:=hfin.1.cell 1;have g2:=hfin.1.cell 2
  have HF:=hid hfin.2
  skip
  clear hfin
  go_wp2_with fail
  refine bodyPost_ret (v:=.agg (nV x1 ax cx)) (by simp [results,Tryz.results157,go_sem,g0,g1,g2]) rfl ?_
  exact HF.out
end Go.Proofs.YtlklhkkjcfmefaaGreatDoor.pa
namespace Go.Proofs.YtlklhkkjcfmefaaGreatDoor.lx
open Go.RowKit Go.ChangeShapes Go.WideShapes Go.ChangeAt Go.ChangeMaps
open sg (OpsAt lst_len)
abbrev Tk:=Int × ByteArray
def TksAt (n : Nat) (W : World) (v : Value) (ts : List Tk) : Prop :=
 ∃ ao cap,v = .slice ao ts.length cap ∧ ts.length ≤ maxLen ∧ ∀ (j : Nat) t,ts[j]? = some t → ∃ g off,ao = some ⟨g,off,none⟩ ∧ g < n ∧ W.cell? ⟨g,off + j * 2,none⟩ = some (.int .i64 t.1) ∧ W.cell? ⟨g,off + j * 2 + 1,none⟩ = some (.string t.2)
theorem TksAt.below {n m : Nat} {W W' : World} {v : Value} {ts : List Tk} (h : TksAt n W v ts) (hb : Below m W W') (hm : n ≤ m) : TksAt n W' v ts:=by
 obtain ⟨ao,cap,h1,h2,h3⟩:=h
 refine ⟨ao,cap,h1,h2,fun i e he=>?_⟩
 obtain ⟨g,off,e1,hg,c0,c1⟩:=h3 i e he
 exact ⟨g,off,e1,hg,(hb.cell (p:=⟨g,_,none⟩) (Nat.lt_of_lt_of_le hg hm)).trans c0,(hb.cell (p:=⟨g,_,none⟩) (Nat.lt_of_lt_of_le hg hm)).trans c1⟩
theorem TksAt.mono {n m : Nat} {W : World} {v : Value} {ts : List Tk} (h : TksAt n W v ts) (hm : n ≤ m) : TksAt m W v ts:=by
 obtain ⟨ao,cap,h1,h2,h3⟩:=h
 refine ⟨ao,cap,h1,h2,fun i e he=>?_⟩
 obtain ⟨g,off,e1,hg,c⟩:=h3 i e he
 exact ⟨g,off,e1,Nat.lt_of_lt_of_le hg hm,c⟩
abbrev asTk (t : Lx.Tok) : Tk:=(t.1,⟨t.2.toArray⟩)
theorem ToksAt.tks {n : Nat} {W : World} {v : Value} {l : List Lx.Tok} (h : ToksAt W n v l) (hm : l.length ≤ maxLen) : TksAt n W v (l.map asTk):=by
 obtain ⟨ao,cap,h1,h3⟩:=h
 refine ⟨ao,cap,by rw [h1,List.length_map],by rw [List.length_map];exact hm,fun j t ht=>?_⟩
 rw [List.getElem?_map] at ht
 cases hj : l[j]? with
 | none=>rw [hj] at ht;cases ht
 | some u =>
  rw [hj] at ht
  cases ht
  obtain ⟨g,e,hg,c0,c1⟩:=h3 j u hj
  exact ⟨g,0,e,hg,by rw [Nat.zero_add];exact c0,by rw [Nat.zero_add];exact c1⟩
def sizeT (ts : List Tk) : Nat:=(ts.map (·.2.size)).sum
theorem sizeT_snoc (ts : List Tk) (t : Tk) : sizeT (ts ++ [t]) = sizeT ts + t.2.size:=by simp [sizeT]
theorem take_snoc {α : Type} (l : List α) (k : Nat) (t : α) (h : l[k]? = some t) : l.take (k + 1) = l.take k ++ [t]:=by rw [List.take_add_one,h];rfl
theorem sizeT_take (ts : List Tk) (k : Nat) : sizeT (ts.take k) ≤ sizeT ts:=by
 have h:=congrArg sizeT (List.take_append_drop k ts)
 simp only [sizeT,List.map_append,List.sum_append] at h ⊢
 omega
end Go.Proofs.YtlklhkkjcfmefaaGreatDoor.lx
namespace Go.Proofs.YtlklhkkjcfmefaaGreatDoor.lx
open Go.RowKit
open sg (lst_len)
def Ok (l : List UInt8) : Prop:=utf.chkL l.length l 0 = -1
instance (l : List UInt8) : Decidable (Ok l):=inferInstanceAs (Decidable (_ = _))
theorem shift_chk : ∀ (b : Nat) (l : List UInt8) (p d : Nat),utf.chkL b l (p + d) = if utf.chkL b l p = -1 then -1 else utf.chkL b l p + d:=by
 intro b
 induction b with
 | zero=>intro l p d;simp [utf.chkL]
 | succ b ih =>
  intro l p d
  simp only [utf.chkL]
  split
  ·simp
  ·split
   ·rw [if_neg (by omega)];omega
   ·have:=ih (l.drop (utf.oneL l)) (p + utf.oneL l) d
    rw [show p + d + utf.oneL l = p + utf.oneL l + d by omega,this]
theorem ok_nil : Ok []:=rfl
theorem ok_app {l m : List UInt8} (hl : Ok l) (hm : Ok m) : Ok (l ++ m):=by
 unfold Ok at *
 have h:=(utf.chk_join l.length l m 0 (l ++ m).length m.length (Nat.le_refl _) hl (by rw [List.length_append];omega) (Nat.le_refl _)).1
 rw [h,shift_chk,hm]
 rfl
theorem ok_one (b : UInt8) (h : b.toNat < 128) : Ok [b]:=by
 unfold Ok
 have : utf.oneL [b] = 1:=by
  unfold utf.oneL utf.oneN
  rw [if_neg (by simp),if_pos (by simpa using h)]
 simp [utf.chkL,this]
theorem ok_ascii {l : List UInt8} (h : ∀ b ∈ l,b.toNat < 128) : Ok l:=by
 induction l with
 | nil=>exact ok_nil
 | cons b r ih=>exact ok_app (ok_one b (h b (List.mem_cons_self ..))) (ih fun x hx=>h x (List.mem_cons_of_mem _ hx))
theorem check_ok {s : ByteArray} (h : Ok s.data.toList) : utf.checkF s = -1:=by rw [utf.checkF_L];exact h
end Go.Proofs.YtlklhkkjcfmefaaGreatDoor.lx
