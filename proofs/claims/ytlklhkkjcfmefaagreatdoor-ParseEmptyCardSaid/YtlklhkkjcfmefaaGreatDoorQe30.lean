/- Ground of the law: PaP30, PaP14. -/
import Derived.Test.YtlklhkkjcfmefaaGreatDoorQe23
import Derived.Test.YtlklhkkjcfmefaaGreatDoorQe29
import Derived.Test.YtlklhkkjcfmefaaGreatDoorQe28
set_option maxRecDepth 100000
set_option maxHeartbeats 8000000
set_option linter.unusedVariables false
set_option linter.unusedSimpArgs false
namespace Go.Proofs.YtlklhkkjcfmefaaGreatDoor.pa
open Go.Lib (hid)
open Go.RowKit nd pr sx ed
theorem wpList_append_nodesL {E : Env} {W w : World} {ops : Array Oper} {rest : List Oper} {o : Oper} {a : Act} {Q : Exit → Act → World → Prop} (hgd : o.guard = none) (s x : Operand)
  (ho : o.op = .call { callee:=.builtin .append,args:=#[s,x],argTypes:=#[30,30] })
  (n j i' : Nat) (l ys : List Nd) (v : Value) (hs : a.eval s = v) (hown : OwnL n w l v) (hl : l.length ≤ 1000000000) (hy0 : ys.length ≤ 10)
  (g : Nat) (L2 : List Value) (hx : a.eval x = .slice (some ⟨g,0,none⟩) ys.length ys.length) (hg : Blk w g 32 L2.toArray) (hc : CellsOf (Aw n w v) w (Fo.ofL ys) L2)
  (hbase : n ≤ w.heap.size) (hp : Ps E w j) (hk : Kp E W w) (hW : W.heap.size ≤ n) (hfar : ∀ k,W.heap.size ≤ k → ¬ Pm E k) (h0 : Ps E W i')
  (h : ∀ v' w',Grew E n W w w' j (l ++ ys) v' → wpList Tryz.prog ops Q rest (a.put o.dst v') w') : wpList Tryz.prog ops Q (o :: rest) a w :=
 wpList_append_nodesK hgd s x ho n n j i' l ys v hs hown hl hy0 g L2 hx hg hc hbase hp hk hW (Nat.le_refl _) hfar h0 (fun v' w' hgr=>h v' w' ⟨hgr.own,hgr.ps,hgr.kp,hgr.size,fun b t vs hb hbn=>(hgr.blk b hbn).trans hb⟩)
theorem wrap_next (q : Nat) (h : q < 1000000000) : wrap64 ((q : Int) + 1) = ((q + 1 : Nat) : Int):=by
 unfold wrap64
 omega
theorem choice_tl {E : Env} (hE : EnvOk E) {q : Pa Nd} {qb : Pa (Nd × Nd)} (hq : Tl E q RN 123 #[pB E]) (hqb : Tl E qb RBr 121 #[pB E]) (n : Nat) (hn : n ≤ 100000000) : Tl E (need wif ((listP qb (word welif) n).bind fun bs=>.look fun t=>if word welse t = true then .move (q.bind fun x=>need wend (.ret (mk 14 welse (flat bs ++ [x])))) else need wend (.ret (mk 14 eB (flat bs))))) RN 70 #[pB E]:=by
 intro W i o hp hr
 simp only [need_bind wif,need_bind wend] at hr
 have hmf : ∀ (fn : Go.Fn) (first cap : Array Value) (w : World),(Instr.makeFunc fn first cap).run Tryz.prog w = .ok (.func fn first cap) w:=fun _ _ _ _=>rfl
 have HNN:=hid hn;have HLB:=hid (listB_tl hE en_branch hqb (3,welif) (fun e=>by cases e) (word welif) (fun t=>(word_eq welif t)) n hn)
 have HNP:=hid hp.far;have H00:=hid hp
 obtain ⟨W0,hW0⟩ : ∃ W0,W.alloc (.cells nodeZ 32) = W0:=⟨_,rfl⟩
 have hb0 : Below W.heap.size W W0:=by rw [← hW0];exact (Below.refl _ W).alloc (Nat.le_refl _) _
 have hk0 : Blk W0 W.heap.size 32 nodeZ:=by rw [← hW0];exact Blk.new W _ _
 have hs0 : W.heap.size + 1 ≤ W0.heap.size:=by rw [← hW0];simp
 have HW0:=hid hW0;have HK0:=hid (Kp.of_below (E:=E) hb0);have HP0:=hid (hp.next hb0);have HS0:=hid hs0;have HR0:=hid hr
 have HBr0:=hid hk0
 clear hW0 hb0 hk0 hs0 hp hr
 unfold pB
 go_enter Tryz.func70,Tryz.ntmps70
 go_upto_region 1 with fail
 rw [HW0.out]
 go_wp2_with fail
 ((with_reducible refine (word_calls' _ _).mono ?_);rintro e w1 ⟨rfl,hb⟩)
 have HK1:=hid (Kp.sb HK0.out hb)
 have HS1:=hid (show (W.heap.size + 1) ≤ w1.heap.size from Nat.le_trans HS0.out (hb).size)
 have HBr1:=hid (HBr0.out.own hb)
 have HP1:=hid (HP0.out.next hb)
 have HR1:=HR0
 clear HK0 HS0 HBr0
 clear hb HP0 HR0
 obtain ⟨o2,h2,hr2⟩:=bind_run HR1.out
 have hcall:=Tl.at (must_word hE in_wif) HP1.out h2
 have HC:=hid hcall;have HR2:=hid hr2
 clear hcall h2 hr2 HR1 HP1
 unfold pB at HC
 try unfold methV at HC
 go_wp2_with fail
 ((with_reducible refine HC.out.mono ?_);rintro e w2 ⟨hk,hm⟩)
 clear HC
 rcases o2 with ⟨r2,x2⟩ | ⟨r2⟩
 rotate_left
 ·obtain ⟨j,hj,hd,rfl⟩:=hm
  obtain rfl : o = .bad r2:=(Option.some.inj HR2.out).symm
  exact ⟨rfl,Kp.tr HK1.out hk,j,hj,hd,rfl⟩
 obtain ⟨v2,j2,rfl,hp,rfl,hR⟩:=hm
 have HK2:=hid (Kp.tr HK1.out hk)
 have HS2:=hid (show (W.heap.size + 1) ≤ w2.heap.size from Nat.le_trans HS1.out (hk).size)
 have HBr2:=hid (Kp.blk' (n:=W.heap.size) HBr1.out hk HNP.out (Nat.le_refl _))
 have HP2:=hid hp
 obtain rfl:=hR
 clear hk hp
 have hl:=HR2.out
 clear HR2
 dsimp only at hl
 have HR2:=hid hl
 clear hl
 clear HK1 HS1 HBr1
 go_wp2_with fail
 ((with_reducible refine (word_calls' _ _).mono ?_);rintro e w3 ⟨rfl,hb⟩)
 have HK3:=hid (Kp.sb HK2.out hb)
 have HS3:=hid (show (W.heap.size + 1) ≤ w3.heap.size from Nat.le_trans HS2.out (hb).size)
 have HBr3:=hid (HBr2.out.own hb)
 have HP3:=hid (HP2.out.next hb)
 have HR3:=HR2
 clear HK2 HS2 HBr2
 clear hb HP2 HR2
 have HSB:=HS3
 obtain ⟨o4,h4,hr4⟩:=bind_run HR3.out
 have hcall:=Tl.at HLB.out HP3.out h4
 have HNOTE:=hid h4
 have HC:=hid hcall;have HR4:=hid hr4
 clear hcall h4 hr4 HR3 HP3
 unfold pB at HC
 try unfold methV at HC
 go_wp2_with fail
 ((with_reducible refine HC.out.mono ?_);rintro e w4 ⟨hk,hm⟩)
 clear HC
 rcases o4 with ⟨r4,x4⟩ | ⟨r4⟩
 rotate_left
 ·obtain ⟨j,hj,hd,rfl⟩:=hm
  obtain rfl : o = .bad r4:=(Option.some.inj HR4.out).symm
  exact ⟨rfl,Kp.tr HK3.out hk,j,hj,hd,rfl⟩
 obtain ⟨v4,j4,rfl,hp,rfl,hR⟩:=hm
 have HK4:=hid (Kp.tr HK3.out hk)
 have HS4:=hid (show (W.heap.size + 1) ≤ w4.heap.size from Nat.le_trans HS3.out (hk).size)
 have HBr4:=hid (Kp.blk' (n:=W.heap.size) HBr3.out hk HNP.out (Nat.le_refl _))
 have HP4:=hid hp
 have hl:=HR4.out
 clear HR4
 dsimp only at hl
 have HR4:=hid hl
 clear hl
 clear HK3 HS3 HBr3
 obtain ⟨av,cv,rfl⟩:=OwnB.slice hR
 obtain ⟨bs,hbs⟩ : ∃ bs,x4 = bs:=⟨_,rfl⟩
 rw [hbs] at hR HR4 ⊢
 have HOB:=hid (OwnB.mono hR (show W.heap.size + 1 ≤ _ from HSB.out))
 have HLEN:=hid (show bs.length ≤ n by rw [← hbs];exact listP_len HNOTE.out)
 clear hk hp hR hbs HSB HNOTE
 obtain ⟨wL,hwL⟩ : ∃ wL,w4 = wL:=⟨_,rfl⟩
 rw [hwL] at HK4 HS4 HBr4 HP4 HOB ⊢
 clear hwL
 have HK0x:=hid (show KI E W wL bs j4 (.slice none 0 0) (.int .i64 ((0 : Nat) : Int)) wL 0 from ⟨by rw [List.take_zero];exact OwnK.nil _ _ _,rfl,Nat.zero_le _,HP4.out,HK4.out,fun _ _=>rfl,Nat.le_refl _⟩)
 go_wp2_with fail
 go_loopw [3,16] (fun v iv wr=>∃ q,KI E W wL bs j4 v iv wr q) (fun _ iv _=>bs.length + 5 - (intOf iv).toNat)
 case atStart=>exact ⟨0,HK0x.out⟩
 case round =>
  clear HK0x
  obtain ⟨q0,hki⟩:=hrel
  obtain rfl:=hki.iv
  obtain ⟨ak,ck,rfl⟩:=hki.own.slice
  have HKI:=hid hki
  clear hki
  by_cases hql : q0 < bs.length
  ·have hd : decide ((q0 : Int) < (bs.length : Int)) = true:=decide_eq_true (by omega)
   obtain ⟨p,hp⟩ : ∃ p,bs[q0]? = some p:=⟨_,List.getElem?_eq_getElem hql⟩
   obtain ⟨g,cap,a,c,a',c',hav,hgl,c0,c1,c2,c3,c4,c5,hk1,hk2⟩:=HOB.out.get hp
   cases hav
   have hsm : ∀ d,wr.cell? ⟨g,d,none⟩ = wL.cell? ⟨g,d,none⟩:=fun d=>by simp [World.cell?,HKI.out.same g hgl]
   rw [← hsm] at c0 c1 c2 c3 c4 c5
   have hx1:=k_aw hk1 rfl HKI.out.same HKI.out.size HKI.out.own.from
   have hx2:=k_aw hk2 rfl HKI.out.same HKI.out.size HKI.out.own.from
   have HX1:=hid hx1;have HX2:=hid hx2;have HQL:=hid hql;have HPQ:=hid hp
   have hi1 : (0 : Int) ≤ (q0 : Int):=Int.natCast_nonneg _
   have hi2 : (q0 : Int) < (bs.length : Int):=by omega
   have hi3 : ((q0 : Int)).toNat = q0:=Int.toNat_natCast _
   have hw0 : wrap64 ((q0 : Int) + 1) = ((q0 + 1 : Nat) : Int):=wrap_next q0 (by have:=HLEN.out;have:=HNN.out;omega)
   have hw1 : IntKind.i64.wrap ((q0 : Int) + 1) = ((q0 + 1 : Nat) : Int):=(IntWalk.i64_left _).trans hw0
   clear hk1 hk2 hx1 hx2 hgl hsm hql hp
   go_upto_region 6 with fail
   obtain ⟨w5,hw5⟩ : ∃ w',wr.alloc (.cells (brV p.1 p.2 a c a' c') 133) = w':=⟨_,rfl⟩
   rw [hw5]
   have hb5 : Below wr.heap.size wr w5:=by rw [← hw5];exact (Below.refl _ _).alloc (Nat.le_refl _) _
   have hbr : Blk w5 wr.heap.size 133 (brV p.1 p.2 a c a' c'):=by rw [← hw5];exact Blk.new _ _ _
   have b0:=hbr.cell 0;have b1:=hbr.cell 1;have b2:=hbr.cell 2;have b3:=hbr.cell 3;have b4:=hbr.cell 4;have b5:=hbr.cell 5
   have hba : Below w5.heap.size w5 (w5.alloc (.cells #[.int .i64 p.1.k,.string p.1.t,.slice a p.1.kids.len c,.int .i64 p.2.k,.string p.2.t,.slice a' p.2.kids.len c'] 32)):=(Below.refl _ _).alloc (Nat.le_refl _) _
   have hb6:=Below.trans hb5 (hba.mono hb5.size)
   have HOWN:=hid (HKI.out.own.below hb6)
   have HCE:=hid (cells_two (aw_below HX1.out hb6) (aw_below HX2.out hb6))
   have HROW:=hid (Blk.new w5 32 #[.int .i64 p.1.k,.string p.1.t,.slice a p.1.kids.len c,.int .i64 p.2.k,.string p.2.t,.slice a' p.2.kids.len c'])
   have HPA:=hid (HKI.out.ps.next hb6);have HKA:=hid (Kp.sb HKI.out.kp hb6);have HSA:=hid (Nat.le_trans HKI.out.size hb6.size);have HB6:=hid hb6
   have HFL:=hid (show (flat (bs.take q0)).length ≤ 1000000000 by rw [flat_len,List.length_take];have:=HLEN.out;have:=HNN.out;omega)
   clear hb5 hbr hba hb6 hw5 c0 c1 c2 c3 c4 c5
   go_wp2_with (at_builtin;refine wpList_append_nodesK rfl _ _ rfl (W.heap.size + 1) wL.heap.size j4 i (flat (bs.take q0)) [p.1,p.2] _ rfl HOWN.out HFL.out (by simp) w5.heap.size [.int .i64 p.1.k,.string p.1.t,.slice a p.1.kids.len c,.int .i64 p.2.k,.string p.2.t,.slice a' p.2.kids.len c'] rfl HROW.out HCE.out HSA.out HPA.out HKA.out (Nat.le_succ _) HS4.out HNP.out H00.out ?_;intro v' w' hgrew;obtain ⟨a5,c5,hv5⟩:=hgrew.own.slice;subst hv5;have HG:=hid hgrew;clear hgrew)
   refine ⟨⟨q0 + 1,?_,?_,HQL.out,HG.out.ps,HG.out.kp,fun k hk=>(HG.out.blk k hk).trans ((HB6.out.block k (Nat.lt_of_lt_of_le hk HKI.out.size)).trans (HKI.out.same k hk)),Nat.le_trans HSA.out HG.out.size⟩,?_⟩
   ·rw [flat_take HPQ.out];have hgo:=HG.out.own;rw [List.length_append] at hgo;exact hgo
   ·rfl
   ·have:=HQL.out
    simp [intOf]
    omega
  ·have hd : True:=trivial
   obtain rfl : q0 = bs.length:=by have:=HKI.out.le;omega
   have hown:=HKI.out.own.own HS4.out
   rw [List.take_length] at hown ⊢
   have HOk5:=hid hown;have HBr5:=hid (show Blk wr W.heap.size 32 nodeZ from (HKI.out.same _ HBr4.out.lt).trans HBr4.out);have HP5:=hid HKI.out.ps;have HK5:=hid HKI.out.kp;have HS5:=hid (Nat.le_trans HS4.out HKI.out.size);have HR5:=HR4
   have HFL:=hid (show (flat bs).length ≤ 1000000000 by rw [flat_len];have:=HLEN.out;have:=HNN.out;omega)
   clear hown hd HKI HOB HBr4 HP4 HK4 HS4 HR4 HLB hql
   have hd : decide ((bs.length : Int) < (bs.length : Int)) = false:=decide_eq_false (Int.lt_irrefl _)
   have hl:=HR5.out
   clear HR5
   rw [run_look] at hl
   obtain ⟨t,ht⟩ : ∃ t,tk E j4 = t:=⟨_,rfl⟩
   have HNX:=hid (fun W' (hb : Below wr.heap.size wr W')=>next_calls hE (HP5.out.next hb))
   have hnx:=HNX.out
   clear HNX
   rw [ht] at hnx
   have HNX:=hid hnx
   rw [show tok (E.l.drop j4) = t from ht] at hl
   obtain ⟨c,hc⟩ : ∃ c,word welse t = c:=⟨_,rfl⟩
   rw [hc] at hl
   have HR5:=hid hl;have HTt:=hid ht;have HCt:=hid hc
   clear hl hnx ht
   have hv:=same_word hc
   clear hc
   have hq1:=run_sameV;have hq2:=run_otherV;have hq3:=guard_eqV;have hq4:=guard_neV
   unfold pB at HNX
   go_wp2_with fail
   ((with_reducible refine (HNX.out _ (Below.refl _ _)).mono ?_);rintro e w6 ⟨rfl,hb⟩)
   have HK6:=hid (Kp.sb HK5.out hb)
   have HS6:=hid (show (W.heap.size + 1) ≤ w6.heap.size from Nat.le_trans HS5.out (hb).size)
   have HBr6:=hid (HBr5.out.own hb)
   have HOk6:=hid (OwnL.below HOk5.out hb)
   have HP6:=hid (HP5.out.next hb)
   have HR6:=HR5
   clear HK5 HS5 HBr5 HOk5
   clear hb HNX HP5 HR5
   go_wp2_with fail
   ((with_reducible refine (word_calls' _ _).mono ?_);rintro e w7 ⟨rfl,hb⟩)
   have HK7:=hid (Kp.sb HK6.out hb)
   have HS7:=hid (show (W.heap.size + 1) ≤ w7.heap.size from Nat.le_trans HS6.out (hb).size)
   have HBr7:=hid (HBr6.out.own hb)
   have HOk7:=hid (OwnL.below HOk6.out hb)
   have HP7:=hid (HP6.out.next hb)
   have HR7:=HR6
   clear HK6 HS6 HBr6 HOk6
   clear hb HP6 HR6
   cases c with
   | true =>
    have hl:=HR7.out
    clear HR7
    rw [if_yes] at hl
    have HR7:=hid hl
    clear hl
    have htx:=word_text HCt.out
    have hl:=HR7.out
    clear HR7
    rw [← htx] at hl
    have HR7:=hid hl
    clear hl htx
    have htk:=take_calls hE HP7.out (tok_lt HTt.out (word_kind HCt.out))
    rw [HTt.out] at htk
    unfold pB at htk
    have HTK:=hid htk
    clear htk
    go_wp2_with fail
    ((with_reducible refine HTK.out.mono ?_);rintro e w8 ⟨rfl,hk,hp⟩)
    have HK8:=hid (Kp.tr HK7.out hk)
    have HS8:=hid (show (W.heap.size + 1) ≤ w8.heap.size from Nat.le_trans HS7.out (hk).size)
    have HBr8:=hid (Kp.blk' (n:=W.heap.size) HBr7.out hk HNP.out (Nat.le_refl _))
    have HOk8:=hid (OwnL.kp HOk7.out hk (fun k hk=>HNP.out k (by omega)))
    have hl:=HR7.out
    obtain ⟨j8,hj⟩ : ∃ n,j4 + 1 = n:=⟨_,rfl⟩
    rw [hj] at hp
    have HP8:=hid hp
    rw [run_move,hj] at hl
    have HR8:=hid hl
    clear HK7 HS7 HBr7 HOk7
    clear hk hp hj hl HTK HR7 HP7
    obtain ⟨o9,h9,hr9⟩:=bind_run HR8.out
    have hcall:=Tl.at hq HP8.out h9
    have HC:=hid hcall;have HR9:=hid hr9
    clear hcall h9 hr9 HR8 HP8
    unfold pB at HC
    try unfold methV at HC
    go_wp2_with fail
    ((with_reducible refine HC.out.mono ?_);rintro e w9 ⟨hk,hm⟩)
    clear HC
    rcases o9 with ⟨r9,x9⟩ | ⟨r9⟩
    rotate_left
    ·obtain ⟨j,hj,hd,rfl⟩:=hm
     obtain rfl : o = .bad r9:=(Option.some.inj HR9.out).symm
     exact ⟨rfl,Kp.tr HK8.out hk,j,hj,hd,rfl⟩
    obtain ⟨v9,j9,rfl,hp,rfl,hR⟩:=hm
    have HK9:=hid (Kp.tr HK8.out hk)
    have HS9:=hid (show (W.heap.size + 1) ≤ w9.heap.size from Nat.le_trans HS8.out (hk).size)
    have HBr9:=hid (Kp.blk' (n:=W.heap.size) HBr8.out hk HNP.out (Nat.le_refl _))
    have HOk9:=hid (OwnL.kp HOk8.out hk (fun k hk=>HNP.out k (by omega)))
    have HP9:=hid hp
    obtain ⟨sx,rfl,hks⟩:=hR
    obtain ⟨ax,cx,rfl,_⟩:=hks.slice
    have hks2:=hks.keep (S':=Aw (W.heap.size + 1) w9 (.slice ak (flat bs).length ck)) (fun k e=>(kids_aux e (HOk8.out) HS8.out)) (fun _ _=>rfl)
    have HAx:=hid hks2
    clear hk hp hks hks2
    have hl:=HR9.out
    clear HR9
    dsimp only at hl
    have HR9:=hid hl
    clear hl
    clear HK8 HS8 HBr8 HOk8
    have hrow:=Blk.new w9 32 (nV x9 ax cx)
    have hba : Below w9.heap.size w9 (w9.alloc (.cells (nV x9 ax cx) 32)):=(Below.refl _ _).alloc (Nat.le_refl _) _
    have HOWN:=hid (HOk9.out.below hba);have HCE:=hid (cells_one (aw_below HAx.out hba));have HROW:=hid hrow
    have HPA:=hid (HP9.out.next hba);have HKA:=hid (Kp.sb HK9.out hba);have HSA:=hid (Nat.le_trans HS9.out hba.size)
    have HBAr:=hid (HBr9.out.own hba)
    clear hrow hba
    go_wp2_with (at_builtin;refine wpList_append_nodesL rfl _ _ rfl (W.heap.size + 1) j9 i (flat bs) [x9] _ rfl HOWN.out HFL.out (by simp) w9.heap.size [.int .i64 x9.k,.string x9.t,.slice ax x9.kids.len cx] rfl HROW.out HCE.out HSA.out HPA.out HKA.out (by omega) HNP.out H00.out ?_;intro v' w10 hgrew;obtain ⟨ak10,ck10,hv5⟩:=hgrew.own.slice;rw [show ((flat bs) ++ [x9]).length = (flat bs).length + 1 by simp] at hv5;subst hv5;have HG:=hid hgrew;clear hgrew)
    have HK10:=hid HG.out.kp;have HP10:=hid HG.out.ps;have HS10:=hid (Nat.le_trans HSA.out HG.out.size);have HOk10:=hid HG.out.own
    have HBr10:=hid (HG.out.blk _ _ _ HBAr.out (by omega))
    have HR10:=HR9
    clear HK9 HS9 HBr9 HOk9
    clear HOWN HCE HROW HPA HKA HSA HG HR9 HP9 HAx HBAr
    go_wp2_with fail
    ((with_reducible refine (word_calls' _ _).mono ?_);rintro e w11 ⟨rfl,hb⟩)
    have HK11:=hid (Kp.sb HK10.out hb)
    have HS11:=hid (show (W.heap.size + 1) ≤ w11.heap.size from Nat.le_trans HS10.out (hb).size)
    have HBr11:=hid (HBr10.out.own hb)
    have HOk11:=hid (OwnL.below HOk10.out hb)
    have HP11:=hid (HP10.out.next hb)
    have HR11:=HR10
    clear HK10 HS10 HBr10 HOk10
    clear hb HP10 HR10
    obtain ⟨o12,h12,hr12⟩:=bind_run HR11.out
    have hcall:=Tl.at (must_word hE in_wend) HP11.out h12
    have HC:=hid hcall;have HR12:=hid hr12
    clear hcall h12 hr12 HR11 HP11
    unfold pB at HC
    try unfold methV at HC
    go_wp2_with fail
    ((with_reducible refine HC.out.mono ?_);rintro e w12 ⟨hk,hm⟩)
    clear HC
    rcases o12 with ⟨r12,x12⟩ | ⟨r12⟩
    rotate_left
    ·obtain ⟨j,hj,hd,rfl⟩:=hm
     obtain rfl : o = .bad r12:=(Option.some.inj HR12.out).symm
     exact ⟨rfl,Kp.tr HK11.out hk,j,hj,hd,rfl⟩
    obtain ⟨v12,j12,rfl,hp,rfl,hR⟩:=hm
    have HK12:=hid (Kp.tr HK11.out hk)
    have HS12:=hid (show (W.heap.size + 1) ≤ w12.heap.size from Nat.le_trans HS11.out (hk).size)
    have HBr12:=hid (Kp.blk' (n:=W.heap.size) HBr11.out hk HNP.out (Nat.le_refl _))
    have HOk12:=hid (OwnL.kp HOk11.out hk (fun k hk=>HNP.out k (by omega)))
    have HP12:=hid hp
    obtain rfl:=hR
    clear hk hp
    have hl:=HR12.out
    clear HR12
    dsimp only at hl
    have HR12:=hid hl
    clear hl
    clear HK11 HS11 HBr11 HOk11
    go_wp2_with fail
    ((with_reducible refine (node_calls _ _ _ _ _ _).mono ?_);rintro e w13 ⟨rfl,hb⟩)
    have HK13:=hid (Kp.sb HK12.out hb)
    have HS13:=hid (show (W.heap.size + 1) ≤ w13.heap.size from Nat.le_trans HS12.out (hb).size)
    have HBr13:=hid (HBr12.out.own hb)
    have HOk13:=hid (OwnL.below HOk12.out hb)
    have HP13:=hid (HP12.out.next hb)
    have hx:=HOk13.out.kids
    have hx2 : KidsAt (Fr (W.heap.size + 1) w13) w13 (mk 14 t.2 ((flat bs) ++ [x9])).kids (.slice ak10 (mk 14 t.2 ((flat bs) ++ [x9])).kids.len ck10):=by rw [show (mk 14 t.2 ((flat bs) ++ [x9])).kids.len = ((flat bs).length + 1) from (Fo.ofL_len _).trans (by simp)];exact hx
    have hfin:=fin_node hE (x:=(mk 14 t.2 ((flat bs) ++ [x9]))) H00.out HP13.out HK13.out (Nat.le_refl _) HBr13.out hx2
    obtain rfl : o = .ok (E.l.drop j12) (mk 14 t.2 ((flat bs) ++ [x9])):=(Option.some.inj HR12.out).symm
    have rc0:=HBr13.out.cell 0;have rf0:=HBr13.out.frozen 0
    have rc1:=HBr13.out.cell 1;have rf1:=HBr13.out.frozen 1
    have rc2:=HBr13.out.cell 2;have rf2:=HBr13.out.frozen 2
    have hln : (mk 14 t.2 ((flat bs) ++ [x9])).kids.len = ((flat bs).length + 1):=(Fo.ofL_len _).trans (by simp)
    have g0:=hfin.1.cell 0;have g1:=hfin.1.cell 1;have g2 : _ = some (Value.slice ak10 (mk 14 t.2 ((flat bs) ++ [x9])).kids.len ck10):=hfin.1.cell 2
    have hF2:=hfin.2
    dsimp only [nV] at hF2
    rw [hln] at hF2 g0 g1 g2
    simp only [mk] at g0 g1 g2
    have HF:=hid hF2
    clear hfin hx hx2 hln hF2
    go_wp2_with fail
    refine bodyPost_ret (v:=.agg #[.int .i64 14,.string t.2,.slice ak10 ((flat bs).length + 1) ck10]) (by simp [results,Tryz.results70,go_sem,g0,g1,g2]) rfl ?_
    exact HF.out
   | false =>
    have hl:=HR7.out
    clear HR7
    rw [if_no] at hl
    have HR7:=hid hl
    clear hl
    go_wp2_with fail
    ((with_reducible refine (word_calls' _ _).mono ?_);rintro e w8 ⟨rfl,hb⟩)
    have HK8:=hid (Kp.sb HK7.out hb)
    have HS8:=hid (show (W.heap.size + 1) ≤ w8.heap.size from Nat.le_trans HS7.out (hb).size)
    have HBr8:=hid (HBr7.out.own hb)
    have HOk8:=hid (OwnL.below HOk7.out hb)
    have HP8:=hid (HP7.out.next hb)
    have HR8:=HR7
    clear HK7 HS7 HBr7 HOk7
    clear hb HP7 HR7
    obtain ⟨o9,h9,hr9⟩:=bind_run HR8.out
    have hcall:=Tl.at (must_word hE in_wend) HP8.out h9
    have HC:=hid hcall;have HR9:=hid hr9
    clear hcall h9 hr9 HR8 HP8
    unfold pB at HC
    try unfold methV at HC
    go_wp2_with fail
    ((with_reducible refine HC.out.mono ?_);rintro e w9 ⟨hk,hm⟩)
    clear HC
    rcases o9 with ⟨r9,x9⟩ | ⟨r9⟩
    rotate_left
    ·obtain ⟨j,hj,hd,rfl⟩:=hm
     obtain rfl : o = .bad r9:=(Option.some.inj HR9.out).symm
     exact ⟨rfl,Kp.tr HK8.out hk,j,hj,hd,rfl⟩
    obtain ⟨v9,j9,rfl,hp,rfl,hR⟩:=hm
    have HK9:=hid (Kp.tr HK8.out hk)
    have HS9:=hid (show (W.heap.size + 1) ≤ w9.heap.size from Nat.le_trans HS8.out (hk).size)
    have HBr9:=hid (Kp.blk' (n:=W.heap.size) HBr8.out hk HNP.out (Nat.le_refl _))
    have HOk9:=hid (OwnL.kp HOk8.out hk (fun k hk=>HNP.out k (by omega)))
    have HP9:=hid hp
    obtain rfl:=hR
    clear hk hp
    have hl:=HR9.out
    clear HR9
    dsimp only at hl
    have HR9:=hid hl
    clear hl
    clear HK8 HS8 HBr8 HOk8
    go_wp2_with fail
    ((with_reducible refine (node_calls _ _ _ _ _ _).mono ?_);rintro e w10 ⟨rfl,hb⟩)
    have HK10:=hid (Kp.sb HK9.out hb)
    have HS10:=hid (show (W.heap.size + 1) ≤ w10.heap.size from Nat.le_trans HS9.out (hb).size)
    have HBr10:=hid (HBr9.out.own hb)
    have HOk10:=hid (OwnL.below HOk9.out hb)
    have HP10:=hid (HP9.out.next hb)
    have hx:=HOk10.out.kids
    have hx2 : KidsAt (Fr (W.heap.size + 1) w10) w10 (mk 14 eB (flat bs)).kids (.slice ak (mk 14 eB (flat bs)).kids.len ck):=by rw [show (mk 14 eB (flat bs)).kids.len = (flat bs).length from (Fo.ofL_len _).trans (by simp)];exact hx
    have hfin:=fin_node hE (x:=(mk 14 eB (flat bs))) H00.out HP10.out HK10.out (Nat.le_refl _) HBr10.out hx2
    obtain rfl : o = .ok (E.l.drop j9) (mk 14 eB (flat bs)):=(Option.some.inj HR9.out).symm
    have rc0:=HBr10.out.cell 0;have rf0:=HBr10.out.frozen 0
    have rc1:=HBr10.out.cell 1;have rf1:=HBr10.out.frozen 1
    have rc2:=HBr10.out.cell 2;have rf2:=HBr10.out.frozen 2
    have hln : (mk 14 eB (flat bs)).kids.len = (flat bs).length:=(Fo.ofL_len _).trans (by simp)
    have g0:=hfin.1.cell 0;have g1:=hfin.1.cell 1;have g2 : _ = some (Value.slice ak (mk 14 eB (flat bs)).kids.len ck):=hfin.1.cell 2
    have hF2:=hfin.2
    dsimp only [nV] at hF2
    rw [hln] at hF2 g0 g1 g2
    simp only [mk] at g0 g1 g2
    have HF:=hid hF2
    clear hfin hx hx2 hln hF2
    go_wp2_with fail
    refine bodyPost_ret (v:=.agg #[.int .i64 14,.string eB,.slice ak (flat bs).length ck]) (by simp [results,Tryz.results70,go_sem,g0,g1,g2]) rfl ?_
    exact HF.out
end Go.Proofs.YtlklhkkjcfmefaaGreatDoor.pa
namespace Go.Proofs.YtlklhkkjcfmefaaGreatDoor.pa
open Go.Lib (hid)
open Go.RowKit nd pr sx ed
theorem keyed_true {E : Env} (hE : EnvOk E) {g : FuncId} (hen : Enters g) {q : Pa Nd} (hq : Tl E q RN g #[pB E]) (kd : Int) {S : Nat → Prop} (x : Nd) (a : Option Addr) (c : Nat) : ∀ W i o,KidsAt S W x.kids (.slice a x.kids.len c) → OldS E W S → Ps E W i → ((.look fun t=>if op colon t = true then need colon (q.bind fun y=>.ret (mk kd eB [x,y])) else .ret (mk kd eB [x])) : Pa Nd).run (E.l.drop i) = some o → Calls Tryz.prog 156 #[pB E,.int .i64 kd,.agg (nV x a c),.bool true,methV g E.B] W (Post E (RNS S) W o):=by
 intro W i o hxi hos hp hr
 have HXI:=hid hxi;have HOS:=hid hos;clear hxi hos
 simp only [need_bind colon] at hr
 have HNP:=hid hp.far;have H00:=hid hp
 obtain ⟨W0,hW0⟩ : ∃ W0,(W.alloc (.cells (nV x a c) 32)).alloc (.cells nodeZ 32) = W0:=⟨_,rfl⟩
 have hb0 : Below W.heap.size W W0:=by rw [← hW0];exact ((Below.refl _ W).alloc (Nat.le_refl _) _).alloc (by simp) _
 have hk0 : Blk W0 (W.heap.size + 1) 32 nodeZ:=by rw [← hW0];simpa using Blk.new (W.alloc (.cells (nV x a c) 32)) 32 nodeZ
 have hk1 : Blk W0 W.heap.size 32 (nV x a c):=by rw [← hW0];exact (Blk.new W _ _).alloc _
 have hs0 : W.heap.size + 2 ≤ W0.heap.size:=by rw [← hW0];simp
 have HW0:=hid hW0;have HK0:=hid (Kp.of_below (E:=E) hb0);have HP0:=hid (hp.next hb0);have HS0:=hid hs0;have HR0:=hid hr
 have HBr0:=hid hk0;have HBn0:=hid hk1;have HLn:=hid (Nat.le_refl W.heap.size)
 clear hW0 hb0 hk0 hk1 hs0 hp hr
 unfold pB methV
 go_enter Tryz.func156,Tryz.ntmps156
 go_upto_region 1 with fail
 rw [HW0.out]
 have HXn0:=hid (kidsS_below (kidsS_of (n:=(W.heap.size + 2)) HXI.out) (show Below W.heap.size W W0 by rw [← HW0.out];exact ((Below.refl _ W).alloc (Nat.le_refl _) _).alloc (by simp) _) HOS.out (Nat.le_refl _))
 have hl:=HR0.out
 clear HR0
 rw [run_look] at hl
 obtain ⟨t,ht⟩ : ∃ t,tk E i = t:=⟨_,rfl⟩
 have HNX:=hid (fun W' (hb : Below W0.heap.size W0 W')=>next_calls hE (HP0.out.next hb))
 have hnx:=HNX.out
 clear HNX
 rw [ht] at hnx
 have HNX:=hid hnx
 rw [show tok (E.l.drop i) = t from ht] at hl
 obtain ⟨c,hc⟩ : ∃ c,op colon t = c:=⟨_,rfl⟩
 rw [hc] at hl
 have HR0:=hid hl;have HTt:=hid ht;have HCt:=hid hc
 clear hl hnx ht
 have hv:=same_op hc
 clear hc
 have hq1:=run_sameV;have hq2:=run_otherV;have hq3:=guard_eqV;have hq4:=guard_neV
 unfold pB at HNX
 go_wp2_with fail
 ((with_reducible refine (HNX.out _ (Below.refl _ _)).mono ?_);rintro e w1 ⟨rfl,hb⟩)
 have HK1:=hid (Kp.sb HK0.out hb)
 have HS1:=hid (show (W.heap.size + 2) ≤ w1.heap.size from Nat.le_trans HS0.out (hb).size)
 have HBr1:=hid (HBr0.out.own hb)
 have HBn1:=hid (HBn0.out.own hb)
 have HXn1:=hid (kidsS_below HXn0.out hb HOS.out (by have:=HS0.out;omega))
 have HP1:=hid (HP0.out.next hb)
 have HR1:=HR0
 clear HK0 HS0 HBr0 HBn0 HXn0
 clear hb HNX HP0 HR0
 go_wp2_with fail
 ((with_reducible refine (op_calls' _ _).mono ?_);rintro e w2 ⟨rfl,hb⟩)
 have HK2:=hid (Kp.sb HK1.out hb)
 have HS2:=hid (show (W.heap.size + 2) ≤ w2.heap.size from Nat.le_trans HS1.out (hb).size)
 have HBr2:=hid (HBr1.out.own hb)
 have HBn2:=hid (HBn1.out.own hb)
 have HXn2:=hid (kidsS_below HXn1.out hb HOS.out (by have:=HS1.out;omega))
 have HP2:=hid (HP1.out.next hb)
 have HR2:=HR1
 clear HK1 HS1 HBr1 HBn1 HXn1
 clear hb HP1 HR1
 have HNEn:=hid (Nat.lt_succ_self W.heap.size)
 cases c with
 | true =>
  have hl:=HR2.out
  clear HR2
  rw [if_yes] at hl
  have HR2:=hid hl
  clear hl
  go_wp2_with fail
  ((with_reducible refine (op_calls' _ _).mono ?_);rintro e w3 ⟨rfl,hb⟩)
  have HK3:=hid (Kp.sb HK2.out hb)
  have HS3:=hid (show (W.heap.size + 2) ≤ w3.heap.size from Nat.le_trans HS2.out (hb).size)
  have HBr3:=hid (HBr2.out.own hb)
  have HBn3:=hid (HBn2.out.own hb)
  have HXn3:=hid (kidsS_below HXn2.out hb HOS.out (by have:=HS2.out;omega))
  have HP3:=hid (HP2.out.next hb)
  have HR3:=HR2
  clear HK2 HS2 HBr2 HBn2 HXn2
  clear hb HP2 HR2
  obtain ⟨o4,h4,hr4⟩:=bind_run HR3.out
  have hcall:=Tl.at (must_op hE in_colon) HP3.out h4
  have HC:=hid hcall;have HR4:=hid hr4
  clear hcall h4 hr4 HR3 HP3
  unfold pB at HC
  try unfold methV at HC
  go_wp2_with fail
  ((with_reducible refine HC.out.mono ?_);rintro e w4 ⟨hk,hm⟩)
  clear HC
  rcases o4 with ⟨r4,x4⟩ | ⟨r4⟩
  rotate_left
  ·obtain ⟨j,hj,hd,rfl⟩:=hm
   obtain rfl : o = .bad r4:=(Option.some.inj HR4.out).symm
   exact ⟨rfl,Kp.tr HK3.out hk,j,hj,hd,rfl⟩
  obtain ⟨v4,j4,rfl,hp,rfl,hR⟩:=hm
  have HK4:=hid (Kp.tr HK3.out hk)
  have HS4:=hid (show (W.heap.size + 2) ≤ w4.heap.size from Nat.le_trans HS3.out (hk).size)
  have HBr4:=hid (Kp.blk' (n:=W.heap.size) HBr3.out hk HNP.out (Nat.le_succ _))
  have HBn4:=hid (Kp.blk' (n:=W.heap.size) HBn3.out hk HNP.out HLn.out)
  have HXn4:=hid (kidsS_kp HXn3.out hk (fun k hk=>HNP.out k (by omega)) HOS.out (by have:=HS3.out;omega))
  have HP4:=hid hp
  obtain rfl:=hR
  clear hk hp
  have hl:=HR4.out
  clear HR4
  dsimp only at hl
  have HR4:=hid hl
  clear hl
  clear HK3 HS3 HBr3 HBn3 HXn3
  go_upto_region 4 with fail
  have hb:=(Below.refl w4.heap.size w4).drew
  have HK5:=hid (Kp.sb HK4.out hb)
  have HS5:=hid (show (W.heap.size + 2) ≤ w4.drew.heap.size from Nat.le_trans HS4.out (hb).size)
  have HBr5:=hid (HBr4.out.own hb)
  have HBn5:=hid (HBn4.out.own hb)
  have HXn5:=hid (kidsS_below HXn4.out hb HOS.out (by have:=HS4.out;omega))
  have HP5:=hid (HP4.out.next hb)
  have HR5:=HR4
  clear HK4 HS4 HBr4 HBn4 HXn4
  clear hb HP4 HR4
  have hS0 : C3 W.heap.size (.int .i64 x.k) (.string x.t) (.slice a x.kids.len c) w4.drew:=C3.of HBn5.out
  have hnen : (W.heap.size + 1) ≠ W.heap.size:=by have:=HNEn.out;omega
  obtain ⟨o6,h6,hr6⟩:=bind_run HR5.out
  have hcall:=Tl.at hq HP5.out h6
  have HC:=hid hcall;have HR6:=hid hr6
  clear hcall h6 hr6 HR5 HP5
  unfold pB at HC
  try unfold methV at HC
  go_region_held (fun u=>C3 W.heap.size (.int .i64 x.k) (.string x.t) (.slice a x.kids.len c) u)
   (first | assumption | exact C3.alloc (by assumption) _ | exact C3.set (by assumption) hnen _ _ _)
   (first
    | ((with_reducible refine HC.out.mono ?_);rintro e w6 ⟨hk,hm⟩;clear HC;rcases o6 with ⟨r6,x6⟩ | ⟨r6⟩;rotate_left;(obtain ⟨j,hj,hd,rfl⟩:=hm;obtain rfl : o = .bad r6:=(Option.some.inj HR6.out).symm;exact ⟨rfl,Kp.tr HK5.out hk,j,hj,hd,rfl⟩);obtain ⟨v6,j6,rfl,hp,rfl,hR⟩:=hm;have HK6:=hid (Kp.tr HK5.out hk);have HS6:=hid (show (W.heap.size + 2) ≤ w6.heap.size from Nat.le_trans HS5.out (hk).size);have HBr6:=hid (Kp.blk' (n:=W.heap.size) HBr5.out hk HNP.out (Nat.le_succ _));have HBn6:=hid (Kp.blk' (n:=W.heap.size) HBn5.out hk HNP.out HLn.out);have HXn6:=hid (kidsS_kp HXn5.out hk (fun k hk=>HNP.out k (by omega)) HOS.out (by have:=HS5.out;omega));have HP6:=hid hp;obtain ⟨ay,cy,rfl,hx⟩:=kids_new (n:=(W.heap.size + 2)) hR HS5.out;have HXy6:=hid hx;clear hk hp hR hx;have hl:=HR6.out;clear HR6;dsimp only at hl;have HR6:=hid hl;clear hl;clear HK5 HS5 HBr5 HBn5 HXn5;have hS6 : C3 W.heap.size (.int .i64 x.k) (.string x.t) (.slice a x.kids.len c) w6:=C3.of HBn6.out)
    | (go_at_call 85;(with_reducible refine (node_calls _ _ _ _ _ _).mono ?_);rintro e w7 ⟨rfl,hbn⟩;have hrow:=Blk.new w6 32 #[.int .i64 x.k,.string x.t,.slice a x.kids.len c,.int .i64 x6.k,.string x6.t,.slice ay x6.kids.len cy];have hba : Below w6.heap.size w6 (w6.alloc (.cells #[.int .i64 x.k,.string x.t,.slice a x.kids.len c,.int .i64 x6.k,.string x6.t,.slice ay x6.kids.len cy] 32)):=(Below.refl _ _).alloc (Nat.le_refl _) _;have hb:=hba.trans (hbn.mono hba.size);have hrw:=hrow.own hbn;have HK7:=hid (Kp.sb HK6.out hb);have HS7:=hid (show (W.heap.size + 2) ≤ w7.heap.size from Nat.le_trans HS6.out (hb).size);have HBr7:=hid (HBr6.out.own hb);have HBn7:=hid (HBn6.out.own hb);have HXn7:=hid (kidsS_below HXn6.out hb HOS.out (by have:=HS6.out;omega));have HXy7:=hid (kids_below HXy6.out hb);have HP7:=hid (HP6.out.next hb);have hx:=rowS2 HXn7.out (kidsS_fr (S:=S) HXy7.out) hrw HS6.out;have hS7 : C3 W.heap.size (.int .i64 x.k) (.string x.t) (.slice a x.kids.len c) w7:=C3.of HBn7.out;have rc0:=HBr7.out.cell 0;have rf0:=HBr7.out.frozen 0;have rc1:=HBr7.out.cell 1;have rf1:=HBr7.out.frozen 1;have rc2:=HBr7.out.cell 2;have rf2:=HBr7.out.frozen 2))
  have hfin:=fin_nodeS hE (x:=(mk kd eB [x,x6])) H00.out HOS.out HP7.out HK7.out (Nat.le_succ _) HBr7.out hx
  obtain rfl : o = .ok (E.l.drop j6) (mk kd eB [x,x6]):=(Option.some.inj HR6.out).symm
  have g0:=hfin.1.cell 0;have g1:=hfin.1.cell 1;have g2:=hfin.1.cell 2
  have HF:=hid hfin.2
  simp only [mk,Fo.ofL,Fo.len] at g0 g1 g2
  clear hfin
  go_wp2_with fail
  refine bodyPost_ret (v:=.agg (nV (mk kd eB [x,x6]) (some ⟨w6.heap.size,0,none⟩) 2)) (by simp [results,Tryz.results156,go_sem,g0,g1,g2,mk,Fo.ofL,Fo.len]) rfl ?_
  exact HF.out
 | false =>
  have hl:=HR2.out
  clear HR2
  rw [if_no] at hl
  have HR2:=hid hl
  clear hl
  have nc0:=HBn2.out.cell 0;have nf0:=HBn2.out.frozen 0
  have nc1:=HBn2.out.cell 1;have nf1:=HBn2.out.frozen 1
  have nc2:=HBn2.out.cell 2;have nf2:=HBn2.out.frozen 2
  have hrow:=Blk.new w2 32 #[.int .i64 x.k,.string x.t,.slice a x.kids.len c]
  have hba : Below w2.heap.size w2 (w2.alloc (.cells #[.int .i64 x.k,.string x.t,.slice a x.kids.len c] 32)):=(Below.refl _ _).alloc (Nat.le_refl _) _
  go_wp2_with fail
  ((with_reducible refine (node_calls _ _ _ _ _ _).mono ?_);rintro e w3 ⟨rfl,hbn⟩)
  have hb:=hba.trans (hbn.mono hba.size)
  have hrw:=hrow.own hbn
  have HK3:=hid (Kp.sb HK2.out hb)
  have HS3:=hid (show (W.heap.size + 2) ≤ w3.heap.size from Nat.le_trans HS2.out (hb).size)
  have HBr3:=hid (HBr2.out.own hb)
  have HBn3:=hid (HBn2.out.own hb)
  have HXn3:=hid (kidsS_below HXn2.out hb HOS.out (by have:=HS2.out;omega))
  have HP3:=hid (HP2.out.next hb)
  have hx:=rowS1 HXn3.out hrw HS2.out
  have hfin:=fin_nodeS hE (x:=mk kd eB [x]) H00.out HOS.out HP3.out HK3.out (Nat.le_succ _) HBr3.out hx
  obtain rfl : o = .ok (E.l.drop i) (mk kd eB [x]):=(Option.some.inj HR2.out).symm
  have rc0:=HBr3.out.cell 0;have rf0:=HBr3.out.frozen 0
  have rc1:=HBr3.out.cell 1;have rf1:=HBr3.out.frozen 1
  have rc2:=HBr3.out.cell 2;have rf2:=HBr3.out.frozen 2
  have g0:=hfin.1.cell 0;have g1:=hfin.1.cell 1;have g2:=hfin.1.cell 2
  have HF:=hid hfin.2
  simp only [mk,Fo.ofL,Fo.len] at g0 g1 g2
  clear hfin
  go_wp2_with fail
  refine bodyPost_ret (v:=.agg (nV (mk kd eB [x]) (some ⟨w2.heap.size,0,none⟩) 1)) (by simp [results,Tryz.results156,go_sem,g0,g1,g2,mk,Fo.ofL,Fo.len]) rfl ?_
  exact HF.out
theorem keyed_false {E : Env} (hE : EnvOk E) {g : FuncId} (hen : Enters g) {q : Pa Nd} (hq : Tl E q RN g #[pB E]) (kd : Int) {S : Nat → Prop} (x : Nd) (a : Option Addr) (c : Nat) : ∀ W i o,KidsAt S W x.kids (.slice a x.kids.len c) → OldS E W S → Ps E W i → ((need colon (q.bind fun y=>.ret (mk kd eB [x,y]))) : Pa Nd).run (E.l.drop i) = some o → Calls Tryz.prog 156 #[pB E,.int .i64 kd,.agg (nV x a c),.bool false,methV g E.B] W (Post E (RNS S) W o):=by
 intro W i o hxi hos hp hr
 have HXI:=hid hxi;have HOS:=hid hos;clear hxi hos
 simp only [need_bind colon] at hr
 have HNP:=hid hp.far;have H00:=hid hp
 obtain ⟨W0,hW0⟩ : ∃ W0,(W.alloc (.cells (nV x a c) 32)).alloc (.cells nodeZ 32) = W0:=⟨_,rfl⟩
 have hb0 : Below W.heap.size W W0:=by rw [← hW0];exact ((Below.refl _ W).alloc (Nat.le_refl _) _).alloc (by simp) _
 have hk0 : Blk W0 (W.heap.size + 1) 32 nodeZ:=by rw [← hW0];simpa using Blk.new (W.alloc (.cells (nV x a c) 32)) 32 nodeZ
 have hk1 : Blk W0 W.heap.size 32 (nV x a c):=by rw [← hW0];exact (Blk.new W _ _).alloc _
 have hs0 : W.heap.size + 2 ≤ W0.heap.size:=by rw [← hW0];simp
 have HW0:=hid hW0;have HK0:=hid (Kp.of_below (E:=E) hb0);have HP0:=hid (hp.next hb0);have HS0:=hid hs0;have HR0:=hid hr
 have HBr0:=hid hk0;have HBn0:=hid hk1;have HLn:=hid (Nat.le_refl W.heap.size)
 clear hW0 hb0 hk0 hk1 hs0 hp hr
 unfold pB methV
 go_enter Tryz.func156,Tryz.ntmps156
 go_upto_region 1 with fail
 rw [HW0.out]
 have HXn0:=hid (kidsS_below (kidsS_of (n:=(W.heap.size + 2)) HXI.out) (show Below W.heap.size W W0 by rw [← HW0.out];exact ((Below.refl _ W).alloc (Nat.le_refl _) _).alloc (by simp) _) HOS.out (Nat.le_refl _))
 have HNEn:=hid (Nat.lt_succ_self W.heap.size)
 go_wp2_with fail
 ((with_reducible refine (op_calls' _ _).mono ?_);rintro e w1 ⟨rfl,hb⟩)
 have HK1:=hid (Kp.sb HK0.out hb)
 have HS1:=hid (show (W.heap.size + 2) ≤ w1.heap.size from Nat.le_trans HS0.out (hb).size)
 have HBr1:=hid (HBr0.out.own hb)
 have HBn1:=hid (HBn0.out.own hb)
 have HXn1:=hid (kidsS_below HXn0.out hb HOS.out (by have:=HS0.out;omega))
 have HP1:=hid (HP0.out.next hb)
 have HR1:=HR0
 clear HK0 HS0 HBr0 HBn0 HXn0
 clear hb HP0 HR0
 obtain ⟨o2,h2,hr2⟩:=bind_run HR1.out
 have hcall:=Tl.at (must_op hE in_colon) HP1.out h2
 have HC:=hid hcall;have HR2:=hid hr2
 clear hcall h2 hr2 HR1 HP1
 unfold pB at HC
 try unfold methV at HC
 go_wp2_with fail
 ((with_reducible refine HC.out.mono ?_);rintro e w2 ⟨hk,hm⟩)
 clear HC
 rcases o2 with ⟨r2,x2⟩ | ⟨r2⟩
 rotate_left
 ·obtain ⟨j,hj,hd,rfl⟩:=hm
  obtain rfl : o = .bad r2:=(Option.some.inj HR2.out).symm
  exact ⟨rfl,Kp.tr HK1.out hk,j,hj,hd,rfl⟩
 obtain ⟨v2,j2,rfl,hp,rfl,hR⟩:=hm
 have HK2:=hid (Kp.tr HK1.out hk)
 have HS2:=hid (show (W.heap.size + 2) ≤ w2.heap.size from Nat.le_trans HS1.out (hk).size)
 have HBr2:=hid (Kp.blk' (n:=W.heap.size) HBr1.out hk HNP.out (Nat.le_succ _))
 have HBn2:=hid (Kp.blk' (n:=W.heap.size) HBn1.out hk HNP.out HLn.out)
 have HXn2:=hid (kidsS_kp HXn1.out hk (fun k hk=>HNP.out k (by omega)) HOS.out (by have:=HS1.out;omega))
 have HP2:=hid hp
 obtain rfl:=hR
 clear hk hp
 have hl:=HR2.out
 clear HR2
 dsimp only at hl
 have HR2:=hid hl
 clear hl
 clear HK1 HS1 HBr1 HBn1 HXn1
 go_upto_region 4 with fail
 have hb:=(Below.refl w2.heap.size w2).drew
 have HK3:=hid (Kp.sb HK2.out hb)
 have HS3:=hid (show (W.heap.size + 2) ≤ w2.drew.heap.size from Nat.le_trans HS2.out (hb).size)
 have HBr3:=hid (HBr2.out.own hb)
 have HBn3:=hid (HBn2.out.own hb)
 have HXn3:=hid (kidsS_below HXn2.out hb HOS.out (by have:=HS2.out;omega))
 have HP3:=hid (HP2.out.next hb)
 have HR3:=HR2
 clear HK2 HS2 HBr2 HBn2 HXn2
 clear hb HP2 HR2
 have hS0 : C3 W.heap.size (.int .i64 x.k) (.string x.t) (.slice a x.kids.len c) w2.drew:=C3.of HBn3.out
 have hnen : (W.heap.size + 1) ≠ W.heap.size:=by have:=HNEn.out;omega
 obtain ⟨o4,h4,hr4⟩:=bind_run HR3.out
 have hcall:=Tl.at hq HP3.out h4
 have HC:=hid hcall;have HR4:=hid hr4
 clear hcall h4 hr4 HR3 HP3
 unfold pB at HC
 try unfold methV at HC
 go_region_held (fun u=>C3 W.heap.size (.int .i64 x.k) (.string x.t) (.slice a x.kids.len c) u)
  (first | assumption | exact C3.alloc (by assumption) _ | exact C3.set (by assumption) hnen _ _ _)
  (first
   | ((with_reducible refine HC.out.mono ?_);rintro e w4 ⟨hk,hm⟩;clear HC;rcases o4 with ⟨r4,x4⟩ | ⟨r4⟩;rotate_left;(obtain ⟨j,hj,hd,rfl⟩:=hm;obtain rfl : o = .bad r4:=(Option.some.inj HR4.out).symm;exact ⟨rfl,Kp.tr HK3.out hk,j,hj,hd,rfl⟩);obtain ⟨v4,j4,rfl,hp,rfl,hR⟩:=hm;have HK4:=hid (Kp.tr HK3.out hk);have HS4:=hid (show (W.heap.size + 2) ≤ w4.heap.size from Nat.le_trans HS3.out (hk).size);have HBr4:=hid (Kp.blk' (n:=W.heap.size) HBr3.out hk HNP.out (Nat.le_succ _));have HBn4:=hid (Kp.blk' (n:=W.heap.size) HBn3.out hk HNP.out HLn.out);have HXn4:=hid (kidsS_kp HXn3.out hk (fun k hk=>HNP.out k (by omega)) HOS.out (by have:=HS3.out;omega));have HP4:=hid hp;obtain ⟨ay,cy,rfl,hx⟩:=kids_new (n:=(W.heap.size + 2)) hR HS3.out;have HXy4:=hid hx;clear hk hp hR hx;have hl:=HR4.out;clear HR4;dsimp only at hl;have HR4:=hid hl;clear hl;clear HK3 HS3 HBr3 HBn3 HXn3;have hS4 : C3 W.heap.size (.int .i64 x.k) (.string x.t) (.slice a x.kids.len c) w4:=C3.of HBn4.out)
   | (go_at_call 85;(with_reducible refine (node_calls _ _ _ _ _ _).mono ?_);rintro e w5 ⟨rfl,hbn⟩;have hrow:=Blk.new w4 32 #[.int .i64 x.k,.string x.t,.slice a x.kids.len c,.int .i64 x4.k,.string x4.t,.slice ay x4.kids.len cy];have hba : Below w4.heap.size w4 (w4.alloc (.cells #[.int .i64 x.k,.string x.t,.slice a x.kids.len c,.int .i64 x4.k,.string x4.t,.slice ay x4.kids.len cy] 32)):=(Below.refl _ _).alloc (Nat.le_refl _) _;have hb:=hba.trans (hbn.mono hba.size);have hrw:=hrow.own hbn;have HK5:=hid (Kp.sb HK4.out hb);have HS5:=hid (show (W.heap.size + 2) ≤ w5.heap.size from Nat.le_trans HS4.out (hb).size);have HBr5:=hid (HBr4.out.own hb);have HBn5:=hid (HBn4.out.own hb);have HXn5:=hid (kidsS_below HXn4.out hb HOS.out (by have:=HS4.out;omega));have HXy5:=hid (kids_below HXy4.out hb);have HP5:=hid (HP4.out.next hb);have hx:=rowS2 HXn5.out (kidsS_fr (S:=S) HXy5.out) hrw HS4.out;have hS5 : C3 W.heap.size (.int .i64 x.k) (.string x.t) (.slice a x.kids.len c) w5:=C3.of HBn5.out;have rc0:=HBr5.out.cell 0;have rf0:=HBr5.out.frozen 0;have rc1:=HBr5.out.cell 1;have rf1:=HBr5.out.frozen 1;have rc2:=HBr5.out.cell 2;have rf2:=HBr5.out.frozen 2))
 have hfin:=fin_nodeS hE (x:=(mk kd eB [x,x4])) H00.out HOS.out HP5.out HK5.out (Nat.le_succ _) HBr5.out hx
 obtain rfl : o = .ok (E.l.drop j4) (mk kd eB [x,x4]):=(Option.some.inj HR4.out).symm
 have g0:=hfin.1.cell 0;have g1:=hfin.1.cell 1;have g2:=hfin.1.cell 2
 have HF:=hid hfin.2
 simp only [mk,Fo.ofL,Fo.len] at g0 g1 g2
 clear hfin
 go_wp2_with fail
 refine bodyPost_ret (v:=.agg (nV (mk kd eB [x,x4]) (some ⟨w4.heap.size,0,none⟩) 2)) (by simp [results,Tryz.results156,go_sem,g0,g1,g2,mk,Fo.ofL,Fo.len]) rfl ?_
 exact HF.out
end Go.Proofs.YtlklhkkjcfmefaaGreatDoor.pa
