/- Ground of the law: PaP9, PaP21. -/
import Derived.Test.YtlklhkkjcfmefaaGreatDoorQe18
import Derived.Test.YtlklhkkjcfmefaaGreatDoorQe17
set_option maxRecDepth 100000
set_option maxHeartbeats 8000000
set_option linter.unusedVariables false
set_option linter.unusedSimpArgs false
namespace Go.Proofs.YtlklhkkjcfmefaaGreatDoor.pa
open Go.Lib (hid)
open Go.RowKit nd pr sx ed
def quotL (q : Pa Nd) : Nat → Pa (List Nd)
 | 0=>.out
 | n + 1=>.look fun t=>if (t.1 == 11) = true then .ret [] else q.bind fun x=>(quotL q n).bind fun l=>.ret (x :: l)
def quotP (q : Pa Nd) (n : Nat) (fm : ByteArray) : Pa Nd:=(ofP 7).bind fun _=>(quotL q n).bind fun l=>(ofP 11).bind fun _=>.ret (mk 6 fm l)
theorem quotL_yes {q : Pa Nd} {m : Nat} {l : List Tk} {j : Nat} {o : Out (List Nd)} (h : (quotL q m).run (l.drop j) = some o) (hs : ((tok (l.drop j)).1 == 11) = true) : o = .ok (l.drop j) []:=by
 cases m with
 | zero=>cases h
 | succ m =>
  unfold quotL at h
  rw [run_look,hs,if_yes] at h
  exact (Option.some.inj h).symm
theorem quotL_no {q : Pa Nd} {m : Nat} {l : List Tk} {j : Nat} {o : Out (List Nd)} (h : (quotL q m).run (l.drop j) = some o) (hs : ((tok (l.drop j)).1 == 11) = false) :
  ∃ m' o4,m = m' + 1 ∧ q.run (l.drop j) = some o4 ∧ (match o4 with | .ok r y=>∃ o3,(quotL q m').run r = some o3 ∧ o = addL [y] o3 | .bad r=>o = .bad r):=by
 cases m with
 | zero=>cases h
 | succ m =>
  unfold quotL at h
  rw [run_look,hs,if_no] at h
  obtain ⟨o4,h5,h6⟩:=bind_run h
  refine ⟨m,o4,rfl,h5,?_⟩
  cases o4 with
  | bad r=>exact (Option.some.inj h6).symm
  | ok r y =>
   obtain ⟨o3,h3,h4⟩:=bind_run h6
   refine ⟨o3,h3,?_⟩
   cases o3 with
   | bad r=>exact (Option.some.inj h4).symm
   | ok r l=>exact (Option.some.inj h4).symm
structure LQ (E : Env) (q : Pa Nd) (n : Nat) (o : Out (List Nd)) (W : World) (v : Value) (wr : World) (acc : List Nd) (m j : Nat) : Prop where
 own : OwnL (W.heap.size + 1) wr acc v
 ps : Ps E wr j
 kp : Kp E W wr
 box : Blk wr W.heap.size 32 nodeZ
 size : W.heap.size + 1 ≤ wr.heap.size
 many : acc.length + m = n
 rest : ∃ o2,(quotL q m).run (E.l.drop j) = some o2 ∧ o = addL acc o2
theorem quoted_tl {E : Env} (hE : EnvOk E) {g : FuncId} (hen : Enters g) {q : Pa Nd} (hq : Tl E q RN g #[pB E]) (fm : ByteArray) (n : Nat) (hn : n ≤ 100000000) : Tl E (quotP q n fm) RN 129 #[pB E,.string fm,methV g E.B]:=by
 intro W i o hp hr
 unfold quotP at hr
 have HNN:=hid hn;have HEN:=hid hen;have HQ:=hid hq;have HNXT:=hid (fun w j (h : Ps E w j)=>next_calls hE h)
 clear hn hen hq
 have HNP:=hid hp.far;have H00:=hid hp
 obtain ⟨W0,hW0⟩ : ∃ W0,W.alloc (.cells nodeZ 32) = W0:=⟨_,rfl⟩
 have hb0 : Below W.heap.size W W0:=by rw [← hW0];exact (Below.refl _ W).alloc (Nat.le_refl _) _
 have hk0 : Blk W0 W.heap.size 32 nodeZ:=by rw [← hW0];exact Blk.new W _ _
 have hs0 : W.heap.size + 1 ≤ W0.heap.size:=by rw [← hW0];simp
 have HW0:=hid hW0;have HK0:=hid (Kp.of_below (E:=E) hb0);have HP0:=hid (hp.next hb0);have HS0:=hid hs0;have HR0:=hid hr
 have HBr0:=hid hk0
 clear hW0 hb0 hk0 hs0 hp hr
 unfold pB methV
 go_enter Tryz.func129,Tryz.ntmps129
 go_upto_region 1 with fail
 rw [HW0.out]
 obtain ⟨o1,h1,hr1⟩:=bind_run HR0.out
 have hcall:=Tl.at (of_tl hE 7 (by decide)) HP0.out h1
 have HC:=hid hcall;have HR1:=hid hr1
 clear hcall h1 hr1 HR0 HP0
 unfold pB at HC
 try unfold methV at HC
 go_wp2_with fail
 ((with_reducible refine HC.out.mono ?_);rintro e w1 ⟨hk,hm⟩)
 clear HC
 rcases o1 with ⟨r1,x1⟩ | ⟨r1⟩
 rotate_left
 ·obtain ⟨j,hj,hd,rfl⟩:=hm
  obtain rfl : o = .bad r1:=(Option.some.inj HR1.out).symm
  exact ⟨rfl,Kp.tr HK0.out hk,j,hj,hd,rfl⟩
 obtain ⟨v1,j1,rfl,hp,rfl,hR⟩:=hm
 have HK1:=hid (Kp.tr HK0.out hk)
 have HS1:=hid (show (W.heap.size + 1) ≤ w1.heap.size from Nat.le_trans HS0.out (hk).size)
 have HBr1:=hid (Kp.blk' (n:=W.heap.size) HBr0.out hk HNP.out (Nat.le_refl _))
 have HP1:=hid hp
 obtain rfl:=hR
 clear hk hp
 have hl:=HR1.out
 clear HR1
 dsimp only at hl
 have HR1:=hid hl
 clear hl
 clear HK0 HS0 HBr0
 obtain ⟨oq,hq1,hr2⟩:=bind_run HR1.out
 have hli : LQ E q n oq W (.slice none 0 0) w1 [] n j1:=⟨OwnL.nil _ _,HP1.out,HK1.out,HBr1.out,HS1.out,by simp,oq,hq1,(addL_nil _).symm⟩
 have HLI:=hid hli;have HR2:=hid hr2
 clear hq1 hr2 hli HK1 HS1 HBr1 HP1 HR1
 unfold pB at HNXT
 go_wp2_with fail
 go_loopw [7] (fun v wr=>∃ acc m j,LQ E q n oq W v wr acc m j) (fun v _=>n + 5 - lenOf v)
 case atStart=>exact ⟨_,_,_,HLI.out⟩
 case round =>
  clear HLI
  obtain ⟨acc,m,j,hli⟩:=hrel
  have hrest:=hli.rest
  obtain ⟨o2,h2,ho⟩:=hrest
  obtain ⟨av,cv,hv⟩:=hli.own.slice
  obtain ⟨ln,hln⟩ : ∃ ln,acc.length = ln:=⟨_,rfl⟩
  have HLN:=hid hln
  rw [hln] at hv
  subst hv
  obtain ⟨t,ht⟩ : ∃ t,tk E j = t:=⟨_,rfl⟩
  have hnx:=HNXT.out wr j hli.ps
  rw [ht] at hnx
  obtain ⟨c,hc⟩ : ∃ c,(t.1 == 11) = c:=⟨_,rfl⟩
  have hc2 : (t.1 != 11) = !c:=by unfold bne;rw [hc]
  have hct : ((tok (E.l.drop j)).1 == 11) = c:=by rw [show tok (E.l.drop j) = t from ht];exact hc
  have hq1:=field_kindV
  have HNX:=hid hnx;have HLI:=hid hli;have H2:=hid h2;have HO:=hid ho;have HC:=hid hct
  clear hnx hli h2 ho hct ht hln
  cases c with
  | true =>
   have hfin:=quotL_yes H2.out HC.out
   have HFIN:=hid hfin
   clear hfin
   go_wp2_with fail
   ((with_reducible refine HNX.out.mono ?_);rintro e w20 ⟨rfl,hb⟩)
   have HK20:=hid (Kp.sb HLI.out.kp hb);have HP20:=hid (HLI.out.ps.next hb);have HBr20:=hid (HLI.out.box.own hb);have HS20:=hid (Nat.le_trans HLI.out.size hb.size)
   have HOl20:=hid (HLI.out.own.below hb)
   have hr20:=HR2.out
   rw [HO.out,HFIN.out] at hr20
   simp only [addL,List.append_nil] at hr20
   have HR20:=hid hr20
   clear hr20 hb HNX HR2 HO HFIN HC H2
   obtain rfl:=HLN.out
   obtain ⟨o21,h21,hr21⟩:=bind_run HR20.out
   have hcall:=Tl.at (of_tl hE 11 (by decide)) HP20.out h21
   have HC:=hid hcall;have HR21:=hid hr21
   clear hcall h21 hr21 HR20 HP20
   unfold pB at HC
   try unfold methV at HC
   go_wp2_with fail
   ((with_reducible refine HC.out.mono ?_);rintro e w21 ⟨hk,hm⟩)
   clear HC
   rcases o21 with ⟨r21,x21⟩ | ⟨r21⟩
   rotate_left
   ·obtain ⟨j,hj,hd,rfl⟩:=hm
    obtain rfl : o = .bad r21:=(Option.some.inj HR21.out).symm
    exact ⟨rfl,Kp.tr HK20.out hk,j,hj,hd,rfl⟩
   obtain ⟨v21,j21,rfl,hp,rfl,hR⟩:=hm
   have HK21:=hid (Kp.tr HK20.out hk)
   have HS21:=hid (show (W.heap.size + 1) ≤ w21.heap.size from Nat.le_trans HS20.out (hk).size)
   have HBr21:=hid (Kp.blk' (n:=W.heap.size) HBr20.out hk HNP.out (Nat.le_refl _))
   have HOl21:=hid (OwnL.kp HOl20.out hk (fun k hk=>HNP.out k (by omega)))
   have HP21:=hid hp
   obtain rfl:=hR
   clear hk hp
   have hl:=HR21.out
   clear HR21
   dsimp only at hl
   have HR21:=hid hl
   clear hl
   clear HK20 HS20 HBr20 HOl20
   go_wp2_with fail
   ((with_reducible refine (node_calls _ _ _ _ _ _).mono ?_);rintro e w22 ⟨rfl,hb⟩)
   have HK22:=hid (Kp.sb HK21.out hb)
   have HS22:=hid (show (W.heap.size + 1) ≤ w22.heap.size from Nat.le_trans HS21.out (hb).size)
   have HBr22:=hid (HBr21.out.own hb)
   have HOl22:=hid (OwnL.below HOl21.out hb)
   have HP22:=hid (HP21.out.next hb)
   have hx:=HOl22.out.kids
   have hx2 : KidsAt (Fr (W.heap.size + 1) w22) w22 (mk 6 fm acc).kids (.slice av (mk 6 fm acc).kids.len cv):=by rw [show (mk 6 fm acc).kids.len = acc.length from (Fo.ofL_len _).trans (by simp)];exact hx
   have hfin:=fin_node hE (x:=(mk 6 fm acc)) H00.out HP22.out HK22.out (Nat.le_refl _) HBr22.out hx2
   obtain rfl : o = .ok (E.l.drop j21) (mk 6 fm acc):=(Option.some.inj HR21.out).symm
   have rc0:=HBr22.out.cell 0;have rf0:=HBr22.out.frozen 0
   have rc1:=HBr22.out.cell 1;have rf1:=HBr22.out.frozen 1
   have rc2:=HBr22.out.cell 2;have rf2:=HBr22.out.frozen 2
   have hln : (mk 6 fm acc).kids.len = acc.length:=(Fo.ofL_len _).trans (by simp)
   have g0:=hfin.1.cell 0;have g1:=hfin.1.cell 1;have g2 : _ = some (Value.slice av (mk 6 fm acc).kids.len cv):=hfin.1.cell 2
   have hF2:=hfin.2
   dsimp only [nV] at hF2
   rw [hln] at hF2 g0 g1 g2
   simp only [mk] at g0 g1 g2
   have HF:=hid hF2
   clear hfin hx hx2 hln hF2
   go_wp2_with fail
   refine bodyPost_ret (v:=.agg #[.int .i64 6,.string fm,.slice av acc.length cv]) (by simp [results,Tryz.results129,go_sem,g0,g1,g2]) rfl ?_
   exact HF.out
  | false =>
   obtain ⟨m',o4,rfl,h4,hm4⟩:=quotL_no H2.out HC.out
   have H4:=hid h4;have HM4:=hid hm4
   clear h4 hm4 H2 HC
   go_wp2_with fail
   ((with_reducible refine HNX.out.mono ?_);rintro e w2 ⟨rfl,hb⟩)
   have hcall:=HQ.out w2 j o4 (HLI.out.ps.next hb) H4.out
   have HK:=hid (Kp.of_below (E:=E) hb);have HC:=hid hcall
   clear hb hcall HNX
   unfold pB at HC
   have hen:=HEN.out
   go_wp2_with fail
   ((with_reducible refine HC.out.mono ?_);rintro e w3 ⟨hk3,hm⟩)
   rcases o4 with ⟨r4,x4⟩ | ⟨r4⟩
   rotate_left
   ·obtain ⟨j',hj,hd,rfl⟩:=hm
    have e1 : o2 = .bad r4:=HM4.out
    have hr3:=HR2.out
    rw [HO.out,e1] at hr3
    have HR3:=hid (show o = .bad r4 from (Option.some.inj hr3).symm)
    clear e1 hr3
    go_wp2_with fail
    rw [HR3.out]
    exact ⟨rfl,Kp.tr (Kp.tr HLI.out.kp HK.out) hk3,j',hj,hd,rfl⟩
   obtain ⟨v4,j4,rfl,hp4,rfl,hR⟩:=hm
   obtain ⟨s4,rfl,hks⟩:=hR
   obtain ⟨a4,c4,rfl,_⟩:=hks.slice
   have hfar : ∀ k,W.heap.size + 1 ≤ k → ¬ Pm E k:=fun k e=>HNP.out k (by omega)
   have hown2:=HLI.out.own.kp HK.out hfar
   have hown3:=hown2.kp hk3 hfar
   have hs2 : W.heap.size + 1 ≤ w2.heap.size:=Nat.le_trans HLI.out.size HK.out.size
   have hs3 : W.heap.size + 1 ≤ w3.heap.size:=Nat.le_trans hs2 hk3.size
   have hsin:=kids_since hks hown2 hs2
   have hrow:=Blk.new w3 32 (nV x4 a4 c4)
   have hba : Below w3.heap.size w3 (w3.alloc (.cells (nV x4 a4 c4) 32)):=(Below.refl _ _).alloc (Nat.le_refl _) _
   have hown4:=hown3.below hba
   have HOWN:=hid hown4;have HCE:=hid (cells_one (aw_below hsin hba));have HROW:=hid hrow
   have HP4:=hid (hp4.next hba);have HKA:=hid (Kp.sb (Kp.tr (Kp.tr HLI.out.kp HK.out) hk3) hba)
   have HSA:=hid (Nat.le_trans hs3 hba.size)
   have HBX:=hid ((Kp.blk' (n:=W.heap.size) (Kp.blk' (n:=W.heap.size) HLI.out.box HK.out HNP.out (Nat.le_refl _)) hk3 HNP.out (Nat.le_refl _)).own hba)
   have HMANY:=hid HLI.out.many
   clear hk3 hp4 hks hown2 hown3 hown4 hs2 hs3 hsin hrow hba hfar HC
   go_wp2_with (at_builtin;refine wpList_append_nodes rfl _ _ rfl (W.heap.size + 1) j4 i acc [x4] _ rfl HOWN.out (by have:=HMANY.out;have:=HNN.out;omega) (by simp) w3.heap.size [.int .i64 x4.k,.string x4.t,.slice a4 x4.kids.len c4] rfl HROW.out HCE.out HSA.out HP4.out HKA.out (Nat.le_succ _) HNP.out H00.out ?_;intro v' w' hgrew;obtain ⟨a5,c5,hv5⟩:=hgrew.own.slice;rw [show (acc ++ [x4]).length = acc.length + 1 by simp] at hv5;subst hv5;have HG:=hid hgrew;clear hgrew)
   obtain ⟨o3,h3,e3⟩:=HM4.out
   refine ⟨⟨acc ++ [x4],m',j4,HG.out.own,HG.out.ps,HG.out.kp,HG.out.blk _ _ _ HBX.out (Nat.lt_succ_self _),Nat.le_trans HSA.out HG.out.size,by have:=HMANY.out;simp;omega,o3,h3,?_⟩,?_⟩
   ·rw [HO.out,e3]
    cases o3 <;> simp [addL]
   ·have:=HMANY.out
    have:=HLN.out
    simp [lenOf];omega
theorem plain_tl {E : Env} (hE : EnvOk E) (n : Nat) (hn : n ≤ 100000000) : Tl E (quotP ((ofP 8).bind fun s=>.ret (mk 7 s [])) n eB) RN 131 #[pB E]:=by
 intro W i o hp hr
 have hmf : ∀ (fn : Go.Fn) (first cap : Array Value) (w : World),(Instr.makeFunc fn first cap).run Tryz.prog w = .ok (.func fn first cap) w:=fun _ _ _ _=>rfl
 have HNP:=hid hp.far;have H00:=hid hp
 obtain ⟨W0,hW0⟩ : ∃ W0,W.alloc (.cells nodeZ 32) = W0:=⟨_,rfl⟩
 have hb0 : Below W.heap.size W W0:=by rw [← hW0];exact (Below.refl _ W).alloc (Nat.le_refl _) _
 have hk0 : Blk W0 W.heap.size 32 nodeZ:=by rw [← hW0];exact Blk.new W _ _
 have hs0 : W.heap.size + 1 ≤ W0.heap.size:=by rw [← hW0];simp
 have HW0:=hid hW0;have HK0:=hid (Kp.of_below (E:=E) hb0);have HP0:=hid (hp.next hb0);have HS0:=hid hs0;have HR0:=hid hr
 have HBr0:=hid hk0
 clear hW0 hb0 hk0 hs0 hp hr
 unfold pB
 go_enter Tryz.func131,Tryz.ntmps131
 go_upto_region 1 with fail
 rw [HW0.out]
 have hl:=run_tail HR0.out
 clear HR0
 have HR0:=hid hl
 clear hl
 obtain ⟨o1,h1,hr1⟩:=bind_run HR0.out
 have hcall:=Tl.at (quoted_tl hE en_chunk (chunk_tl hE) eB n hn) HP0.out h1
 have HC:=hid hcall;have HR1:=hid hr1
 clear hcall h1 hr1 HR0 HP0
 unfold pB at HC
 try unfold methV at HC
 go_wp2_with fail
 ((with_reducible refine HC.out.mono ?_);rintro e w1 ⟨hk,hm⟩)
 clear HC
 rcases o1 with ⟨r1,x1⟩ | ⟨r1⟩
 rotate_left
 ·obtain ⟨j,hj,hd,rfl⟩:=hm
  obtain rfl : o = .bad r1:=(Option.some.inj HR1.out).symm
  exact ⟨rfl,Kp.tr HK0.out hk,j,hj,hd,rfl⟩
 obtain ⟨v1,j1,rfl,hp,rfl,hR⟩:=hm
 have HK1:=hid (Kp.tr HK0.out hk)
 have HS1:=hid (show (W.heap.size + 1) ≤ w1.heap.size from Nat.le_trans HS0.out (hk).size)
 have HBr1:=hid (Kp.blk' (n:=W.heap.size) HBr0.out hk HNP.out (Nat.le_refl _))
 have HP1:=hid hp
 obtain ⟨ax,cx,rfl,hx⟩:=kids_new (n:=(W.heap.size + 1)) hR HS0.out
 have HXx1:=hid hx
 clear hk hp hR hx
 have hl:=HR1.out
 clear HR1
 dsimp only at hl
 have HR1:=hid hl
 clear hl
 clear HK0 HS0 HBr0
 obtain rfl : o = .ok (E.l.drop j1) x1:=(Option.some.inj HR1.out).symm
 have hfin:=fin_node hE H00.out HP1.out HK1.out (Nat.le_refl _) HBr1.out HXx1.out
 have rc0:=HBr1.out.cell 0;have rf0:=HBr1.out.frozen 0
 have rc1:=HBr1.out.cell 1;have rf1:=HBr1.out.frozen 1
 have rc2:=HBr1.out.cell 2;have rf2:=HBr1.out.frozen 2
 have g0:=hfin.1.cell 0;have g1:=hfin.1.cell 1;have g2:=hfin.1.cell 2
 have HF:=hid hfin.2
 skip
 clear hfin
 go_wp2_with fail
 refine bodyPost_ret (v:=.agg (nV x1 ax cx)) (by simp [results,Tryz.results131,go_sem,g0,g1,g2]) rfl ?_
 exact HF.out
theorem format_tl {E : Env} (hE : EnvOk E) {qp : Pa Nd} (hq : Tl E qp RN 130 #[pB E]) (n : Nat) (hn : n ≤ 100000000) : Tl E ((ofP 12).bind fun fm=>.look fun t=>if (t.1 == 7) = true then quotP qp n fm else .ret (mk 8 fm [])) RN 78 #[pB E]:=by
 intro W i o hp hr
 have hmf : ∀ (fn : Go.Fn) (first cap : Array Value) (w : World),(Instr.makeFunc fn first cap).run Tryz.prog w = .ok (.func fn first cap) w:=fun _ _ _ _=>rfl
 have HNP:=hid hp.far;have H00:=hid hp
 obtain ⟨W0,hW0⟩ : ∃ W0,W.alloc (.cells nodeZ 32) = W0:=⟨_,rfl⟩
 have hb0 : Below W.heap.size W W0:=by rw [← hW0];exact (Below.refl _ W).alloc (Nat.le_refl _) _
 have hk0 : Blk W0 W.heap.size 32 nodeZ:=by rw [← hW0];exact Blk.new W _ _
 have hs0 : W.heap.size + 1 ≤ W0.heap.size:=by rw [← hW0];simp
 have HW0:=hid hW0;have HK0:=hid (Kp.of_below (E:=E) hb0);have HP0:=hid (hp.next hb0);have HS0:=hid hs0;have HR0:=hid hr
 have HBr0:=hid hk0
 clear hW0 hb0 hk0 hs0 hp hr
 unfold pB
 go_enter Tryz.func78,Tryz.ntmps78
 go_upto_region 1 with fail
 rw [HW0.out]
 obtain ⟨o1,h1,hr1⟩:=bind_run HR0.out
 have hcall:=Tl.at (of_tl hE 12 (by decide)) HP0.out h1
 have HC:=hid hcall;have HR1:=hid hr1
 clear hcall h1 hr1 HR0 HP0
 unfold pB at HC
 try unfold methV at HC
 go_wp2_with fail
 ((with_reducible refine HC.out.mono ?_);rintro e w1 ⟨hk,hm⟩)
 clear HC
 rcases o1 with ⟨r1,x1⟩ | ⟨r1⟩
 rotate_left
 ·obtain ⟨j,hj,hd,rfl⟩:=hm
  obtain rfl : o = .bad r1:=(Option.some.inj HR1.out).symm
  exact ⟨rfl,Kp.tr HK0.out hk,j,hj,hd,rfl⟩
 obtain ⟨v1,j1,rfl,hp,rfl,hR⟩:=hm
 have HK1:=hid (Kp.tr HK0.out hk)
 have HS1:=hid (show (W.heap.size + 1) ≤ w1.heap.size from Nat.le_trans HS0.out (hk).size)
 have HBr1:=hid (Kp.blk' (n:=W.heap.size) HBr0.out hk HNP.out (Nat.le_refl _))
 have HP1:=hid hp
 obtain rfl:=hR
 clear hk hp
 have hl:=HR1.out
 clear HR1
 dsimp only at hl
 have HR1:=hid hl
 clear hl
 clear HK0 HS0 HBr0
 have hl:=HR1.out
 clear HR1
 rw [run_look] at hl
 obtain ⟨t,ht⟩ : ∃ t,tk E j1 = t:=⟨_,rfl⟩
 have HNX:=hid (fun W' (hb : Below w1.heap.size w1 W')=>next_calls hE (HP1.out.next hb))
 have hnx:=HNX.out
 clear HNX
 rw [ht] at hnx
 have HNX:=hid hnx
 rw [show tok (E.l.drop j1) = t from ht] at hl
 obtain ⟨c,hc⟩ : ∃ c,(t.1 == 7) = c:=⟨_,rfl⟩
 rw [hc] at hl
 have HR1:=hid hl;have HTt:=hid ht;have HCt:=hid hc
 clear hl hnx ht
 have hq1:=field_kindV
 unfold pB at HNX
 go_wp2_with fail
 ((with_reducible refine (HNX.out _ (Below.refl _ _)).mono ?_);rintro e w2 ⟨rfl,hb⟩)
 have HK2:=hid (Kp.sb HK1.out hb)
 have HS2:=hid (show (W.heap.size + 1) ≤ w2.heap.size from Nat.le_trans HS1.out (hb).size)
 have HBr2:=hid (HBr1.out.own hb)
 have HP2:=hid (HP1.out.next hb)
 have HR2:=HR1
 clear HK1 HS1 HBr1
 clear hb HNX HP1 HR1
 cases c with
 | true =>
  have hl:=HR2.out
  clear HR2
  rw [if_yes] at hl
  have HR2:=hid hl
  clear hl
  have hl:=run_tail HR2.out
  clear HR2
  have HR2:=hid hl
  clear hl
  obtain ⟨o3,h3,hr3⟩:=bind_run HR2.out
  have hcall:=Tl.at (quoted_tl hE en_piece hq x1 n hn) HP2.out h3
  have HC:=hid hcall;have HR3:=hid hr3
  clear hcall h3 hr3 HR2 HP2
  unfold pB at HC
  try unfold methV at HC
  go_wp2_with fail
  ((with_reducible refine HC.out.mono ?_);rintro e w3 ⟨hk,hm⟩)
  clear HC
  rcases o3 with ⟨r3,x3⟩ | ⟨r3⟩
  rotate_left
  ·obtain ⟨j,hj,hd,rfl⟩:=hm
   obtain rfl : o = .bad r3:=(Option.some.inj HR3.out).symm
   exact ⟨rfl,Kp.tr HK2.out hk,j,hj,hd,rfl⟩
  obtain ⟨v3,j3,rfl,hp,rfl,hR⟩:=hm
  have HK3:=hid (Kp.tr HK2.out hk)
  have HS3:=hid (show (W.heap.size + 1) ≤ w3.heap.size from Nat.le_trans HS2.out (hk).size)
  have HBr3:=hid (Kp.blk' (n:=W.heap.size) HBr2.out hk HNP.out (Nat.le_refl _))
  have HP3:=hid hp
  obtain ⟨ax,cx,rfl,hx⟩:=kids_new (n:=(W.heap.size + 1)) hR HS2.out
  have HXx3:=hid hx
  clear hk hp hR hx
  have hl:=HR3.out
  clear HR3
  dsimp only at hl
  have HR3:=hid hl
  clear hl
  clear HK2 HS2 HBr2
  obtain rfl : o = .ok (E.l.drop j3) x3:=(Option.some.inj HR3.out).symm
  have hfin:=fin_node hE H00.out HP3.out HK3.out (Nat.le_refl _) HBr3.out HXx3.out
  have rc0:=HBr3.out.cell 0;have rf0:=HBr3.out.frozen 0
  have rc1:=HBr3.out.cell 1;have rf1:=HBr3.out.frozen 1
  have rc2:=HBr3.out.cell 2;have rf2:=HBr3.out.frozen 2
  have g0:=hfin.1.cell 0;have g1:=hfin.1.cell 1;have g2:=hfin.1.cell 2
  have HF:=hid hfin.2
  skip
  clear hfin
  go_wp2_with fail
  refine bodyPost_ret (v:=.agg (nV x3 ax cx)) (by simp [results,Tryz.results78,go_sem,g0,g1,g2]) rfl ?_
  exact HF.out
 | false =>
  have hl:=HR2.out
  clear HR2
  rw [if_no] at hl
  have HR2:=hid hl
  clear hl
  go_wp2_with fail
  ((with_reducible refine (node_calls _ _ _ _ _ _).mono ?_);rintro e w3 ⟨rfl,hbn⟩)
  have hb:=hbn
  have HK3:=hid (Kp.sb HK2.out hb)
  have HS3:=hid (show (W.heap.size + 1) ≤ w3.heap.size from Nat.le_trans HS2.out (hb).size)
  have HBr3:=hid (HBr2.out.own hb)
  have HP3:=hid (HP2.out.next hb)
  have hx:=kids_nil (Fr (W.heap.size + 1) w3) w3 none 0
  have hfin:=fin_node hE (x:=mk 8 x1 []) H00.out HP3.out HK3.out (Nat.le_refl _) HBr3.out hx
  obtain rfl : o = .ok (E.l.drop j1) (mk 8 x1 []):=(Option.some.inj HR2.out).symm
  have rc0:=HBr3.out.cell 0;have rf0:=HBr3.out.frozen 0
  have rc1:=HBr3.out.cell 1;have rf1:=HBr3.out.frozen 1
  have rc2:=HBr3.out.cell 2;have rf2:=HBr3.out.frozen 2
  have g0:=hfin.1.cell 0;have g1:=hfin.1.cell 1;have g2:=hfin.1.cell 2
  have HF:=hid hfin.2
  simp only [mk,Fo.ofL,Fo.len] at g0 g1 g2
  clear hfin
  go_wp2_with fail
  refine bodyPost_ret (v:=.agg (nV (mk 8 x1 []) none 0)) (by simp [results,Tryz.results78,go_sem,g0,g1,g2,mk,Fo.ofL,Fo.len]) rfl ?_
  exact HF.out
theorem text_tl {E : Env} (hE : EnvOk E) {qp : Pa Nd} (hq : Tl E qp RN 130 #[pB E]) (n : Nat) (hn : n ≤ 100000000) : Tl E (.look fun t=>if (t.1 == 12) = true then .move (quotP qp n t.2) else quotP qp n eB) RN 79 #[pB E]:=by
 intro W i o hp hr
 have hmf : ∀ (fn : Go.Fn) (first cap : Array Value) (w : World),(Instr.makeFunc fn first cap).run Tryz.prog w = .ok (.func fn first cap) w:=fun _ _ _ _=>rfl
 have HNP:=hid hp.far;have H00:=hid hp
 obtain ⟨W0,hW0⟩ : ∃ W0,W.alloc (.cells nodeZ 32) = W0:=⟨_,rfl⟩
 have hb0 : Below W.heap.size W W0:=by rw [← hW0];exact (Below.refl _ W).alloc (Nat.le_refl _) _
 have hk0 : Blk W0 W.heap.size 32 nodeZ:=by rw [← hW0];exact Blk.new W _ _
 have hs0 : W.heap.size + 1 ≤ W0.heap.size:=by rw [← hW0];simp
 have HW0:=hid hW0;have HK0:=hid (Kp.of_below (E:=E) hb0);have HP0:=hid (hp.next hb0);have HS0:=hid hs0;have HR0:=hid hr
 have HBr0:=hid hk0
 clear hW0 hb0 hk0 hs0 hp hr
 unfold pB
 go_enter Tryz.func79,Tryz.ntmps79
 go_upto_region 1 with fail
 rw [HW0.out]
 have hl:=HR0.out
 clear HR0
 rw [run_look] at hl
 obtain ⟨t,ht⟩ : ∃ t,tk E i = t:=⟨_,rfl⟩
 have HNX:=hid (fun W' (hb : Below W0.heap.size W0 W')=>next_calls hE (HP0.out.next hb))
 have hnx:=HNX.out
 clear HNX
 rw [ht] at hnx
 have HNX:=hid hnx
 rw [show tok (E.l.drop i) = t from ht] at hl
 obtain ⟨c,hc⟩ : ∃ c,(t.1 == 12) = c:=⟨_,rfl⟩
 rw [hc] at hl
 have HR0:=hid hl;have HTt:=hid ht;have HCt:=hid hc
 clear hl hnx ht
 have hq1:=field_kindV
 unfold pB at HNX
 go_wp2_with fail
 ((with_reducible refine (HNX.out _ (Below.refl _ _)).mono ?_);rintro e w1 ⟨rfl,hb⟩)
 have HK1:=hid (Kp.sb HK0.out hb)
 have HS1:=hid (show (W.heap.size + 1) ≤ w1.heap.size from Nat.le_trans HS0.out (hb).size)
 have HBr1:=hid (HBr0.out.own hb)
 have HP1:=hid (HP0.out.next hb)
 have HR1:=HR0
 clear HK0 HS0 HBr0
 clear hb HNX HP0 HR0
 cases c with
 | true =>
  have hl:=HR1.out
  clear HR1
  rw [if_yes] at hl
  have HR1:=hid hl
  clear hl
  have htk:=take_calls hE HP1.out (tok_lt HTt.out (by rw [eq_of_beq HCt.out];decide))
  rw [HTt.out] at htk
  unfold pB at htk
  have HTK:=hid htk
  clear htk
  go_wp2_with fail
  ((with_reducible refine HTK.out.mono ?_);rintro e w2 ⟨rfl,hk,hp⟩)
  have HK2:=hid (Kp.tr HK1.out hk)
  have HS2:=hid (show (W.heap.size + 1) ≤ w2.heap.size from Nat.le_trans HS1.out (hk).size)
  have HBr2:=hid (Kp.blk' (n:=W.heap.size) HBr1.out hk HNP.out (Nat.le_refl _))
  have hl:=HR1.out
  obtain ⟨j2,hj⟩ : ∃ n,i + 1 = n:=⟨_,rfl⟩
  rw [hj] at hp
  have HP2:=hid hp
  rw [run_move,hj] at hl
  have HR2:=hid hl
  clear HK1 HS1 HBr1
  clear hk hp hj hl HTK HR1 HP1
  have hl:=run_tail HR2.out
  clear HR2
  have HR2:=hid hl
  clear hl
  obtain ⟨o3,h3,hr3⟩:=bind_run HR2.out
  have hcall:=Tl.at (quoted_tl hE en_piece hq t.2 n hn) HP2.out h3
  have HC:=hid hcall;have HR3:=hid hr3
  clear hcall h3 hr3 HR2 HP2
  unfold pB at HC
  try unfold methV at HC
  go_wp2_with fail
  ((with_reducible refine HC.out.mono ?_);rintro e w3 ⟨hk,hm⟩)
  clear HC
  rcases o3 with ⟨r3,x3⟩ | ⟨r3⟩
  rotate_left
  ·obtain ⟨j,hj,hd,rfl⟩:=hm
   obtain rfl : o = .bad r3:=(Option.some.inj HR3.out).symm
   exact ⟨rfl,Kp.tr HK2.out hk,j,hj,hd,rfl⟩
  obtain ⟨v3,j3,rfl,hp,rfl,hR⟩:=hm
  have HK3:=hid (Kp.tr HK2.out hk)
  have HS3:=hid (show (W.heap.size + 1) ≤ w3.heap.size from Nat.le_trans HS2.out (hk).size)
  have HBr3:=hid (Kp.blk' (n:=W.heap.size) HBr2.out hk HNP.out (Nat.le_refl _))
  have HP3:=hid hp
  obtain ⟨ax,cx,rfl,hx⟩:=kids_new (n:=(W.heap.size + 1)) hR HS2.out
  have HXx3:=hid hx
  clear hk hp hR hx
  have hl:=HR3.out
  clear HR3
  dsimp only at hl
  have HR3:=hid hl
  clear hl
  clear HK2 HS2 HBr2
  obtain rfl : o = .ok (E.l.drop j3) x3:=(Option.some.inj HR3.out).symm
  have hfin:=fin_node hE H00.out HP3.out HK3.out (Nat.le_refl _) HBr3.out HXx3.out
  have rc0:=HBr3.out.cell 0;have rf0:=HBr3.out.frozen 0
  have rc1:=HBr3.out.cell 1;have rf1:=HBr3.out.frozen 1
  have rc2:=HBr3.out.cell 2;have rf2:=HBr3.out.frozen 2
  have g0:=hfin.1.cell 0;have g1:=hfin.1.cell 1;have g2:=hfin.1.cell 2
  have HF:=hid hfin.2
  skip
  clear hfin
  go_wp2_with fail
  refine bodyPost_ret (v:=.agg (nV x3 ax cx)) (by simp [results,Tryz.results79,go_sem,g0,g1,g2]) rfl ?_
  exact HF.out
 | false =>
  have hl:=HR1.out
  clear HR1
  rw [if_no] at hl
  have HR1:=hid hl
  clear hl
  have hl:=run_tail HR1.out
  clear HR1
  have HR1:=hid hl
  clear hl
  obtain ⟨o2,h2,hr2⟩:=bind_run HR1.out
  have hcall:=Tl.at (quoted_tl hE en_piece hq eB n hn) HP1.out h2
  have HC:=hid hcall;have HR2:=hid hr2
  clear hcall h2 hr2 HR1 HP1
  unfold pB at HC
  try unfold methV at HC
  go_wp2_with fail
  ((with_reducible refine HC.out.mono ?_);rintro e w2 ⟨hk,hm⟩)
  clear HC
  rcases o2 with ⟨r2,x2⟩ | ⟨r2⟩
  rotate_left
  ·obtain ⟨j,hj,hd,rfl⟩:=hm
   obtain rfl : o = .bad r2:=(Option.some.inj HR2.out).symm
   exact ⟨rfl,Kp.tr HK1.out hk,j,hj,hd,rfl⟩
  obtain ⟨v2,j2,rfl,hp,rfl,hR⟩:=hm
  have HK2:=hid (Kp.tr HK1.out hk)
  have HS2:=hid (show (W.heap.size + 1) ≤ w2.heap.size from Nat.le_trans HS1.out (hk).size)
  have HBr2:=hid (Kp.blk' (n:=W.heap.size) HBr1.out hk HNP.out (Nat.le_refl _))
  have HP2:=hid hp
  obtain ⟨ax,cx,rfl,hx⟩:=kids_new (n:=(W.heap.size + 1)) hR HS1.out
  have HXx2:=hid hx
  clear hk hp hR hx
  have hl:=HR2.out
  clear HR2
  dsimp only at hl
  have HR2:=hid hl
  clear hl
  clear HK1 HS1 HBr1
  obtain rfl : o = .ok (E.l.drop j2) x2:=(Option.some.inj HR2.out).symm
  have hfin:=fin_node hE H00.out HP2.out HK2.out (Nat.le_refl _) HBr2.out HXx2.out
  have rc0:=HBr2.out.cell 0;have rf0:=HBr2.out.frozen 0
  have rc1:=HBr2.out.cell 1;have rf1:=HBr2.out.frozen 1
  have rc2:=HBr2.out.cell 2;have rf2:=HBr2.out.frozen 2
  have g0:=hfin.1.cell 0;have g1:=hfin.1.cell 1;have g2:=hfin.1.cell 2
  have HF:=hid hfin.2
  skip
  clear hfin
  go_wp2_with fail
  refine bodyPost_ret (v:=.agg (nV x2 ax cx)) (by simp [results,Tryz.results79,go_sem,g0,g1,g2]) rfl ?_
  exact HF.out
theorem root_tl {E : Env} (hE : EnvOk E) {qt : Pa Nd} (hq : Tl E qt RN 79 #[pB E]) : Tl E (need dot (.look fun t=>if (t.1 == 7) = true then qt.bind (fun x=>.ret (mk 22 eB [none0,x])) else if (t.1 == 12) = true then qt.bind (fun x=>.ret (mk 22 eB [none0,x])) else .ret (mk 1 eB []))) RN 64 #[pB E]:=by
 intro W i o hp hr
 rw [need_bind dot] at hr
 have HNP:=hid hp.far;have H00:=hid hp
 obtain ⟨W0,hW0⟩ : ∃ W0,W.alloc (.cells nodeZ 32) = W0:=⟨_,rfl⟩
 have hb0 : Below W.heap.size W W0:=by rw [← hW0];exact (Below.refl _ W).alloc (Nat.le_refl _) _
 have hk0 : Blk W0 W.heap.size 32 nodeZ:=by rw [← hW0];exact Blk.new W _ _
 have hs0 : W.heap.size + 1 ≤ W0.heap.size:=by rw [← hW0];simp
 have HW0:=hid hW0;have HK0:=hid (Kp.of_below (E:=E) hb0);have HP0:=hid (hp.next hb0);have HS0:=hid hs0;have HR0:=hid hr
 have HBr0:=hid hk0
 clear hW0 hb0 hk0 hs0 hp hr
 unfold pB
 go_enter Tryz.func64,Tryz.ntmps64
 go_upto_region 1 with fail
 rw [HW0.out]
 go_wp2_with fail
 ((with_reducible refine (op_calls' _ _).mono ?_);rintro e w1 ⟨rfl,hb⟩)
 have HK1:=hid (Kp.sb HK0.out hb)
 have HS1:=hid (show (W.heap.size + 1) ≤ w1.heap.size from Nat.le_trans HS0.out (hb).size)
 have HBr1:=hid (HBr0.out.own hb)
 have HP1:=hid (HP0.out.next hb)
 have HR1:=HR0
 clear HK0 HS0 HBr0
 clear hb HP0 HR0
 obtain ⟨o2,h2,hr2⟩:=bind_run HR1.out
 have hcall:=Tl.at (must_op hE in_dot) HP1.out h2
 have HC:=hid hcall;have HR2:=hid hr2
 clear hcall h2 hr2 HR1 HP1
 unfold pB at HC
 try unfold methV at HC
 go_wp2_with fail
 ((with_reducible refine HC.out.mono ?_);rintro e w2 ⟨hk,hm⟩)
 clear HC
 rcases o2 with ⟨r2,x2⟩ | ⟨r2⟩
 rotate_left
 ·obtain ⟨j,hj,hd,rfl⟩:=hm
  obtain rfl : o = .bad r2:=(Option.some.inj HR2.out).symm
  exact ⟨rfl,Kp.tr HK1.out hk,j,hj,hd,rfl⟩
 obtain ⟨v2,j2,rfl,hp,rfl,hR⟩:=hm
 have HK2:=hid (Kp.tr HK1.out hk)
 have HS2:=hid (show (W.heap.size + 1) ≤ w2.heap.size from Nat.le_trans HS1.out (hk).size)
 have HBr2:=hid (Kp.blk' (n:=W.heap.size) HBr1.out hk HNP.out (Nat.le_refl _))
 have HP2:=hid hp
 obtain rfl:=hR
 clear hk hp
 have hl:=HR2.out
 clear HR2
 dsimp only at hl
 have HR2:=hid hl
 clear hl
 clear HK1 HS1 HBr1
 have hl:=HR2.out
 clear HR2
 rw [run_look] at hl
 obtain ⟨t,ht⟩ : ∃ t,tk E j2 = t:=⟨_,rfl⟩
 have HNX:=hid (fun W' (hb : Below w2.heap.size w2 W')=>next_calls hE (HP2.out.next hb))
 have hnx:=HNX.out
 clear HNX
 rw [ht] at hnx
 have HNX:=hid hnx
 rw [show tok (E.l.drop j2) = t from ht] at hl
 obtain ⟨c,hc⟩ : ∃ c,(t.1 == 7) = c:=⟨_,rfl⟩
 rw [hc] at hl
 have HR2:=hid hl;have HTt:=hid ht;have HCt:=hid hc
 clear hl hnx ht
 have hq1:=field_kindV
 unfold pB at HNX
 go_wp2_with fail
 ((with_reducible refine (HNX.out _ (Below.refl _ _)).mono ?_);rintro e w3 ⟨rfl,hb⟩)
 have HK3:=hid (Kp.sb HK2.out hb)
 have HS3:=hid (show (W.heap.size + 1) ≤ w3.heap.size from Nat.le_trans HS2.out (hb).size)
 have HBr3:=hid (HBr2.out.own hb)
 have HP3:=hid (HP2.out.next hb)
 have HR3:=HR2
 clear HK2 HS2 HBr2
 clear hb HNX HP2 HR2
 cases c with
 | true =>
  have hl:=HR3.out
  clear HR3
  rw [if_yes] at hl
  have HR3:=hid hl
  clear hl
  obtain ⟨o4,h4,hr4⟩:=bind_run HR3.out
  have hcall:=Tl.at hq HP3.out h4
  have HC:=hid hcall;have HR4:=hid hr4
  clear hcall h4 hr4 HR3 HP3
  unfold pB at HC
  try unfold methV at HC
  go_wp2_with fail
  ((with_reducible refine HC.out.mono ?_);rintro e w4 ⟨hk,hm⟩)
  clear HC
  rcases o4 with ⟨r4,x4⟩ | ⟨r4⟩
  rotate_left
  ·obtain ⟨j,hj,hd,rfl⟩:=hm
   obtain rfl : o = .bad r4:=(Option.some.inj HR4.out).symm
   exact ⟨rfl,Kp.tr HK3.out hk,j,hj,hd,rfl⟩
  obtain ⟨v4,j4,rfl,hp,rfl,hR⟩:=hm
  have HK4:=hid (Kp.tr HK3.out hk)
  have HS4:=hid (show (W.heap.size + 1) ≤ w4.heap.size from Nat.le_trans HS3.out (hk).size)
  have HBr4:=hid (Kp.blk' (n:=W.heap.size) HBr3.out hk HNP.out (Nat.le_refl _))
  have HP4:=hid hp
  obtain ⟨ax,cx,rfl,hx⟩:=kids_new (n:=(W.heap.size + 1)) hR HS3.out
  have HXx4:=hid hx
  clear hk hp hR hx
  have hl:=HR4.out
  clear HR4
  dsimp only at hl
  have HR4:=hid hl
  clear hl
  clear HK3 HS3 HBr3
  have HXz4:=hid (kids_nil (Fr (W.heap.size + 1) w4) w4 none 0)
  have hrow:=Blk.new w4 32 #[.int .i64 none0.k,.string none0.t,.slice none none0.kids.len 0,.int .i64 x4.k,.string x4.t,.slice ax x4.kids.len cx]
  have hba : Below w4.heap.size w4 (w4.alloc (.cells #[.int .i64 none0.k,.string none0.t,.slice none none0.kids.len 0,.int .i64 x4.k,.string x4.t,.slice ax x4.kids.len cx] 32)):=(Below.refl _ _).alloc (Nat.le_refl _) _
  go_wp2_with fail
  ((with_reducible refine (node_calls _ _ _ _ _ _).mono ?_);rintro e w5 ⟨rfl,hbn⟩)
  have hb:=hba.trans (hbn.mono hba.size)
  have hrw:=hrow.own hbn
  have HK5:=hid (Kp.sb HK4.out hb)
  have HS5:=hid (show (W.heap.size + 1) ≤ w5.heap.size from Nat.le_trans HS4.out (hb).size)
  have HBr5:=hid (HBr4.out.own hb)
  have HXx5:=hid (kids_below HXx4.out hb)
  have HXz5:=hid (kids_below HXz4.out hb)
  have HP5:=hid (HP4.out.next hb)
  have hx:=row2 HXz5.out HXx5.out hrw HS4.out
  have hfin:=fin_node hE (x:=mk 22 eB [none0,x4]) H00.out HP5.out HK5.out (Nat.le_refl _) HBr5.out hx
  obtain rfl : o = .ok (E.l.drop j4) (mk 22 eB [none0,x4]):=(Option.some.inj HR4.out).symm
  have rc0:=HBr5.out.cell 0;have rf0:=HBr5.out.frozen 0
  have rc1:=HBr5.out.cell 1;have rf1:=HBr5.out.frozen 1
  have rc2:=HBr5.out.cell 2;have rf2:=HBr5.out.frozen 2
  have g0:=hfin.1.cell 0;have g1:=hfin.1.cell 1;have g2:=hfin.1.cell 2
  have HF:=hid hfin.2
  simp only [mk,Fo.ofL,Fo.len] at g0 g1 g2
  clear hfin
  go_wp2_with fail
  refine bodyPost_ret (v:=.agg (nV (mk 22 eB [none0,x4]) (some ⟨w4.heap.size,0,none⟩) 2)) (by simp [results,Tryz.results64,go_sem,g0,g1,g2,mk,Fo.ofL,Fo.len]) rfl ?_
  exact HF.out
 | false =>
  have hl:=HR3.out
  clear HR3
  rw [if_no] at hl
  have HR3:=hid hl
  clear hl
  obtain ⟨c2,hc2⟩ : ∃ c2,(t.1 == 12) = c2:=⟨_,rfl⟩
  have hl:=HR3.out
  clear HR3
  rw [hc2] at hl
  have HR3:=hid hl
  clear hl
  cases c2 with
  | true =>
   have hl:=HR3.out
   clear HR3
   rw [if_yes] at hl
   have HR3:=hid hl
   clear hl
   obtain ⟨o4,h4,hr4⟩:=bind_run HR3.out
   have hcall:=Tl.at hq HP3.out h4
   have HC:=hid hcall;have HR4:=hid hr4
   clear hcall h4 hr4 HR3 HP3
   unfold pB at HC
   try unfold methV at HC
   go_wp2_with fail
   ((with_reducible refine HC.out.mono ?_);rintro e w4 ⟨hk,hm⟩)
   clear HC
   rcases o4 with ⟨r4,x4⟩ | ⟨r4⟩
   rotate_left
   ·obtain ⟨j,hj,hd,rfl⟩:=hm
    obtain rfl : o = .bad r4:=(Option.some.inj HR4.out).symm
    exact ⟨rfl,Kp.tr HK3.out hk,j,hj,hd,rfl⟩
   obtain ⟨v4,j4,rfl,hp,rfl,hR⟩:=hm
   have HK4:=hid (Kp.tr HK3.out hk)
   have HS4:=hid (show (W.heap.size + 1) ≤ w4.heap.size from Nat.le_trans HS3.out (hk).size)
   have HBr4:=hid (Kp.blk' (n:=W.heap.size) HBr3.out hk HNP.out (Nat.le_refl _))
   have HP4:=hid hp
   obtain ⟨ax,cx,rfl,hx⟩:=kids_new (n:=(W.heap.size + 1)) hR HS3.out
   have HXx4:=hid hx
   clear hk hp hR hx
   have hl:=HR4.out
   clear HR4
   dsimp only at hl
   have HR4:=hid hl
   clear hl
   clear HK3 HS3 HBr3
   have HXz4:=hid (kids_nil (Fr (W.heap.size + 1) w4) w4 none 0)
   have hrow:=Blk.new w4 32 #[.int .i64 none0.k,.string none0.t,.slice none none0.kids.len 0,.int .i64 x4.k,.string x4.t,.slice ax x4.kids.len cx]
   have hba : Below w4.heap.size w4 (w4.alloc (.cells #[.int .i64 none0.k,.string none0.t,.slice none none0.kids.len 0,.int .i64 x4.k,.string x4.t,.slice ax x4.kids.len cx] 32)):=(Below.refl _ _).alloc (Nat.le_refl _) _
   go_wp2_with fail
   ((with_reducible refine (node_calls _ _ _ _ _ _).mono ?_);rintro e w5 ⟨rfl,hbn⟩)
   have hb:=hba.trans (hbn.mono hba.size)
   have hrw:=hrow.own hbn
   have HK5:=hid (Kp.sb HK4.out hb)
   have HS5:=hid (show (W.heap.size + 1) ≤ w5.heap.size from Nat.le_trans HS4.out (hb).size)
   have HBr5:=hid (HBr4.out.own hb)
   have HXx5:=hid (kids_below HXx4.out hb)
   have HXz5:=hid (kids_below HXz4.out hb)
   have HP5:=hid (HP4.out.next hb)
   have hx:=row2 HXz5.out HXx5.out hrw HS4.out
   have hfin:=fin_node hE (x:=mk 22 eB [none0,x4]) H00.out HP5.out HK5.out (Nat.le_refl _) HBr5.out hx
   obtain rfl : o = .ok (E.l.drop j4) (mk 22 eB [none0,x4]):=(Option.some.inj HR4.out).symm
   have rc0:=HBr5.out.cell 0;have rf0:=HBr5.out.frozen 0
   have rc1:=HBr5.out.cell 1;have rf1:=HBr5.out.frozen 1
   have rc2:=HBr5.out.cell 2;have rf2:=HBr5.out.frozen 2
   have g0:=hfin.1.cell 0;have g1:=hfin.1.cell 1;have g2:=hfin.1.cell 2
   have HF:=hid hfin.2
   simp only [mk,Fo.ofL,Fo.len] at g0 g1 g2
   clear hfin
   go_wp2_with fail
   refine bodyPost_ret (v:=.agg (nV (mk 22 eB [none0,x4]) (some ⟨w4.heap.size,0,none⟩) 2)) (by simp [results,Tryz.results64,go_sem,g0,g1,g2,mk,Fo.ofL,Fo.len]) rfl ?_
   exact HF.out
  | false =>
   have hl:=HR3.out
   clear HR3
   rw [if_no] at hl
   have HR3:=hid hl
   clear hl
   go_wp2_with fail
   ((with_reducible refine (node_calls _ _ _ _ _ _).mono ?_);rintro e w4 ⟨rfl,hbn⟩)
   have hb:=hbn
   have HK4:=hid (Kp.sb HK3.out hb)
   have HS4:=hid (show (W.heap.size + 1) ≤ w4.heap.size from Nat.le_trans HS3.out (hb).size)
   have HBr4:=hid (HBr3.out.own hb)
   have HP4:=hid (HP3.out.next hb)
   have hx:=kids_nil (Fr (W.heap.size + 1) w4) w4 none 0
   have hfin:=fin_node hE (x:=mk 1 eB []) H00.out HP4.out HK4.out (Nat.le_refl _) HBr4.out hx
   obtain rfl : o = .ok (E.l.drop j2) (mk 1 eB []):=(Option.some.inj HR3.out).symm
   have rc0:=HBr4.out.cell 0;have rf0:=HBr4.out.frozen 0
   have rc1:=HBr4.out.cell 1;have rf1:=HBr4.out.frozen 1
   have rc2:=HBr4.out.cell 2;have rf2:=HBr4.out.frozen 2
   have g0:=hfin.1.cell 0;have g1:=hfin.1.cell 1;have g2:=hfin.1.cell 2
   have HF:=hid hfin.2
   simp only [mk,Fo.ofL,Fo.len] at g0 g1 g2
   clear hfin
   go_wp2_with fail
   refine bodyPost_ret (v:=.agg (nV (mk 1 eB []) none 0)) (by simp [results,Tryz.results64,go_sem,g0,g1,g2,mk,Fo.ofL,Fo.len]) rfl ?_
   exact HF.out
end Go.Proofs.YtlklhkkjcfmefaaGreatDoor.pa
namespace Go.Proofs.YtlklhkkjcfmefaaGreatDoor.pa
open Go.Lib (hid)
open Go.RowKit nd pr sx ed
def RLB (l : List (Nd × Nd)) (v : Value) (W W' : World) : Prop:=OwnB W.heap.size W' l v
structure LIB (E : Env) (q : Pa (Nd × Nd)) (sep : Tk → Bool) (n : Nat) (t0 : Tk) (o : Out (List (Nd × Nd))) (W : World) (v : Value) (wr : World) (acc : List (Nd × Nd)) (x : Nd × Nd) (m j : Nat) : Prop where
 own : OwnB (W.heap.size + 1) wr (acc ++ [x]) v
 ps : Ps E wr j
 kp : Kp E W wr
 box : Blk wr W.heap.size 49 #[.int .i64 t0.1,.string t0.2]
 size : W.heap.size + 1 ≤ wr.heap.size
 many : acc.length + m = n
 rest : ∃ o2,(listT q sep m x).run (E.l.drop j) = some o2 ∧ o = addL acc o2
theorem listB_tl {E : Env} (hE : EnvOk E) {g : FuncId} (hen : Enters g) {q : Pa (Nd × Nd)} (hq : Tl E q RBr g #[pB E]) (t0 : Tk) (ht0 : t0 ≠ noTk) (sep : Tk → Bool) (hsep : ∀ t,sep t = decide (t = t0)) (n : Nat) (hn : n ≤ 100000000) :
  Tl E (listP q sep n) RLB 120 #[pB E,tokV t0,methV g E.B]:=by
 intro W i o hp hr
 cases n with
 | zero=>cases hr
 | succ n =>
 rw [listP_succ] at hr
 obtain ⟨o1,h1,hr1⟩:=bind_run hr
 have HNP:=hid hp.far;have H00:=hid hp
 obtain ⟨W0,hW0⟩ : ∃ W0,W.alloc (.cells #[.int .i64 t0.1,.string t0.2] 49) = W0:=⟨_,rfl⟩
 have hb0 : Below W.heap.size W W0:=by rw [← hW0];exact (Below.refl _ W).alloc (Nat.le_refl _) _
 have hk0 : Blk W0 W.heap.size 49 #[.int .i64 t0.1,.string t0.2]:=by rw [← hW0];exact Blk.new W _ _
 have hs0 : W.heap.size + 1 ≤ W0.heap.size:=by rw [← hW0];simp
 have hcall:=hq W0 i o1 (hp.next hb0) h1
 have HQ:=hid hq;have HTK:=hid (fun w j (h : Ps E w j) c hc=>took_calls hE h t0 ht0 c hc);have HEN:=hid hen
 have HC:=hid hcall;have HW0:=hid hW0;have HB0:=hid hb0;have HK0:=hid hk0;have HS0:=hid hs0;have HR1:=hid hr1;have HSEP:=hid hsep;have HNN:=hid hn;have HT0:=hid ht0
 clear hcall hW0 hb0 hk0 hs0 hr1 hsep h1 hr hp hq hn ht0
 unfold pB methV tokV
 unfold pB at HC
 unfold pB tokV at HTK
 go_enter Tryz.func120,Tryz.ntmps120
 go_upto_region 1 with fail
 rw [HW0.out]
 go_wp2_with fail
 ((with_reducible refine HC.out.mono ?_);rintro e w1 ⟨hk,hm⟩)
 rcases o1 with ⟨r1,x1⟩ | ⟨r1⟩
 rotate_left
 ·obtain ⟨j,hj,hd,rfl⟩:=hm
  obtain rfl : o = .bad r1:=(Option.some.inj HR1.out).symm
  exact ⟨rfl,Kp.bs HB0.out hk,j,hj,hd,rfl⟩
 obtain ⟨v1,j1,rfl,hp,rfl,hR⟩:=hm
 obtain ⟨a1,c1,a1',c1',rfl,hx,hx'⟩:=hR
 have hrow:=Blk.new w1 133 (brV x1.1 x1.2 a1 c1 a1' c1')
 have hba : Below w1.heap.size w1 (w1.alloc (.cells (brV x1.1 x1.2 a1 c1 a1' c1') 133)):=(Below.refl _ _).alloc (Nat.le_refl _) _
 have hs1 : W.heap.size + 1 ≤ w1.heap.size:=Nat.le_trans HS0.out hk.size
 have hli : LIB E q sep n t0 o W (.slice (some ⟨w1.heap.size,0,none⟩) 1 1) (w1.alloc (.cells (brV x1.1 x1.2 a1 c1 a1' c1') 133)) [] x1 n j1:=by
  refine ⟨ownB_made (l:=[x1]) (cells_two ?_ ?_) hrow hs1 (by unfold maxLen;simp),hp.next hba,Kp.sb (Kp.bs HB0.out hk) hba,(Kp.blk' (n:=W.heap.size) HK0.out hk HNP.out (Nat.le_refl _)).own hba,Nat.le_trans hs1 hba.size,by simp,o,HR1.out,(addL_nil o).symm⟩
  ·exact hx.keep (fun k e=>⟨Nat.le_trans HS0.out e.1,Nat.lt_of_lt_of_le e.2 hba.size,fun e'=>by cases e';exact Nat.lt_irrefl _ e.2⟩) (fun k e=>hba.block k e.2)
  ·exact hx'.keep (fun k e=>⟨Nat.le_trans HS0.out e.1,Nat.lt_of_lt_of_le e.2 hba.size,fun e'=>by cases e';exact Nat.lt_irrefl _ e.2⟩) (fun k e=>hba.block k e.2)
 have HLI:=hid hli
 clear hk hp hx hx' hrow hba hs1 hli HC
 go_wp2_with fail
 go_loopw [7] (fun v wr=>∃ acc x m j,LIB E q sep n t0 o W v wr acc x m j) (fun v _=>n + 5 - lenOf v)
 case atStart=>exact ⟨_,_,_,_,HLI.out⟩
 case round =>
  clear HLI
  obtain ⟨acc,x,m,j,hli⟩:=hrel
  have hrest:=hli.rest
  obtain ⟨o2,h2,ho⟩:=hrest
  obtain ⟨av,cv,hv⟩:=hli.own.slice
  have hlen : (acc ++ [x]).length = acc.length + 1:=by simp
  rw [hlen] at hv
  subst hv
  have b0:=hli.box.cell 0;have b1:=hli.box.cell 1
  obtain ⟨c,hc⟩ : ∃ c,decide (tk E j = t0) = c:=⟨_,rfl⟩
  have htk:=HTK.out wr j hli.ps c hc
  have hsc:=(HSEP.out (tk E j)).trans hc
  obtain ⟨ln,hln⟩ : ∃ ln,acc.length + 1 = ln:=⟨_,rfl⟩
  have HLN:=hid hln
  rw [hln] at hli ⊢
  have HTK2:=hid htk;have HLI:=hid hli;have H2:=hid h2;have HO:=hid ho;have HC:=hid hsc
  clear htk hli h2 ho hc hsc hlen hln
  cases c with
  | false =>
   have hfin:=listT_no H2.out HC.out
   have HFIN:=hid hfin
   clear hfin
   go_wp2_with fail
   ((with_reducible refine HTK2.out.mono ?_);rintro e w2 ⟨rfl,hk,hp⟩)
   have hown:=HLI.out.own.kp hk (fun k e=>HNP.out k (by omega))
   have HK:=hid (Kp.tr HLI.out.kp hk);have HP:=hid (show Ps E w2 j from hp);have HOWN:=hid (hown.mono (Nat.le_succ _))
   clear hk hp hown b0 b1
   go_wp2_with fail
   go_ret
   rw [HO.out,HFIN.out]
   exact ⟨HK.out,_,j,rfl,HP.out,rfl,HOWN.out⟩
  | true =>
   obtain ⟨m',o4,rfl,h4,hm4⟩:=listT_yes H2.out HC.out
   have H4:=hid h4;have HM4:=hid hm4
   clear h4 hm4 H2 HC
   go_wp2_with fail
   ((with_reducible refine HTK2.out.mono ?_);rintro e w2 ⟨rfl,hk,hp⟩)
   have hcall:=HQ.out w2 (j + 1) o4 hp H4.out
   have HK:=hid hk;have HC:=hid hcall
   clear hk hp hcall b0 b1 HTK2
   unfold pB at HC
   have hen:=HEN.out
   go_wp2_with fail
   ((with_reducible refine HC.out.mono ?_);rintro e w3 ⟨hk3,hm⟩)
   rcases o4 with ⟨r4,x4⟩ | ⟨r4⟩
   rotate_left
   ·obtain ⟨j',hj,hd,rfl⟩:=hm
    have e1 : o2 = .bad r4:=HM4.out
    have HE1:=hid e1
    clear e1
    go_wp2_with fail
    rw [HO.out,HE1.out]
    exact ⟨rfl,Kp.tr (Kp.tr HLI.out.kp HK.out) hk3,j',hj,hd,rfl⟩
   obtain ⟨v4,j4,rfl,hp4,rfl,hR⟩:=hm
   obtain ⟨a4,c4,a4',c4',rfl,hks,hks'⟩:=hR
   have hfar : ∀ k,W.heap.size + 1 ≤ k → ¬ Pm E k:=fun k e=>HNP.out k (by omega)
   have hown2:=HLI.out.own.kp HK.out hfar
   have hown3:=hown2.kp hk3 hfar
   have hs2 : W.heap.size + 1 ≤ w2.heap.size:=Nat.le_trans HLI.out.size HK.out.size
   have hs3 : W.heap.size + 1 ≤ w3.heap.size:=Nat.le_trans hs2 hk3.size
   have hsin:=hks.keep (S':=Aw (W.heap.size + 1) w3 (.slice av ln cv)) (fun k e=>kids_auxB e hown2 hs2) (fun _ _=>rfl)
   have hsin':=hks'.keep (S':=Aw (W.heap.size + 1) w3 (.slice av ln cv)) (fun k e=>kids_auxB e hown2 hs2) (fun _ _=>rfl)
   have hrow:=Blk.new w3 133 (brV x4.1 x4.2 a4 c4 a4' c4')
   have hba : Below w3.heap.size w3 (w3.alloc (.cells (brV x4.1 x4.2 a4 c4 a4' c4') 133)):=(Below.refl _ _).alloc (Nat.le_refl _) _
   have hown4:=hown3.below hba
   have HOWN:=hid hown4;have HCE:=hid (cells_two (aw_below hsin hba) (aw_below hsin' hba));have HROW:=hid hrow
   have HP4:=hid (hp4.next hba);have HKA:=hid (Kp.sb (Kp.tr (Kp.tr HLI.out.kp HK.out) hk3) hba)
   have HSA:=hid (Nat.le_trans hs3 hba.size)
   have HBX:=hid ((Kp.blk' (n:=W.heap.size) (Kp.blk' (n:=W.heap.size) HLI.out.box HK.out HNP.out (Nat.le_refl _)) hk3 HNP.out (Nat.le_refl _)).own hba)
   have HMANY:=hid HLI.out.many
   clear hk3 hp4 hks hks' hsin' hown2 hown3 hown4 hs2 hs3 hsin hrow hba hfar HC
   go_wp2_with (at_builtin;refine wpList_append_branches rfl _ _ rfl (W.heap.size + 1) j4 i (acc ++ [x]) [x4] _ rfl HOWN.out (by have:=HMANY.out;have:=HNN.out;simp;omega) (by simp) w3.heap.size [.int .i64 x4.1.k,.string x4.1.t,.slice a4 x4.1.kids.len c4,.int .i64 x4.2.k,.string x4.2.t,.slice a4' x4.2.kids.len c4'] rfl HROW.out HCE.out HSA.out HP4.out HKA.out (Nat.le_succ _) HNP.out H00.out ?_;intro v' w' hgrew;obtain ⟨a5,c5,hv5⟩:=hgrew.own.slice;rw [show (acc ++ [x] ++ [x4]).length = acc.length + 2 by simp] at hv5;subst hv5;have HG:=hid hgrew;clear hgrew)
   obtain ⟨o3,h3,e3⟩:=HM4.out
   refine ⟨⟨acc ++ [x],x4,m',j4,HG.out.own,HG.out.ps,HG.out.kp,HG.out.blk _ _ _ HBX.out (Nat.lt_succ_self _),Nat.le_trans HSA.out HG.out.size,by have:=HMANY.out;simp;omega,o3,h3,?_⟩,?_⟩
   ·rw [HO.out,e3]
    cases o3 <;> simp [addL]
   ·have:=HMANY.out
    have:=HLN.out
    simp [lenOf];omega
end Go.Proofs.YtlklhkkjcfmefaaGreatDoor.pa
