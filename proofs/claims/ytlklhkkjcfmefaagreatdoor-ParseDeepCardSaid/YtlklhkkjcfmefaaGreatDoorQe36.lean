/- Ground of the law: PaP28, ItProg, PaP35. -/
import Derived.Test.YtlklhkkjcfmefaaGreatDoorQe32
import Derived.Test.YtlklhkkjcfmefaaGreatDoorQe33
import Derived.Test.YtlklhkkjcfmefaaGreatDoorQe28
import Derived.Test.YtlklhkkjcfmefaaGreatDoorQe01
import Derived.Test.YtlklhkkjcfmefaaGreatDoorQe07
import Derived.Laws.StructEq
import Derived.DeepKeys5
import Derived.Maps.Own
import Derived.ChangeMaps5
import Derived.Laws.AppendOwnNone
import Derived.Lib.SliceRun
import Derived.Laws.IdiomCopy
import Derived.StillTailTactics
import Derived.Carry
import Derived.Defers
import Derived.Recover
set_option maxRecDepth 100000
set_option maxHeartbeats 8000000
set_option linter.unusedVariables false
set_option linter.unusedSimpArgs false
namespace Go.Proofs.YtlklhkkjcfmefaaGreatDoor.pa
open Go.Lib (hid)
open Go.RowKit nd pr sx ed
def dotT (qp : Nd → ByteArray → Pa Nd) (qx : Pa Nd) (x : Nd) : Pa Nd:=.look fun t=>if t.1 = 0 then .out else .move (.look fun u=>if op lbr u = true then qp x t.2 else qx.bind fun y=>.ret (mk 22 eB [x,y]))
def poL (qp : Nd → ByteArray → Pa Nd) (qx : Pa Nd) : Nat → Nd → Pa Nd
 | 0,_=>.out
 | n + 1,x=>.look fun t=>if (t.1 == 4) = true then (cutP 4).bind fun s=>poL qp qx n (mk 21 s [x]) else if op dot t = true then (dotT qp qx x).bind (poL qp qx n) else if op lbr t = true then (qp x eB).bind (poL qp qx n) else if op quest t = true then .move (poL qp qx n (mk 23 eB [x])) else .ret x
theorem cutP_tail {kd : Int} {r r' : List Tk} {s : ByteArray} (h : (cutP kd).run r = some (.ok r' s)) : r'.length ≤ r.tail.length:=by
 unfold cutP at h
 rw [run_look] at h
 split at h
 ·cases h;exact Nat.le_refl _
 ·cases h
theorem dotT_tail {qp : Nd → ByteArray → Pa Nd} {qx : Pa Nd} {x y : Nd} {r r' : List Tk} (h : (dotT qp qx x).run r = some (.ok r' y)) : r'.length ≤ r.tail.length:=by
 unfold dotT at h
 rw [run_look] at h
 split at h
 ·cases h
 ·exact Pa.shorter _ (r:=r.tail) h
theorem tail_lt {l : List Tk} {j j' : Nat} (hj : j < l.length) (hj' : j' ≤ l.length) (h : (l.drop j').length ≤ (l.drop j).tail.length) : j + 1 ≤ j':=by
 simp only [List.length_drop,List.length_tail] at h
 omega
theorem op_callsU (s : ByteArray) (W : World) : Calls Tryz.prog 63 #[.string s] W fun e w'=>e = .returned (.agg #[.int .i64 13,.string s]) ∧ Below W.heap.size W w':=op_calls' s W
theorem lt_meas {L a b p q : Nat} (h1 : a = p) (h2 : b = q) (h3 : q + 1 ≤ p) (h4 : q < L) : L + 1 - a < L + 1 - b:=by omega
structure PI (E : Env) (W : World) (nb : Nat) (qp : Nd → ByteArray → Pa Nd) (qx : Pa Nd) (o : Out Nd) (wr : World) (x : Nd) (a : Option Addr) (c m j : Nat) : Prop where
 ni : NI E W nb wr x a c j
 rest : (poL qp qx m x).run (E.l.drop j) = some o
theorem post_tl {E : Env} (hE : EnvOk E) {q : Pa Nd} {qp : Nd → ByteArray → Pa Nd} {qx : Pa Nd} (hq : Tl E q RN 188 #[pB E]) (hpk : ∀ (x : Nd) (d : ByteArray) (S : Nat → Prop) (W : World) (i : Nat) (o : Out Nd) (a : Option Addr) (c : Nat),KidsAt S W x.kids (.slice a x.kids.len c) → OldS E W S → Ps E W i → (qp x d).run (E.l.drop i) = some o → Calls Tryz.prog 190 #[pB E,.agg (nV x a c),.string d] W (Post E (RNS S) W o)) (hps : ∀ x d r r' y,(qp x d).run r = some (.ok r' y) → r'.length ≤ r.tail.length) (hqx : Tl E qx RN 79 #[pB E]) (n : Nat) : Tl E (q.bind fun x=>poL qp qx n x) RN 159 #[pB E]:=by
 intro W i o hp hr
 have HPK:=hid hpk;have HPS:=hid hps;have HQX:=hid hqx;clear hpk hps hqx
 have HNP:=hid hp.far;have H00:=hid hp
 obtain ⟨W0,hW0⟩ : ∃ W0,W.alloc (.cells nodeZ 32) = W0:=⟨_,rfl⟩
 have hb0 : Below W.heap.size W W0:=by rw [← hW0];exact (Below.refl _ W).alloc (Nat.le_refl _) _
 have hk0 : Blk W0 W.heap.size 32 nodeZ:=by rw [← hW0];exact Blk.new W _ _
 have hs0 : W.heap.size + 1 ≤ W0.heap.size:=by rw [← hW0];simp
 have HW0:=hid hW0;have HK0:=hid (Kp.of_below (E:=E) hb0);have HP0:=hid (hp.next hb0);have HS0:=hid hs0;have HR0:=hid hr
 have HBr0:=hid hk0
 clear hW0 hb0 hk0 hs0 hp hr
 unfold pB
 go_enter Tryz.func159,Tryz.ntmps159
 go_upto_region 1 with fail
 rw [HW0.out]
 obtain ⟨o1,h1,hr1⟩:=bind_run HR0.out
 have hcall:=Tl.at hq HP0.out h1
 have HC:=hid hcall;have HR1:=hid hr1
 clear hcall h1 hr1 HR0 HP0
 unfold pB at HC
 try unfold methV at HC
 go_wp2_with fail
 ((with_reducible refine HC.out.mono ?_);rintro e w1 ⟨hk,hm⟩)
 clear HC
 rcases o1 with ⟨r1,x1⟩ | ⟨r1⟩
 rotate_left
 ·obtain ⟨j,hj,hd,rfl⟩:=hm
  obtain rfl : o = .bad r1:=(Option.some.inj HR1.out).symm
  exact ⟨rfl,Kp.tr HK0.out hk,j,hj,hd,rfl⟩
 obtain ⟨v1,j1,rfl,hp,rfl,hR⟩:=hm
 have HK1:=hid (Kp.tr HK0.out hk)
 have HS1:=hid (show (W.heap.size + 1) ≤ w1.heap.size from Nat.le_trans HS0.out (hk).size)
 have HBr1:=hid (Kp.blk' (n:=W.heap.size) HBr0.out hk HNP.out (Nat.le_refl _))
 have HP1:=hid hp
 obtain ⟨ax,cx,rfl,hx⟩:=kids_new (n:=(W.heap.size + 1)) hR HS0.out
 have HXx1:=hid hx
 clear hk hp hR hx
 have hl:=HR1.out
 clear HR1
 dsimp only at hl
 have HR1:=hid hl
 clear hl
 clear HK0 HS0 HBr0
 go_upto_region 2 with fail
 obtain ⟨w2,hw⟩ : ∃ w',w1.alloc (.cells (nV x1 ax cx) 32) = w':=⟨_,rfl⟩
 rw [hw]
 have hb : Below w1.heap.size w1 w2:=by rw [← hw];exact (Below.refl _ _).alloc (Nat.le_refl _) _
 have hni : NI E W w1.heap.size w2 x1 ax cx j1:=⟨HP1.out.next hb,Kp.sb HK1.out hb,HBr1.out.own hb,by rw [← hw];exact Blk.new _ _ _,an_first HXx1.out hb,HS1.out⟩
 clear hb hw
 obtain ⟨nb,hnb⟩ : ∃ nb,w1.heap.size = nb:=⟨_,rfl⟩
 rw [hnb] at hni ⊢
 have HPI:=hid (show PI E W nb qp qx o w2 x1 ax cx n j1 from ⟨hni,HR1.out⟩)
 clear hni HK1 HS1 HP1 HBr1 HXx1 HW0 HR1 hnb
 go_loopw [4] (fun _ wr=>∃ x a c m j,PI E W nb qp qx o wr x a c m j) (fun _ wr=>E.l.length + 1 - placeOf wr E.B)
 case atStart=>exact ⟨_,_,_,_,_,HPI.out⟩
 case round =>
  clear HPI
  obtain ⟨x,a,c,m,j,hpi⟩:=hrel
  have HPL:=hid hpi.ni.ps.place
  have hrest:=hpi.rest
  cases m with
  | zero=>cases hrest
  | succ m =>
  unfold poL at hrest
  rw [run_look] at hrest
  obtain ⟨t,ht⟩ : ∃ t,tk E j = t:=⟨_,rfl⟩
  rw [show tok (E.l.drop j) = t from ht] at hrest
  have hnx:=next_calls hE hpi.ni.ps
  rw [ht] at hnx
  unfold pB tokV at hnx
  have HNX:=hid hnx;have HNI:=hid hpi.ni;have HR:=hid hrest;have HTt:=hid ht
  clear hnx hpi hrest ht
  go_wp2_with fail
  ((with_reducible refine HNX.out.mono ?_);rintro e w1 ⟨rfl,hb⟩)
  go_upto_region 4 with fail
  obtain ⟨w2,hw⟩ : ∃ w',w1.alloc (.cells #[.int .i64 t.1,.string t.2] 49) = w':=⟨_,rfl⟩
  rw [hw]
  have hb2 : Below w1.heap.size w1 w2:=by rw [← hw];exact (Below.refl _ _).alloc (Nat.le_refl _) _
  have HN2:=hid ((HNI.out.next hb).next hb2);have HTB:=hid (show Blk w2 w1.heap.size 49 #[.int .i64 t.1,.string t.2] by rw [← hw];exact Blk.new _ _ _)
  clear hb hb2 hw HNX HNI
  obtain ⟨tb,htb⟩ : ∃ tb,w1.heap.size = tb:=⟨_,rfl⟩
  rw [htb] at HTB ⊢
  clear htb
  have t0:=HTB.out.cell 0;have t1:=HTB.out.cell 1
  obtain ⟨c4,hc4⟩ : ∃ c4,(t.1 == 4) = c4:=⟨_,rfl⟩
  have hl:=HR.out
  rw [hc4] at hl
  clear HR
  cases c4 with
  | true =>
   rw [if_yes] at hl
   have hlt : j < E.l.length:=tok_lt HTt.out (by rw [eq_of_beq hc4];decide)
   have HLT:=hid hlt
   obtain ⟨o1,h1,hr1⟩:=bind_run hl
   have H1:=hid h1;have HR1:=hid hr1
   have HFN:=hid (fun (W' : World) (hp : Ps E W' j)=>Tl.at (fieldName_tl hE) hp H1.out)
   unfold pB at HFN
   clear hl hlt h1 hr1
   go_upto_region 5 with fail
   clear t0 t1 hc4
   have hdr:=(Below.refl w2.heap.size w2).drew
   have HN3:=hid (HN2.out.next hdr)
   have n30:=HN3.out.nb.cell 0;have n31:=HN3.out.nb.cell 1;have n32:=HN3.out.nb.cell 2
   clear hdr
   have hdrA : Below w2.heap.size w2 (w2.alloc (.cells #[.int .i64 x.k,.string x.t,.slice a x.kids.len c] 32)).drew:=((Below.refl _ _).alloc (Nat.le_refl _) _).drew
   have HN3A:=hid (HN2.out.next hdrA)
   have HROWA:=hid (show Blk (w2.alloc (.cells #[.int .i64 x.k,.string x.t,.slice a x.kids.len c] 32)).drew w2.heap.size 32 #[.int .i64 x.k,.string x.t,.slice a x.kids.len c] from Blk.new w2 _ _)
   clear hdrA
   go_region_with (first
    | (go_at_call 127;(first | ((with_reducible refine (HFN.out _ HN3.out.ps).mono ?_);rintro e w4 ⟨hk,hm⟩;have HN4x:=hid (fun (j2 : Nat) (hp : Ps E w4 j2)=>HN3.out.go HNP.out hk hp)) | ((with_reducible refine (HFN.out _ HN3A.out.ps).mono ?_);rintro e w4 ⟨hk,hm⟩;have HN4x:=hid (fun (j2 : Nat) (hp : Ps E w4 j2)=>HN3A.out.go HNP.out hk hp);have HROW4:=hid (Kp.blk' (n:=W.heap.size) HROWA.out hk HNP.out (by have:=HN2.out.sz;omega))));rcases o1 with ⟨r1,y⟩ | ⟨r1⟩;rotate_left;(obtain ⟨j2,hj,hd,rfl⟩:=hm;obtain rfl : o = .bad r1:=(Option.some.inj HR1.out).symm;exact ⟨rfl,Kp.tr (by first | exact HN3.out.kp | exact HN3A.out.kp) hk,j2,hj,hd,rfl⟩);obtain ⟨v2,j2,rfl,hp,rfl,hR⟩:=hm;obtain rfl:=hR;have HN4:=hid (HN4x.out j2 hp);have n40:=HN4.out.nb.cell 0;have n41:=HN4.out.nb.cell 1;have n42:=HN4.out.nb.cell 2;have HJ:=hid (tail_lt HLT.out hp.le (cutP_tail H1.out));clear hk hp HN4x)
    | (go_at_call 85;(with_reducible refine (node_calls _ _ _ _ _ _).mono ?_);rintro e w5 ⟨rfl,hbn⟩;(first | (have hrw:=HROW4.out.own hbn;have HN5:=hid (HN4.out.next hbn);have hkk:=an_row1 HN5.out.kids hrw HN2.out.sz (by have:=HN2.out.nb.lt;omega);have HKK:=hid hkk;clear hrw hkk hbn) | (have hrow:=Blk.new w4 32 #[.int .i64 x.k,.string x.t,.slice a x.kids.len c];have hba : Below w4.heap.size w4 (w4.alloc (.cells #[.int .i64 x.k,.string x.t,.slice a x.kids.len c] 32)):=(Below.refl _ _).alloc (Nat.le_refl _) _;have hb:=hba.trans (hbn.mono hba.size);have hrw:=hrow.own hbn;have HN5:=hid (HN4.out.next hb);have hkk:=an_row1 HN5.out.kids hrw HN4.out.sz (by have:=HN4.out.nb.lt;omega);have HKK:=hid hkk;clear hrow hba hb hrw hkk hbn));have n50:=HN5.out.nb.cell 0;have n51:=HN5.out.nb.cell 1;have n52:=HN5.out.nb.cell 2;have f50:=HN5.out.nb.frozen 0;have f51:=HN5.out.nb.frozen 1;have f52:=HN5.out.nb.frozen 2))
   all_goals go_wp2_with fail
   all_goals have hput:=NI.put hE (y:=mk 21 y [x]) HN5.out H00.out HKK.out
   all_goals have hpn:=hput.ps.place
   all_goals refine ⟨⟨_,_,_,m,_,hput,HR1.out⟩,?_⟩
   all_goals exact lt_meas hpn HPL.out HJ.out HLT.out
  | false =>
   rw [if_no] at hl
   obtain ⟨cd,hcd⟩ : ∃ c,op dot t = c:=⟨_,rfl⟩
   rw [hcd] at hl
   have HVdot:=hid (same_op hcd);have HR:=hid hl
   have HKD:=hid hcd
   clear hl hcd
   go_wp2_with fail
   go_upto_region 6 with fail
   go_cut [19] from 20 to 22 (fun s wx=>s = .bool cd ∧ Below w2.heap.size w2 wx)
   case first =>
    have hdr:=(Below.refl w2.heap.size w2).drew
    have HD:=hid hdr
    have t0:=(HTB.out.own hdr).cell 0;have t1:=(HTB.out.own hdr).cell 1
    have hq1:=run_same;have hv : sameT t.1 t.2 13 dot = cd:=HVdot.out
    clear hdr
    go_region_with (first | (go_at_call 63;(with_reducible refine (op_callsU _ _).mono ?_);rintro e w3 ⟨rfl,hb⟩;have HB3:=hid (HD.out.trans (hb.mono HD.out.size));have t30:=(HTB.out.own HB3.out).cell 0;have t31:=(HTB.out.own HB3.out).cell 1;clear hb))
    all_goals go_wp2_with fail
    all_goals go_meet
    all_goals exact ⟨rfl,HB3.out⟩
   case rest =>
    obtain ⟨rfl,hbw⟩:=hcut
    have HN2:=hid (HN2.out.next hbw);have HTB:=hid (HTB.out.own hbw)
    obtain ⟨w2,hw2⟩ : ∃ w2,wc = w2:=⟨_,rfl⟩
    rw [hw2] at HN2 HTB ⊢
    clear hbw hw2
    cases cd with
    | true =>
     have hl:=HR.out
     rw [if_yes] at hl
     clear HR
     have HR:=hid hl
     have hlt : j < E.l.length:=tok_lt HTt.out (op_kind HKD.out)
     have HLT:=hid hlt
     clear hl hlt
     obtain ⟨o1,h1,hr1⟩:=bind_run HR.out
     have hcall:=dotted_of hE x a c (fun d S' W' i' o' a' c'=>HPK.out x d S' W' i' o' a' c') HQX.out _ _ _ HN2.out.kids (an_old (fun k hk=>HNP.out k (by omega))) HN2.out.ps h1
     unfold pB at hcall
     have HC:=hid hcall;have HR1:=hid hr1;have H1:=hid h1
     have n20:=HN2.out.nb.cell 0;have n21:=HN2.out.nb.cell 1;have n22:=HN2.out.nb.cell 2
     clear hcall h1 hr1 HR
     go_wp2_with fail
     ((with_reducible refine HC.out.mono ?_);rintro e w3 ⟨hk,hm⟩)
     clear HC
     rcases o1 with ⟨r1,y⟩ | ⟨r1⟩
     rotate_left
     ·obtain ⟨j2,hj,hd,rfl⟩:=hm
      obtain rfl : o = .bad r1:=(Option.some.inj HR1.out).symm
      go_wp2_with fail
      exact ⟨rfl,Kp.tr HN2.out.kp hk,j2,hj,hd,rfl⟩
     obtain ⟨v1,j2,rfl,hp,rfl,hR⟩:=hm
     obtain ⟨ay,cy,rfl,hy⟩:=an_newS hR HN2.out.sz HN2.out.nb.lt hk.size
     have HN3:=hid (HN2.out.go HNP.out hk hp);have HY:=hid hy
     have HJ:=hid (tail_lt HLT.out hp.le (dotT_tail H1.out))
     have n30:=HN3.out.nb.cell 0;have n31:=HN3.out.nb.cell 1;have n32:=HN3.out.nb.cell 2;have f30:=HN3.out.nb.frozen 0;have f31:=HN3.out.nb.frozen 1;have f32:=HN3.out.nb.frozen 2
     clear hk hp hR hy
     go_wp2_with fail
     have hput:=NI.put hE (y:=y) HN3.out H00.out HY.out
     have hpn:=hput.ps.place
     refine ⟨⟨_,_,_,m,_,hput,HR1.out⟩,?_⟩
     exact lt_meas hpn HPL.out HJ.out HLT.out
    | false =>
     have hl:=HR.out
     rw [if_no] at hl
     clear HR
     obtain ⟨cb,hcb⟩ : ∃ c,op lbr t = c:=⟨_,rfl⟩
     rw [hcb] at hl
     have HVlbr:=hid (same_op hcb);have HR:=hid hl
     have HKB:=hid hcb
     clear hl hcb
     go_wp2_with fail
     go_upto_region 8 with fail
     go_cut [26] from 27 to 29 (fun s wx=>s = .bool cb ∧ Below w2.heap.size w2 wx)
     case first =>
      have hdr:=(Below.refl w2.heap.size w2).drew
      have HD:=hid hdr
      have t0:=(HTB.out.own hdr).cell 0;have t1:=(HTB.out.own hdr).cell 1
      have hq1:=run_same;have hv : sameT t.1 t.2 13 lbr = cb:=HVlbr.out
      clear hdr
      go_region_with (first | (go_at_call 63;(with_reducible refine (op_callsU _ _).mono ?_);rintro e w3 ⟨rfl,hb⟩;have HB3:=hid (HD.out.trans (hb.mono HD.out.size));have t30:=(HTB.out.own HB3.out).cell 0;have t31:=(HTB.out.own HB3.out).cell 1;clear hb))
      all_goals go_wp2_with fail
      all_goals go_meet
      all_goals exact ⟨rfl,HB3.out⟩
     case rest =>
      obtain ⟨rfl,hbw⟩:=hcut
      have HN2:=hid (HN2.out.next hbw);have HTB:=hid (HTB.out.own hbw)
      obtain ⟨w2,hw2⟩ : ∃ w2,wc = w2:=⟨_,rfl⟩
      rw [hw2] at HN2 HTB ⊢
      clear hbw hw2
      cases cb with
      | true =>
       have hl:=HR.out
       rw [if_yes] at hl
       clear HR
       have HR:=hid hl
       have hlt : j < E.l.length:=tok_lt HTt.out (op_kind HKB.out)
       have HLT:=hid hlt
       clear hl hlt
       obtain ⟨o1,h1,hr1⟩:=bind_run HR.out
       have hcall:=HPK.out x eB _ _ _ _ _ _ HN2.out.kids (an_old (fun k hk=>HNP.out k (by omega))) HN2.out.ps h1
       unfold pB at hcall
       have HC:=hid hcall;have HR1:=hid hr1;have H1:=hid h1
       have n20:=HN2.out.nb.cell 0;have n21:=HN2.out.nb.cell 1;have n22:=HN2.out.nb.cell 2
       clear hcall h1 hr1 HR
       go_wp2_with fail
       ((with_reducible refine HC.out.mono ?_);rintro e w3 ⟨hk,hm⟩)
       clear HC
       rcases o1 with ⟨r1,y⟩ | ⟨r1⟩
       rotate_left
       ·obtain ⟨j2,hj,hd,rfl⟩:=hm
        obtain rfl : o = .bad r1:=(Option.some.inj HR1.out).symm
        go_wp2_with fail
        exact ⟨rfl,Kp.tr HN2.out.kp hk,j2,hj,hd,rfl⟩
       obtain ⟨v1,j2,rfl,hp,rfl,hR⟩:=hm
       obtain ⟨ay,cy,rfl,hy⟩:=an_newS hR HN2.out.sz HN2.out.nb.lt hk.size
       have HN3:=hid (HN2.out.go HNP.out hk hp);have HY:=hid hy
       have HJ:=hid (tail_lt HLT.out hp.le (HPS.out _ _ _ _ _ H1.out))
       have n30:=HN3.out.nb.cell 0;have n31:=HN3.out.nb.cell 1;have n32:=HN3.out.nb.cell 2;have f30:=HN3.out.nb.frozen 0;have f31:=HN3.out.nb.frozen 1;have f32:=HN3.out.nb.frozen 2
       clear hk hp hR hy
       go_wp2_with fail
       have hput:=NI.put hE (y:=y) HN3.out H00.out HY.out
       have hpn:=hput.ps.place
       refine ⟨⟨_,_,_,m,_,hput,HR1.out⟩,?_⟩
       exact lt_meas hpn HPL.out HJ.out HLT.out
      | false =>
       have hl:=HR.out
       rw [if_no] at hl
       clear HR
       obtain ⟨cq,hcq⟩ : ∃ c,op quest t = c:=⟨_,rfl⟩
       rw [hcq] at hl
       have hdc : decide (tk E j = (13,quest)) = cq:=by rw [HTt.out];exact same_op hcq
       have HDC:=hid hdc;have HR:=hid hl;have HKQ:=hid hcq
       clear hl hcq hdc
       go_wp2_with fail
       ((with_reducible refine (op_calls' _ _).mono ?_);rintro e w3 ⟨rfl,hb⟩)
       have HN3:=hid (HN2.out.next hb)
       clear hb
       have htk:=took_calls hE HN3.out.ps (13,quest) (fun e=>by cases e) cq HDC.out
       unfold pB at htk
       have HTK:=hid htk
       clear htk
       cases cq with
       | true =>
        have hl:=HR.out
        rw [if_yes,run_move] at hl
        clear HR
        have HR:=hid hl
        have hlt : j < E.l.length:=tok_lt HTt.out (op_kind HKQ.out)
        have HLT:=hid hlt
        clear hl hlt
        go_wp2_with fail
        ((with_reducible refine HTK.out.mono ?_);rintro e w4 ⟨rfl,hk,hp⟩)
        have HN4:=hid (HN3.out.go HNP.out hk (show Ps E w4 (j + 1) from hp))
        have n40:=HN4.out.nb.cell 0;have n41:=HN4.out.nb.cell 1;have n42:=HN4.out.nb.cell 2
        have hrow:=Blk.new w4 32 #[.int .i64 x.k,.string x.t,.slice a x.kids.len c]
        have hba : Below w4.heap.size w4 (w4.alloc (.cells #[.int .i64 x.k,.string x.t,.slice a x.kids.len c] 32)):=(Below.refl _ _).alloc (Nat.le_refl _) _
        clear hk hp
        go_wp2_with fail
        ((with_reducible refine (node_calls _ _ _ _ _ _).mono ?_);rintro e w5 ⟨rfl,hbn⟩)
        have hb:=hba.trans (hbn.mono hba.size);have hrw:=hrow.own hbn
        have HN5:=hid (HN4.out.next hb)
        have hkk:=an_row1 HN5.out.kids hrw HN4.out.sz (by have:=HN4.out.nb.lt;omega)
        have HKK:=hid hkk
        have n50:=HN5.out.nb.cell 0;have n51:=HN5.out.nb.cell 1;have n52:=HN5.out.nb.cell 2;have f50:=HN5.out.nb.frozen 0;have f51:=HN5.out.nb.frozen 1;have f52:=HN5.out.nb.frozen 2
        clear hrow hba hb hrw hkk hbn
        go_wp2_with fail
        have hput:=NI.put hE (y:=mk 23 eB [x]) HN5.out H00.out HKK.out
        have hpn:=hput.ps.place
        refine ⟨⟨_,_,_,m,_,hput,HR.out⟩,?_⟩
        exact lt_meas hpn HPL.out (Nat.le_refl (j + 1)) HLT.out
       | false =>
        have hl:=HR.out
        rw [if_no] at hl
        clear HR
        obtain rfl : o = .ok (E.l.drop j) x:=(Option.some.inj hl).symm
        clear hl
        go_wp2_with fail
        ((with_reducible refine HTK.out.mono ?_);rintro e w4 ⟨rfl,hk,hp⟩)
        have HN4:=hid (HN3.out.go HNP.out hk (show Ps E w4 j from hp))
        have n40:=HN4.out.nb.cell 0;have n41:=HN4.out.nb.cell 1;have n42:=HN4.out.nb.cell 2
        clear hk hp
        have rc0:=HN4.out.rb.cell 0;have rf0:=HN4.out.rb.frozen 0;have rc1:=HN4.out.rb.cell 1;have rf1:=HN4.out.rb.frozen 1;have rc2:=HN4.out.rb.cell 2;have rf2:=HN4.out.rb.frozen 2
        have hfin:=fin_node hE H00.out HN4.out.ps HN4.out.kp (Nat.le_refl _) HN4.out.rb (an_fr HN4.out.kids)
        have g0:=hfin.1.cell 0;have g1:=hfin.1.cell 1;have g2:=hfin.1.cell 2
        have HF:=hid hfin.2
        clear hfin
        go_wp2_with fail
        refine bodyPost_ret (v:=.agg (nV x a c)) (by simp [results,Tryz.results159,go_sem,g0,g1,g2]) rfl ?_
        exact HF.out
end Go.Proofs.YtlklhkkjcfmefaaGreatDoor.pa
namespace Go.Proofs.YtlklhkkjcfmefaaGreatDoor.it
open Go.Lib (hid)
open Go.RowKit Go.Shelf
open sg (lst_len OpsAt)
open lx
def idleB (k : Int) : Bool:=k == 1 || k == 2
theorem idle_calls (k : Int) (tx : ByteArray) (w : World) : Calls Tryz.prog 149 #[.agg #[.int .i64 k,.string tx]] w fun e w'=>e = .returned (.bool (idleB k)) ∧ Below w.heap.size w w':=by
 have hb : Below w.heap.size w (w.alloc (.cells #[.int .i64 k,.string tx] 49)):=(Below.refl _ w).alloc (Nat.le_refl _) _
 have HB:=hid hb
 clear hb
 by_cases h1 : k = 1
 ·subst h1
  go_enter Tryz.func149,Tryz.ntmps149
  go_wp2_with fail
  go_ret
  exact ⟨rfl,HB.out⟩
 ·have e1 : (k == 1) = false:=beq_eq_false_iff_ne.2 h1
  by_cases h2 : k = 2
  ·subst h2
   go_enter Tryz.func149,Tryz.ntmps149
   go_wp2_with fail
   go_ret
   exact ⟨rfl,HB.out⟩
  ·have e2 : (k == 2) = false:=beq_eq_false_iff_ne.2 h2
   have HX:=hid (show idleB k = false by unfold idleB;rw [e1,e2];rfl)
   go_enter Tryz.func149,Tryz.ntmps149
   go_wp2_with fail
   go_ret
   exact ⟨by rw [HX.out];rfl,HB.out⟩
theorem counts_calls (k : Int) (tx : ByteArray) (w : World) : Calls Tryz.prog 103 #[.agg #[.int .i64 k,.string tx]] w fun e w'=>e = .returned (.bool (!idleB k)) ∧ Below w.heap.size w w':=by
 have hb : Below w.heap.size w (w.alloc (.cells #[.int .i64 k,.string tx] 49)):=(Below.refl _ w).alloc (Nat.le_refl _) _
 have HB:=hid hb
 clear hb
 have hc:=fun w=>idle_calls k tx w
 obtain ⟨b,hb⟩ : ∃ b,idleB k = b:=⟨_,rfl⟩
 simp only [hb] at hc
 have HX:=hid hb
 clear hb
 go_enter Tryz.func103,Tryz.ntmps103
 go_wp2_with fail
 ((with_reducible refine (hc _).mono ?_);rintro _ w2 ⟨rfl,hb2⟩)
 have HB2:=hid (sg.Below.next HB.out hb2 (Nat.le_refl _))
 clear hb2
 go_wp2_with fail
 go_ret
 exact ⟨by rw [HX.out];rfl,HB2.out⟩
end Go.Proofs.YtlklhkkjcfmefaaGreatDoor.it
namespace Go.Proofs.YtlklhkkjcfmefaaGreatDoor.it
open Go.Lib (hid)
open Go.RowKit Go.Shelf
open sg (lst_len OpsAt)
open lx
end Go.Proofs.YtlklhkkjcfmefaaGreatDoor.it
namespace Go.Proofs.YtlklhkkjcfmefaaGreatDoor.it
open Go.Lib (hid)
open Go.RowKit Go.Shelf
open sg (lst_len OpsAt)
open lx
end Go.Proofs.YtlklhkkjcfmefaaGreatDoor.it
namespace Go.Proofs.YtlklhkkjcfmefaaGreatDoor.it
open Go.Lib (hid)
open Go.RowKit Go.Shelf
open sg (lst_len OpsAt)
open lx
def fidx (p : Tk → Bool) (ts : List Tk) : Nat:=(ts.takeWhile (fun t=>!p t)).length
theorem fidx_le (p : Tk → Bool) (ts : List Tk) : fidx p ts ≤ ts.length:=by
 unfold fidx
 exact (List.takeWhile_prefix _).length_le
theorem fidx_cons (p : Tk → Bool) (t : Tk) (r : List Tk) : fidx p (t :: r) = if p t then 0 else fidx p r + 1:=by
 unfold fidx
 rw [List.takeWhile_cons]
 cases p t <;> simp
theorem fidx_none (p : Tk → Bool) (ts : List Tk) (k : Nat) (hk : k ≤ ts.length) (h : ∀ t ∈ ts.take k,p t = false) : fidx p ts = k + fidx p (ts.drop k):=by
 induction ts generalizing k with
 | nil=>simp at hk;subst hk;simp
 | cons t r ih =>
  cases k with
  | zero=>simp
  | succ k =>
   have h0:=h t (by simp)
   rw [fidx_cons,h0]
   simp only [Bool.false_eq_true,if_false,List.drop_succ_cons]
   rw [ih k (by simp at hk;omega) (fun u hu=>h u (by simp [hu]))]
   omega
def idxR (p : Tk → Bool) (ts : List Tk) : Int:=if fidx p ts = ts.length then -1 else (fidx p ts : Int)
structure Asks (g : FuncId) (p : Tk → Bool) : Prop where
 en : ∀ args w,(callFunc g args).run Tryz.prog w = .ok (.enter g args) w
 calls : ∀ (t : Tk) (w : World),Calls Tryz.prog g #[.agg #[.int .i64 t.1,.string t.2]] w fun e w'=>e = .returned (.bool (p t)) ∧ Below w.heap.size w w'
theorem asks_counts : Asks 103 (fun t=>!idleB t.1):=⟨enters_of Tryz.func103 (by kernel_rfl) rfl,fun t w=>counts_calls t.1 t.2 w⟩
theorem index_calls (g : FuncId) (p : Tk → Bool) (hg : Asks g p) (v : Value) (ts : List Tk) (w : World) (h : TksAt w.heap.size w v ts) :
  Calls Tryz.prog 102 #[v,.func (.func g) #[] #[]] w fun e w'=>e = .returned (.int .i64 (idxR p ts)) ∧ Below w.heap.size w w':=by
 obtain ⟨ao,cap,rfl,hm,hc⟩:=h
 unfold maxLen at hm
 have hen:=hg.en
 go_enter Tryz.func102,Tryz.ntmps102
 go_wp2
 go_loopw [8] (fun i wr=>∃ k : Nat,k ≤ ts.length ∧ i = .int .i64 (k : Int) ∧ (∀ t ∈ ts.take k,p t = false) ∧ Below w.heap.size w wr) (fun i _=>ts.length - (intOf i).toNat)
 case atStart=>exact ⟨0,Nat.zero_le _,rfl,fun t ht=>by simp at ht,Below.refl _ _⟩
 case round =>
  obtain ⟨k,hk,rfl,hall,hb⟩:=hrel
  by_cases hlt : k < ts.length
  ·obtain ⟨t,ht⟩ : ∃ t,ts[k]? = some t:=⟨_,List.getElem?_eq_getElem hlt⟩
   obtain ⟨gb,off,rfl,hgl,c0,c1⟩:=hc k t ht
   have hgw:=World.block_lt_of_cell? w _ c0
   have d0:=(hb.cell (p:=⟨gb,off + k * 2,none⟩) hgw).trans c0
   have d1:=(hb.cell (p:=⟨gb,off + k * 2 + 1,none⟩) hgw).trans c1
   have hlt1 : (k : Int) < (ts.length : Int):=by omega
   have hgc:=hg.calls t
   have hfx:=fidx_none p ts k hk hall
   have hdr : ts.drop k = t :: ts.drop (k + 1):=by
    rw [List.drop_eq_getElem_cons hlt]
    congr 1
    rw [List.getElem?_eq_getElem hlt] at ht
    exact Option.some.inj ht
   have HB:=hid hb;have HALL:=hid hall;have HT:=hid ht
   cases hp : p t with
   | true =>
    rw [hdr,fidx_cons,hp,if_pos rfl] at hfx
    have HF:=hid (show idxR p ts = (k : Int) by unfold idxR;rw [hfx,if_neg (by omega)];rfl)
    simp only [hp] at hgc
    clear c0 c1 hb hall hc hfx hdr ht hp
    go_wp2_with fail
    ((with_reducible refine (hgc _).mono ?_);rintro _ w2 ⟨rfl,hb2⟩)
    have HB2:=hid (sg.Below.next HB.out hb2 (Nat.le_refl _))
    clear hb2
    go_wp2_with fail
    go_ret
    exact ⟨by rw [HF.out];rfl,HB2.out⟩
   | false =>
    have hall2 : ∀ u ∈ ts.take (k + 1),p u = false:=by
     intro u hu
     rw [take_snoc ts k t ht] at hu
     rcases List.mem_append.1 hu with hu | hu
     ·exact hall u hu
     ·rw [List.mem_singleton.1 hu];exact hp
    have HA2:=hid hall2
    simp only [hp] at hgc
    clear c0 c1 hb hall hc hfx hdr ht hp hall2
    go_wp2_with fail
    ((with_reducible refine (hgc _).mono ?_);rintro _ w2 ⟨rfl,hb2⟩)
    have HB2:=hid (sg.Below.next HB.out hb2 (Nat.le_refl _))
    clear hb2
    go_wp2_with fail
    exact ⟨⟨k + 1,by omega,rfl,HA2.out,HB2.out⟩,by simp [intOf];omega⟩
  ·obtain rfl : k = ts.length:=by omega
   have hge : decide ((ts.length : Int) < (ts.length : Int)) = false:=by simp
   have hfx:=fidx_none p ts _ (Nat.le_refl _) hall
   rw [List.drop_length,show fidx p [] = 0 from rfl] at hfx
   have HF:=hid (show idxR p ts = -1 by unfold idxR;rw [if_pos (by omega)])
   clear hfx hall
   go_wp2_with fail
   go_ret
   exact ⟨by rw [HF.out];rfl,hb⟩
end Go.Proofs.YtlklhkkjcfmefaaGreatDoor.it
namespace Go.Proofs.YtlklhkkjcfmefaaGreatDoor.it
open Go.Lib (hid)
open Go.RowKit Go.Shelf
open sg (lst_len OpsAt)
open lx
open Go.Maps (Keyed)
end Go.Proofs.YtlklhkkjcfmefaaGreatDoor.it
namespace Go.Proofs.YtlklhkkjcfmefaaGreatDoor.it
open Go.Lib (hid)
open Go.RowKit Go.Shelf
open sg (lst_len OpsAt)
open lx
theorem isize_calls (v : Value) (ts : List Tk) (w : World) (n : Nat) (h : TksAt n w v ts) (hs : sizeT ts ≤ 140737488355328) :
  Calls Tryz.prog 101 #[v] w fun e w'=>e = .returned (.int .i64 (sizeT ts : Int)) ∧ Below w.heap.size w w':=by
 obtain ⟨ao,cap,rfl,hm,hc⟩:=h
 unfold maxLen at hm
 go_enter Tryz.func101,Tryz.ntmps101
 go_wp2
 go_loopw [3,8] (fun s i wr=>∃ k : Nat,k ≤ ts.length ∧ i = .int .i64 (k : Int) ∧ s = .int .i64 (sizeT (ts.take k) : Int) ∧ Below w.heap.size w wr) (fun _ i _=>ts.length - (intOf i).toNat)
 case atStart=>exact ⟨0,Nat.zero_le _,rfl,rfl,Below.refl _ _⟩
 case round =>
  obtain ⟨k,hk,rfl,rfl,hb⟩:=hrel
  by_cases hlt : k < ts.length
  ·obtain ⟨t,ht⟩ : ∃ t,ts[k]? = some t:=⟨_,List.getElem?_eq_getElem hlt⟩
   obtain ⟨g,off,rfl,hg,c0,c1⟩:=hc k t ht
   have hgw:=World.block_lt_of_cell? w _ c0
   have d0:=(hb.cell (p:=⟨g,off + k * 2,none⟩) hgw).trans c0
   have d1:=(hb.cell (p:=⟨g,off + k * 2 + 1,none⟩) hgw).trans c1
   have hlt1 : (k : Int) < (ts.length : Int):=by omega
   have hsn:=sizeT_snoc (ts.take k) t
   rw [← take_snoc ts k t ht] at hsn
   have hle:=sizeT_take ts (k + 1)
   have HSN:=hid hsn
   have hw1 : wrap64 ((sizeT (ts.take k) : Int) + (t.2.size : Int)) = ((sizeT (ts.take k) + t.2.size : Nat) : Int):=by rw [IntWalk.wrap64_in];rfl;omega
   have HB:=hid (hb.alloc hb.size (.cells #[.int .i64 t.1,.string t.2] 49))
   clear hsn hle hb c0 c1
   go_wp2_with fail
   exact ⟨⟨k + 1,by omega,rfl,by rw [hw1,HSN.out],HB.out⟩,by simp [intOf];omega⟩
  ·obtain rfl : k = ts.length:=by omega
   have hge : decide ((ts.length : Int) < (ts.length : Int)) = false:=by simp
   go_wp2_with fail
   go_ret
   exact ⟨by rw [List.take_length];rfl,hb⟩
end Go.Proofs.YtlklhkkjcfmefaaGreatDoor.it
namespace Go.Proofs.YtlklhkkjcfmefaaGreatDoor.it
open Go.Lib (hid)
open Go.RowKit Go.Shelf
open sg (lst_len OpsAt)
open lx
end Go.Proofs.YtlklhkkjcfmefaaGreatDoor.it
namespace Go.Proofs.YtlklhkkjcfmefaaGreatDoor.it
open Go.Lib (hid)
open Go.RowKit Go.Shelf
open sg (lst_len OpsAt)
open lx
open sx (Blk)
end Go.Proofs.YtlklhkkjcfmefaaGreatDoor.it
namespace Go.Proofs.YtlklhkkjcfmefaaGreatDoor.it
open Go.Lib (hid)
open Go.RowKit Go.Shelf
open sg (lst_len OpsAt)
open lx
end Go.Proofs.YtlklhkkjcfmefaaGreatDoor.it
namespace Go.Proofs.YtlklhkkjcfmefaaGreatDoor.it
open Go.Lib (hid)
open Go.RowKit Go.Shelf
open sg (lst_len OpsAt)
open lx
theorem own_tks {W : World} {base : Nat} {v : Value} {l : List Lx.Tok} (h : W.ownsRow base 49 2 v l.length (tokCells l)) (hm : l.length ≤ maxLen) : TksAt W.heap.size W v (l.map asTk):=(ownsRow_toks h).tks hm
end Go.Proofs.YtlklhkkjcfmefaaGreatDoor.it
namespace Go.Proofs.YtlklhkkjcfmefaaGreatDoor.it
open Go.Lib (hid)
open Go.RowKit
open sg (lst_len OpsAt)
open lx
end Go.Proofs.YtlklhkkjcfmefaaGreatDoor.it
namespace Go.Proofs.YtlklhkkjcfmefaaGreatDoor.pa
open Go.RowKit nd pr sx ed
abbrev badE (j : Int) (b : Bool) : PanicEntry:={ v:=.iface 79 (.int .i64 j),recovered:=b }
theorem catch_bad (b c : Nat) (hbc : b ≠ c) (j : Int) (w : World) {x y : Value} (hb : Blk w b 34 #[x]) (hc : Blk w c 3 #[y]) :
  CallsD Tryz.prog 43 #[.pointer (some ⟨b,0,none⟩),.pointer (some ⟨c,0,none⟩)] (.panicking [badE j false]) w fun e u' w' =>
   e = .returned (.tuple #[]) ∧ u' = .panicking [badE j true] ∧ w' = (w.setCell ⟨b,0,none⟩ (.int .u16 22)).setCell ⟨c,0,none⟩ (.int .i64 j):=by
 have hta : ∀ w,(Instr.typeAssert (.iface 79 (.int .i64 j)) 20 79 true).run Tryz.prog w = .ok (.tuple #[.int .i64 j,.bool true]) w:=fun w=>by kernel_rfl
 have b0:=hb.cell 0;have f0:=hb.frozen 0
 have c0:=hc.cell 0;have g0:=hc.frozen 0
 have c1 : (w.setCell ⟨b,0,none⟩ (.int .u16 22)).cell? ⟨c,0,none⟩ = some y:=(hc.other (fun e=>hbc e.symm) _).cell 0
 have g1 : (w.setCell ⟨b,0,none⟩ (.int .u16 22)).frozen? ⟨c,0,none⟩ = false:=(hc.other (fun e=>hbc e.symm) _).frozen 0
 refine callsD_of_wpS Tryz.func43 rfl fun c₀ cs hu=>?_
 simp only [Tryz.ntmps43,List.size_toArray,List.length_cons,List.length_nil,Nat.reduceSub,Nat.reduceAdd,Array.replicate_succ,Array.replicate_zero,List.push_toArray,List.append_toArray,List.nil_append,List.cons_append]
 apply wpS_seq
 apply wpS_region
 simp [wpOpsS,go_sem,recoverD,hu,Exit.thenS]
 refine wpS_of_wp ?_
 go_wp2_with fail
 simp_all [bodyPostS,results,Tryz.results43]
theorem catch_none (p q : Addr) (w : World) : CallsD Tryz.prog 43 #[.pointer (some p),.pointer (some q)] .returning w fun e u' w'=>e = .returned (.tuple #[]) ∧ u' = .returning ∧ w' = w:=by
 have hta : ∀ w,(Instr.typeAssert .nilIface 20 79 true).run Tryz.prog w = .ok (.tuple #[.int .i64 0,.bool false]) w:=fun w=>by kernel_rfl
 have hne : ∀ w,(binOp .neq 20 .nilIface .nilIface).run Tryz.prog w = .ok (.bool false) w:=fun w=>by kernel_rfl
 refine callsD_of_wpS Tryz.func43 rfl fun c₀ cs hu=>?_
 simp only [Tryz.ntmps43,List.size_toArray,List.length_cons,List.length_nil,Nat.reduceSub,Nat.reduceAdd,Array.replicate_succ,Array.replicate_zero,List.push_toArray,List.append_toArray,List.nil_append,List.cons_append]
 apply wpS_seq
 apply wpS_region
 simp [wpOpsS,go_sem,recoverD,hu,Exit.thenS]
 refine wpS_of_wp ?_
 go_wp2_with fail
 cases c₀
 simp_all [bodyPostS,results,Tryz.results43]
end Go.Proofs.YtlklhkkjcfmefaaGreatDoor.pa
