/- Ground of the law: PaP24, LxMath3. -/
import Derived.Test.YtlklhkkjcfmefaaGreatDoorQe28
set_option maxRecDepth 100000
set_option maxHeartbeats 8000000
set_option linter.unusedVariables false
set_option linter.unusedSimpArgs false
namespace Go.Proofs.YtlklhkkjcfmefaaGreatDoor.pa
open Go.Lib (hid)
open Go.RowKit nd pr sx ed
theorem operV_agg (s : ByteArray) : ∃ a b c : Int,operV s = .agg #[.int .i64 a,.int .i64 b,.int .i64 c]:=by
 unfold operV
 split
 ·exact ⟨_,_,_,rfl⟩
 ·exact ⟨_,_,_,rfl⟩
theorem zero_oper (w : World) : (zeroValue 160).run Tryz.prog w = .ok (.agg #[.int .i64 0,.int .i64 0,.int .i64 0]) w:=by kernel_rfl
theorem keyT_of {t : Tk} (h : FitT t) : KeyT t:=⟨by have:=h.kind;omega,by have:=h.kind;omega,by have:=h.size;unfold maxLen;omega⟩
theorem Ps.kept {E : Env} {w w' : World} {j : Nat} {t : Tk} {l : List (Tk × Value)} (h : Ps E w j) (hE : EnvOk E) (hg : w.grownBy w' (some E.O)) (hm : MapT w' E.O (l ++ [(t,operV (textOf t.1 t.2))])) (hl : ∀ p ∈ l,p.2 = operV (textOf p.1.1 p.1.2) ∧ KeyT p.1) (ht : KeyT t) : Ps E w' j:=by
 have hob : E.O ≠ E.B:=fun e=>by
  obtain ⟨l0,h1,_⟩:=h.opers
  obtain ⟨es,clock,h3,_⟩:=h1
  rw [e,show w.heap[E.B]? = _ from h.blk] at h3
  cases h3
 refine ⟨(hg.block _ h.lt (fun e=>hob (Option.some.inj e).symm)).trans h.blk,h.le,h.old.trans ⟨hg.os,hg.tape,hg.output,hg.size,fun k hk=>hg.block k (by have:=h.old.size;omega) (fun e=>by have:=Option.some.inj e;have:=hE.o;omega)⟩,MapT.of_heap h.terms (hg.block _ h.tlt (fun e=>hE.ot (Option.some.inj e))),_,hm,?_⟩
 intro p hp
 rcases List.mem_append.1 hp with hp | hp
 ·exact hl p hp
 ·rw [List.mem_singleton.1 hp];exact ⟨rfl,ht⟩
theorem look_no {W : World} {l : List (Tk × Value)} {b : Nat} (h : MapT W b l) (hl : ∀ p ∈ l,KeyT p.1) {t : Tk} (ht : KeyT t) (hne : ∀ p ∈ l,p.1 ≠ t) :
  (Instr.lookup 97 (.map (some b)) (.agg #[.int .i64 t.1,.string t.2]) true).run Tryz.prog W = .ok (.tuple #[.agg #[.int .i64 0,.int .i64 0,.int .i64 0],.bool false]) W:=by
 rcases h.look hl ht Tryz.underlying97 (zero_oper _) true with ⟨_,e⟩ | ⟨p,hp,hpt,_⟩
 ·exact e
 ·exact absurd hpt (hne p hp)
theorem look_yes {W : World} {l : List (Tk × Value)} {b : Nat} (h : MapT W b l) (hl : ∀ p ∈ l,KeyT p.1) {t : Tk} (ht : KeyT t) {v : Value} (hv : ∀ p ∈ l,p.1 = t → p.2 = v) (hex : ∃ p ∈ l,p.1 = t) :
  (Instr.lookup 97 (.map (some b)) (.agg #[.int .i64 t.1,.string t.2]) true).run Tryz.prog W = .ok (.tuple #[v,.bool true]) W:=by
 rcases h.look hl ht Tryz.underlying97 (zero_oper _) true with ⟨hne,_⟩ | ⟨p,hp,hpt,e⟩
 ·obtain ⟨p,hp,hpt⟩:=hex
  exact absurd hpt (hne p hp)
 ·rw [← hv p hp hpt];exact e
theorem oper_calls {E : Env} (hE : EnvOk E) {W : World} {i : Nat} (h : Ps E W i) :
  Calls Tryz.prog 187 #[pB E] W fun e w'=>e = .returned (operV (textOf (tk E i).1 (tk E i).2)) ∧ Kp E W w' ∧ Ps E w' i:=by
 have hfit:=fit_tk hE i
 have hkt:=keyT_of hfit
 have hsz:=hfit.size
 obtain ⟨t,ht⟩ : ∃ t,tk E i = t:=⟨_,rfl⟩
 have HN:=hid (fun w (hb : Below W.heap.size W w)=>next_calls hE (h.next hb))
 have hn:=HN.out
 rw [ht] at hn hkt hsz ⊢
 clear HN
 have HN:=hid hn
 clear hn hfit
 have HPS:=hid (fun w (hb : Below W.heap.size W w)=>h.next hb)
 obtain ⟨a,b,c,hop⟩:=operV_agg (textOf t.1 t.2)
 have htx : (textOf t.1 t.2).size ≤ maxLen:=by
  unfold textOf maxLen
  split
  ·omega
  ·exact Nat.zero_le _
 have HOF:=hid (fun w (hb : Below W.heap.size W w)=>of_calls t.1 t.2 (by omega) w (hE.lev.own (h.next hb).old))
 have HOO:=hid (fun w (hb : Below W.heap.size W w)=>operOf_calls (textOf t.1 t.2) htx w (hE.lev.own (h.next hb).old))
 obtain ⟨tx,htx2⟩ : ∃ tx,textOf t.1 t.2 = tx:=⟨_,rfl⟩
 rw [htx2] at HOF HOO hop ⊢
 rw [hop] at HOO ⊢
 have HOP:=hid hop;have HTX:=hid htx2;have HKT:=hid hkt
 have HNP:=hid h.far;have H00:=hid h
 obtain ⟨W0,hW0⟩ : ∃ W0,W.alloc (.cells #[.int .i64 0,.int .i64 0,.int .i64 0] 160) = W0:=⟨_,rfl⟩
 have hb0 : Below W.heap.size W W0:=by rw [← hW0];exact (Below.refl _ W).alloc (Nat.le_refl _) _
 have hk0 : Blk W0 W.heap.size 160 #[.int .i64 0,.int .i64 0,.int .i64 0]:=by rw [← hW0];exact Blk.new W _ _
 have HW0:=hid hW0;have HB0:=hid hb0;have HK0:=hid hk0
 clear hW0 hb0 hk0 hop htx2 hkt hsz h ht htx
 have hnx:=HN.out W0 HB0.out
 unfold pB tokV at hnx
 have HNX:=hid hnx
 unfold pB
 clear hnx
 have hend : ∀ w4 B4,Ps E w4 i → Kp E W w4 → Blk w4 W.heap.size 160 #[.int .i64 0,.int .i64 0,.int .i64 0] → Blk w4 B4 160 #[.int .i64 a,.int .i64 b,.int .i64 c] →
   Blk (((w4.setCell ⟨W.heap.size,0,none⟩ (.int .i64 a)).setCell ⟨W.heap.size,1,none⟩ (.int .i64 b)).setCell ⟨W.heap.size,2,none⟩ (.int .i64 c)) W.heap.size 160 #[.int .i64 a,.int .i64 b,.int .i64 c] ∧
   Kp E W (((w4.setCell ⟨W.heap.size,0,none⟩ (.int .i64 a)).setCell ⟨W.heap.size,1,none⟩ (.int .i64 b)).setCell ⟨W.heap.size,2,none⟩ (.int .i64 c)) ∧ Ps E (((w4.setCell ⟨W.heap.size,0,none⟩ (.int .i64 a)).setCell ⟨W.heap.size,1,none⟩ (.int .i64 b)).setCell ⟨W.heap.size,2,none⟩ (.int .i64 c)) i:=fun w4 B4 hp hk hb _=>by
  have ho : Only W.heap.size w4 (((w4.setCell ⟨W.heap.size,0,none⟩ (.int .i64 a)).setCell ⟨W.heap.size,1,none⟩ (.int .i64 b)).setCell ⟨W.heap.size,2,none⟩ (.int .i64 c)):=((Only.refl _ _).set _).set _ |>.set _
  exact ⟨set3b hb _ _ _,ho.kp hk (Nat.le_refl _),Ps.fin ho H00.out hp (Nat.le_refl _)⟩
 have HEND:=hid hend
 clear hend
 go_enter Tryz.func187,Tryz.ntmps187
 go_upto_region 1 with fail
 rw [HW0.out]
 go_wp2_with fail
 ((with_reducible refine HNX.out.mono ?_);rintro e w1 ⟨rfl,hb1⟩)
 have HB1:=hid (HB0.out.trans (hb1.mono HB0.out.size));have HK1:=hid (HK0.out.own hb1)
 clear hb1 HNX
 go_upto_region 2 with fail
 obtain ⟨w2,hw2⟩ : ∃ w',w1.alloc (.cells #[.int .i64 t.1,.string t.2] 49) = w':=⟨_,rfl⟩
 rw [hw2]
 have hb2 : Below w1.heap.size w1 w2:=by rw [← hw2];exact (Below.refl _ _).alloc (Nat.le_refl _) _
 have ht2 : Blk w2 w1.heap.size 49 #[.int .i64 t.1,.string t.2]:=by rw [← hw2];exact Blk.new _ _ _
 have hl2 : w1.heap.size < w2.heap.size:=ht2.lt
 have HB2:=hid (HB1.out.trans (hb2.mono HB1.out.size));have HK2:=hid (HK1.out.own hb2);have HT2:=hid ht2
 have hlt1 : W.heap.size < w1.heap.size:=HK1.out.lt
 clear hb2 hw2
 have hp2:=HPS.out w2 HB2.out
 have c3 : w2.cell? ⟨E.B,3,none⟩ = some (.map (some E.O)):=hp2.blk.cell 3
 have t0:=ht2.cell 0;have t1:=ht2.cell 1
 have HP2:=hid hp2
 obtain ⟨l,hml,hl⟩:=hp2.opers
 have hbz : Below w2.heap.size w2 (w2.alloc (.cells #[.int .i64 0,.int .i64 0,.int .i64 0] 160)):=(Below.refl _ _).alloc (Nat.le_refl _) _
 have c3z : (w2.alloc (.cells #[.int .i64 0,.int .i64 0,.int .i64 0] 160)).cell? ⟨E.B,3,none⟩ = some (.map (some E.O)):=(hp2.next hbz).blk.cell 3
 have t0z : (w2.alloc (.cells #[.int .i64 0,.int .i64 0,.int .i64 0] 160)).cell? ⟨w1.heap.size,0,none⟩ = some (.int .i64 t.1):=(ht2.own hbz).cell 0
 have t1z : (w2.alloc (.cells #[.int .i64 0,.int .i64 0,.int .i64 0] 160)).cell? ⟨w1.heap.size,1,none⟩ = some (.string t.2):=(ht2.own hbz).cell 1
 have hml' : MapT w2.drew E.O l:=MapT.of_heap hml rfl
 have hmz : MapT (w2.alloc (.cells #[.int .i64 0,.int .i64 0,.int .i64 0] 160)).drew E.O l:=MapT.of_heap hml (hbz.block _ hml.lt)
 have HML:=hid hml;have HL:=hid hl;have HMD:=hid hml';have HMZ:=hid hmz
 clear hp2 ht2 hml hml' hl hbz hmz
 by_cases hne : ∀ p ∈ l,p.1 ≠ t
 ·
  have hrun:=look_no HMD.out (fun p hp=>(HL.out p hp).2) HKT.out hne
  have hrun2:=look_no HMZ.out (fun p hp=>(HL.out p hp).2) HKT.out hne
  have HNE:=hid hne
  clear hne
  go_region
  all_goals
   have hw3 : ∃ w3,(w2.alloc (.cells #[.int .i64 0,.int .i64 0,.int .i64 0] 160)).drew = w3:=⟨_,rfl⟩
   obtain ⟨w3,hw3⟩:=hw3
   rw [hw3]
   have hb3 : Below w2.heap.size w2 w3:=by rw [← hw3];exact ((Below.refl _ _).alloc (Nat.le_refl _) _).drew
   have hx3 : Blk w3 w2.heap.size 160 #[.int .i64 0,.int .i64 0,.int .i64 0]:=by rw [← hw3];exact Blk.new _ _ _
   have HB3:=hid (HB2.out.trans (hb3.mono HB2.out.size));have HK3:=hid (HK2.out.own hb3);have HT3:=hid (HT2.out.own hb3);have HX3:=hid hx3
   have HML3:=hid (MapT.of_heap HML.out (hb3.block _ HML.out.lt))
   have t0:=HT3.out.cell 0;have t1:=HT3.out.cell 1
   have hof:=HOF.out w3 HB3.out
   have HOFC:=hid hof
   clear hb3 hx3 hw3 hrun hrun2 c3 c3z t0z t1z hof
   go_wp2_with fail
   ((with_reducible refine HOFC.out.mono ?_);rintro e w4 ⟨rfl,hb4⟩)
   have HB4:=hid (HB3.out.trans (hb4.mono HB3.out.size));have HB34:=hid hb4
   have hoo:=HOO.out w4 HB4.out
   have HOOC:=hid hoo
   clear hb4 hoo
   go_wp2_with fail
   ((with_reducible refine HOOC.out.mono ?_);rintro e w5 ⟨rfl,hb5⟩)
   have hb35:=HB34.out.trans (hb5.mono HB34.out.size)
   have HB5:=hid (HB4.out.trans (hb5.mono HB4.out.size));have HK5:=hid (HK3.out.own hb35);have HT5:=hid (HT3.out.own hb35);have HX5:=hid (HX3.out.own hb35)
   have HML5:=hid (MapT.of_heap HML3.out (hb35.block _ HML3.out.lt))
   have hxl : w2.heap.size < w5.heap.size:=(HX3.out.own hb35).lt
   have z0 : w5.cell? ⟨w2.heap.size,0,none⟩ = some (.int .i64 0):=HX5.out.cell 0
   have z1 : w5.cell? ⟨w2.heap.size,1,none⟩ = some (.int .i64 0):=HX5.out.cell 1
   have z2 : w5.cell? ⟨w2.heap.size,2,none⟩ = some (.int .i64 0):=HX5.out.cell 2
   have y0:=HX5.out.frozen 0;have y1:=HX5.out.frozen 1;have y2:=HX5.out.frozen 2
   clear hb5 hb35 t0 t1 HOFC HOOC
   go_upto_region 5 with fail
   obtain ⟨w6,hw6⟩ : ∃ w',(((w5.setCell ⟨w2.heap.size,0,none⟩ (.int .i64 a)).setCell ⟨w2.heap.size,1,none⟩ (.int .i64 b)).setCell ⟨w2.heap.size,2,none⟩ (.int .i64 c)) = w':=⟨_,rfl⟩
   rw [hw6]
   have ho6 : Only w2.heap.size w5 w6:=by rw [← hw6];exact ((Only.refl _ _).set _).set _ |>.set _
   have hx6 : Blk w6 w2.heap.size 160 #[.int .i64 a,.int .i64 b,.int .i64 c]:=by rw [← hw6];exact set3b HX5.out _ _ _
   have hW2 : W.heap.size ≤ w2.heap.size:=by omega
   have hp6 : Ps E w6 i:=Ps.fin ho6 H00.out (HPS.out w5 HB5.out) hW2
   have hk6 : Kp E W w6:=ho6.kp (Kp.of_below HB5.out) hW2
   have ht6 : Blk w6 w1.heap.size 49 #[.int .i64 t.1,.string t.2]:=(ho6.block _ (by omega)).trans HT5.out
   have hr6 : Blk w6 W.heap.size 160 #[.int .i64 0,.int .i64 0,.int .i64 0]:=(ho6.block _ (by omega)).trans HK5.out
   have hol : E.O ≠ w2.heap.size:=fun e=>by have:=H00.out.olt;omega
   have hm6 : MapT w6.drew E.O l:=MapT.of_heap HML5.out (ho6.block _ hol)
   obtain ⟨w7,hput,hm7,hg7⟩:=hm6.put (fun p hp=>(HL.out p hp).2) HKT.out HNE.out Tryz.underlying97 (.agg #[.int .i64 a,.int .i64 b,.int .i64 c])
   unfold tokV at hput
   have c3 : w6.cell? ⟨E.B,3,none⟩ = some (.map (some E.O)):=hp6.blk.cell 3
   have t0:=ht6.cell 0;have t1:=ht6.cell 1
   have q0:=hx6.cell 0;have q1:=hx6.cell 1;have q2:=hx6.cell 2
   have hp7 : Ps E w7 i:=Ps.kept (hp6.next ((Below.refl _ _).drew)) hE hg7 (by rw [HTX.out,HOP.out];exact hm7) HL.out HKT.out
   have hk7 : Kp E W w7:=But.grown (But.drew hk6) hg7 (Nat.le_refl _) (fun k e _=>by cases e;exact .inr rfl)
   have hx7 : Blk w7 w2.heap.size 160 #[.int .i64 a,.int .i64 b,.int .i64 c]:=Blk.kept hx6.drew' hg7 (fun e=>hol (Option.some.inj e).symm)
   have hr7 : Blk w7 W.heap.size 160 #[.int .i64 0,.int .i64 0,.int .i64 0]:=Blk.kept hr6.drew' hg7 (fun e=>by have:=Option.some.inj e;have:=H00.out.olt;omega)
   have HP7:=hid hp7;have HK7:=hid hk7;have HX7:=hid hx7;have HR7:=hid hr7
   clear ho6 hx6 hp6 hk6 ht6 hr6 hm6 hm7 hg7 hp7 hk7 hx7 hr7 hw6 z0 z1 z2 y0 y1 y2
   go_region
   all_goals
    have q0:=HX7.out.cell 0;have q1:=HX7.out.cell 1;have q2:=HX7.out.cell 2
    have f0:=HR7.out.frozen 0;have f1:=HR7.out.frozen 1;have f2:=HR7.out.frozen 2
    have b0 : w7.cell? ⟨W.heap.size,0,none⟩ = some (.int .i64 0):=HR7.out.cell 0
    have b1 : w7.cell? ⟨W.heap.size,1,none⟩ = some (.int .i64 0):=HR7.out.cell 1
    have b2 : w7.cell? ⟨W.heap.size,2,none⟩ = some (.int .i64 0):=HR7.out.cell 2
    obtain ⟨q,hkk,hpp⟩:=HEND.out w7 w2.heap.size HP7.out HK7.out HR7.out HX7.out
    have g0:=q.cell 0;have g1:=q.cell 1;have g2:=q.cell 2
    have HKK:=hid hkk;have HPP:=hid hpp
    clear q hkk hpp hput
    go_wp2_with fail
    refine bodyPost_ret (v:=.agg #[.int .i64 a,.int .i64 b,.int .i64 c]) (by simp [results,Tryz.results187,go_sem,g0,g1,g2]) rfl ?_
    exact ⟨rfl,HKK.out,HPP.out⟩
 ·
  have hv : ∀ p ∈ l,p.1 = t → p.2 = .agg #[.int .i64 a,.int .i64 b,.int .i64 c]:=fun p hp hpt=>by rw [(HL.out p hp).1,hpt,HTX.out,HOP.out]
  have hex : ∃ p ∈ l,p.1 = t:=Classical.byContradiction fun hno=>hne fun p hp e=>hno ⟨p,hp,e⟩
  have hrun:=look_yes HMD.out (fun p hp=>(HL.out p hp).2) HKT.out hv hex
  have hrun2:=look_yes HMZ.out (fun p hp=>(HL.out p hp).2) HKT.out hv hex
  clear hv hex hne
  go_region
  all_goals
   have hw3 : ∃ w3,(w2.alloc (.cells #[.int .i64 a,.int .i64 b,.int .i64 c] 160)).drew = w3:=⟨_,rfl⟩
   obtain ⟨w3,hw3⟩:=hw3
   rw [hw3]
   have hb3 : Below w2.heap.size w2 w3:=by rw [← hw3];exact ((Below.refl _ _).alloc (Nat.le_refl _) _).drew
   have hx3 : Blk w3 w2.heap.size 160 #[.int .i64 a,.int .i64 b,.int .i64 c]:=by rw [← hw3];exact Blk.new _ _ _
   have HB3:=hid (HB2.out.trans (hb3.mono HB2.out.size));have HK3:=hid (HK2.out.own hb3)
   have q0:=hx3.cell 0;have q1:=hx3.cell 1;have q2:=hx3.cell 2
   have hr3:=HK2.out.own hb3
   have f0:=hr3.frozen 0;have f1:=hr3.frozen 1;have f2:=hr3.frozen 2
   have b0 : w3.cell? ⟨W.heap.size,0,none⟩ = some (.int .i64 0):=hr3.cell 0
   have b1 : w3.cell? ⟨W.heap.size,1,none⟩ = some (.int .i64 0):=hr3.cell 1
   have b2 : w3.cell? ⟨W.heap.size,2,none⟩ = some (.int .i64 0):=hr3.cell 2
   have hlt3 : w2.heap.size < w3.heap.size:=hx3.lt
   obtain ⟨q,hkk,hpp⟩:=HEND.out w3 w2.heap.size (HPS.out _ HB3.out) (Kp.of_below HB3.out) HK3.out hx3
   have g0:=q.cell 0;have g1:=q.cell 1;have g2:=q.cell 2
   have HKK:=hid hkk;have HPP:=hid hpp
   clear q hkk hpp hrun hrun2 hb3 hx3 hr3 hw3 c3 t0 t1 c3z t0z t1z
   go_wp2_with fail
   refine bodyPost_ret (v:=.agg #[.int .i64 a,.int .i64 b,.int .i64 c]) (by simp [results,Tryz.results187,go_sem,g0,g1,g2]) rfl ?_
   exact ⟨rfl,HKK.out,HPP.out⟩
end Go.Proofs.YtlklhkkjcfmefaaGreatDoor.pa
namespace Go.Proofs.YtlklhkkjcfmefaaGreatDoor.Lx
open Go.RowKit
theorem next_of {x y : Lex} {l : List UInt8} {k : Int} {n : Nat} (hf : find (tried x) l = some (k,n)) (ht : turn x k (l.take n) = .ok y) : next x l = .ok (k,n,y):=by
 unfold next;rw [hf];simp only;rw [ht]
theorem next_bad {x : Lex} {l : List UInt8} {k e : Int} {n : Nat} (hf : find (tried x) l = some (k,n)) (ht : turn x k (l.take n) = .error e) : next x l = .error e:=by
 unfold next;rw [hf];simp only;rw [ht]
def out (d : Nat) : Lex:=⟨⟨false,0⟩,List.replicate d ⟨true,0⟩⟩
def inn (d : Nat) : Lex:=⟨⟨true,0⟩,List.replicate d ⟨true,0⟩⟩
theorem tried_out (d : Nat) : tried (out d) = if d = 0 then outside else closing:=by
 unfold tried out
 cases d with
 | zero=>rfl
 | succ d=>rw [if_neg (by simp),if_pos ⟨by simp,rfl⟩,if_neg (by omega)]
theorem find_q_out (r : List UInt8) : find outside (34 :: r) = some (7,1):=rfl
theorem find_q_clo (r : List UInt8) : find closing (34 :: r) = some (7,1):=rfl
theorem find_q_in (r : List UInt8) : find inside (34 :: r) = some (11,1):=rfl
theorem find_o_in (r : List UInt8) : find inside (92 :: 40 :: r) = some (9,2):=rfl
theorem find_c_clo (r : List UInt8) : find closing (41 :: r) = some (10,1):=rfl
theorem find_1_nil : find outside [49] = some (6,1):=by decide +kernel
theorem find_1_clo (r : List UInt8) : find closing (49 :: 41 :: r) = some (6,1):=rfl
theorem step_of {x y : Lex} {l : List UInt8} {k : Int} {n : Nat} (h0 : l ≠ []) (hf : find (tried x) l = some (k,n)) (ht : turn x k (l.take n) = .ok y) : lexA x l = ((k,l.take n) :: (lexA y (l.drop n)).1,(lexA y (l.drop n)).2) :=
 lexA_ok (next_of hf ht) h0
theorem step_q (d : Nat) (r : List UInt8) : lexA (out d) (34 :: r) = ((7,[34]) :: (lexA (inn d) r).1,(lexA (inn d) r).2):=by
 refine step_of (x:=out d) (y:=inn d) (l:=34 :: r) (k:=7) (n:=1) (by simp) ?_ rfl
 rw [tried_out]
 split
 ·exact find_q_out r
 ·exact find_q_clo r
theorem step_e (d : Nat) (r : List UInt8) : lexA (inn d) (34 :: r) = ((11,[34]) :: (lexA (out d) r).1,(lexA (out d) r).2) :=
 step_of (x:=inn d) (y:=out d) (l:=34 :: r) (k:=11) (n:=1) (by simp) (find_q_in r) rfl
theorem step_o (d : Nat) (hd : d < 256) (r : List UInt8) : lexA (inn d) (92 :: 40 :: r) = ((9,[92,40]) :: (lexA (out (d + 1)) r).1,(lexA (out (d + 1)) r).2):=by
 refine step_of (x:=inn d) (y:=out (d + 1)) (l:=92 :: 40 :: r) (k:=9) (n:=2) (by simp) (find_o_in r) ?_
 unfold turn
 rw [if_neg (by decide),if_neg (by decide),if_pos rfl,if_neg (by simp [inn];omega)]
 simp [inn,out,List.replicate_succ']
theorem step_deep (r : List UInt8) : lexA (inn 256) (92 :: 40 :: r) = ([],21):=by
 refine lexA_err (next_bad (x:=inn 256) (l:=92 :: 40 :: r) (k:=9) (n:=2) (find_o_in r) ?_) (by simp)
 unfold turn
 rw [if_neg (by decide),if_neg (by decide),if_pos rfl,if_pos (by show 256 ≤ (List.replicate 256 _).length;rw [List.length_replicate];omega)]
theorem step_c (d : Nat) (r : List UInt8) : lexA (out (d + 1)) (41 :: 34 :: r) = ((10,[41]) :: (11,[34]) :: (lexA (out d) r).1,(lexA (out d) r).2):=by
 have h : lexA (out (d + 1)) (41 :: 34 :: r) = ((10,[41]) :: (lexA (inn d) (34 :: r)).1,(lexA (inn d) (34 :: r)).2):=by
  refine step_of (x:=out (d + 1)) (y:=inn d) (l:=41 :: 34 :: r) (k:=10) (n:=1) (by simp) (by rw [tried_out,if_neg (by omega)];exact find_c_clo _) ?_
  unfold turn
  rw [if_neg (by decide),if_neg (by decide),if_neg (by decide),if_pos rfl]
  have e : (out (d + 1)).below = List.replicate d ⟨true,0⟩ ++ [⟨true,0⟩]:=by simp [out,List.replicate_succ']
  rw [e]
  simp [inn,List.getLastD_eq_getLast?]
 rw [h,step_e]
def opens : Nat → List UInt8 → List UInt8
 | 0,r=>r
 | k + 1,r=>34 :: 92 :: 40 :: opens k r
def closes : Nat → List UInt8
 | 0=>[]
 | k + 1=>41 :: 34 :: closes k
theorem lex_closes (d : Nat) : (lexA (out d) (closes d)).2 = 0 ∧ (lexA (out d) (closes d)).1.length = 2 * d:=by
 induction d with
 | zero=>simp [closes,lexA_nil,out,ended]
 | succ d ih =>
  rw [closes,step_c]
  exact ⟨ih.1,by simp only [List.length_cons];omega⟩
theorem lex_one (d : Nat) : (lexA (out d) (49 :: closes d)).2 = 0 ∧ (lexA (out d) (49 :: closes d)).1.length = 2 * d + 1:=by
 have hc:=lex_closes d
 have h : lexA (out d) (49 :: closes d) = ((6,[49]) :: (lexA (out d) (closes d)).1,(lexA (out d) (closes d)).2):=by
  refine step_of (x:=out d) (y:=out d) (l:=49 :: closes d) (k:=6) (n:=1) (by simp) ?_ rfl
  rw [tried_out]
  cases d with
  | zero=>exact find_1_nil
  | succ d=>rw [if_neg (by omega)];exact find_1_clo _
 rw [h]
 exact ⟨hc.1,by simp only [List.length_cons];omega⟩
theorem lex_opens (k d : Nat) (h : d + k ≤ 256) : (lexA (out d) (opens k (49 :: closes (d + k)))).2 = 0 ∧ (lexA (out d) (opens k (49 :: closes (d + k)))).1.length = 2 * k + (2 * (d + k) + 1):=by
 induction k generalizing d with
 | zero=>have:=lex_one d;simp only [opens,Nat.add_zero,Nat.mul_zero,Nat.zero_add] at *;exact this
 | succ k ih =>
  have:=ih (d + 1) (by omega)
  rw [show d + 1 + k = d + (k + 1) by omega] at this
  rw [opens,step_q,step_o d (by omega)]
  exact ⟨this.1,by simp only [List.length_cons];omega⟩
theorem find_note (r : List UInt8) : find outside (35 :: r) = some (2,1 + noteR 0 r):=by
 show (if 1 + noteR 0 r = 0 then _ else some ((2 : Int),1 + noteR 0 r)) = _
 rw [if_neg (by omega)]
end Go.Proofs.YtlklhkkjcfmefaaGreatDoor.Lx
