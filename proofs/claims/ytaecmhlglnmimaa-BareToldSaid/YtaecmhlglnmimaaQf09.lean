/- Ground of the law: NdCopy, PvF, PaMono, UtfRef3, SgOper, SgKey. -/
import Derived.Test.YtaecmhlglnmimaaQf08
import Derived.Test.YtaecmhlglnmimaaQf02
import Derived.Deep.RegionHeld3
import Derived.Deep.AppendLies
import Derived.Laws.Rows
import Derived.Test.YtaecmhlglnmimaaQf07
import Derived.Lib.Bytealg
import Derived.RangeFuncNested
import Derived.RangeFuncBound
import Derived.RangeFuncCalls
import Derived.RangeFuncLeaves
import Derived.RangeFuncBox
import Derived.RegionTactic
import Derived.OwnWalkIn
import Derived.TacticsInMore
import Derived.LoopNIn
import Derived.LoopIn
import Derived.ChangeAlike
import Derived.Deep.MidRow
import Derived.Maps.OwnSet
import Derived.StringKeys
set_option maxRecDepth 100000
set_option maxHeartbeats 8000000
set_option linter.unusedVariables false
set_option linter.unusedSimpArgs false
namespace Go.Proofs.Ytaecmhlglnmimaa.nd
open Go.Lib (hid)
open Go.RowKit sx ed
abbrev CS (w : World) (k : Int) (t : ByteArray) (u : World) : Prop:=(u.cell? ⟨w.heap.size,0,none⟩ = some (.int .i64 k) ∧ u.cell? ⟨w.heap.size,1,none⟩ = some (.string t)) ∧ (∃ a b c,Blk u (w.heap.size + 1) 25 #[a,b,c]) ∧ Below w.heap.size w u
theorem CS.more {w u v : World} {k : Int} {t : ByteArray} (h : CS w k t u) (hb : Below u.heap.size u v) : CS w k t v:=by
 obtain ⟨⟨h1,h2⟩,⟨a,b,c,h3⟩,h4⟩:=h
 have hl:=h3.lt
 exact ⟨⟨(hb.cell (p:=⟨w.heap.size,0,none⟩) (by simp;omega)).trans h1,(hb.cell (p:=⟨w.heap.size,1,none⟩) (by simp;omega)).trans h2⟩,⟨a,b,c,h3.own hb⟩,h4.trans (hb.mono h4.size)⟩
theorem CS.stored {w u : World} {k : Int} {t : ByteArray} (h : CS w k t u) (a b c : Value) : CS w k t (((u.setCell ⟨w.heap.size + 1,0,none⟩ a).setCell ⟨w.heap.size + 1,1,none⟩ b).setCell ⟨w.heap.size + 1,2,none⟩ c):=by
 obtain ⟨⟨h1,h2⟩,⟨x,y,z,h3⟩,h4⟩:=h
 have hb : Below (w.heap.size + 1) u (((u.setCell ⟨w.heap.size + 1,0,none⟩ a).setCell ⟨w.heap.size + 1,1,none⟩ b).setCell ⟨w.heap.size + 1,2,none⟩ c) :=
  (((Below.refl _ u).setCell (p:=⟨w.heap.size + 1,0,none⟩) (Nat.le_refl _) a).setCell (p:=⟨w.heap.size + 1,1,none⟩) (Nat.le_refl _) b).setCell (p:=⟨w.heap.size + 1,2,none⟩) (Nat.le_refl _) c
 exact ⟨⟨(hb.cell (p:=⟨w.heap.size,0,none⟩) (by simp)).trans h1,(hb.cell (p:=⟨w.heap.size,1,none⟩) (by simp)).trans h2⟩,
  ⟨a,b,c,((h3.set (o:=0) a).set (o:=1) b).set (o:=2) c⟩,h4.trans (hb.mono (Nat.le_succ _))⟩
theorem tell_calls (k : Int) (t : ByteArray) (ao a2 : Option Addr) (l cap l2 c2 : Nat) (w : World) (hcl : ∀ W,Calls Try.prog 39 #[.string t] W fun e w'=>e = .returned (.string t) ∧ Below W.heap.size W w') :
  Calls Try.prog 38 #[.agg #[.int .i64 k,.string t,.slice ao l cap],.slice a2 l2 c2] w fun e w'=>e = .returned (.agg #[.int .i64 k,.string t,.slice a2 l2 c2]) ∧ Below w.heap.size w w':=by
 obtain ⟨W1,hW1⟩ : ∃ W1,((w.alloc (.cells #[.int .i64 k,.string t,.slice ao l cap] 25)).alloc (.cells #[.int .i64 0,.string ⟨#[]⟩,.slice none 0 0] 25)) = W1:=⟨_,rfl⟩
 have hS : CS w k t W1:=by
  rw [← hW1]
  have h1:=(Blk.new w 25 #[.int .i64 k,.string t,.slice ao l cap]).alloc (.cells #[.int .i64 0,.string ⟨#[]⟩,.slice none 0 0] 25)
  have h2:=Blk.new (w.alloc (.cells #[.int .i64 k,.string t,.slice ao l cap] 25)) 25 #[.int .i64 0,.string ⟨#[]⟩,.slice none 0 0]
  exact ⟨⟨h1.cell 0,h1.cell 1⟩,⟨_,_,_,by simpa using h2⟩,((Below.refl _ w).alloc (Nat.le_refl _) _).alloc (by simp) _⟩
 have HW1:=hid hW1
 clear hW1
 go_enter Try.func38,Try.ntmps38
 go_wp2_with fail
 rw [HW1.out]
 have b0:=hS.1.1
 have b1:=hS.1.2
 go_region_held3 (fun u=>(u.cell? ⟨w.heap.size,0,none⟩ = some (.int .i64 k) ∧ u.cell? ⟨w.heap.size,1,none⟩ = some (.string t)) ∧ (∃ a b c,Blk u (w.heap.size + 1) 25 #[a,b,c]) ∧ Below w.heap.size w u)
  (first
   | assumption
   | exact CS.more hS ((Below.refl _ _).drew)
   | exact CS.stored (by assumption) _ _ _
   | exact CS.more (by assumption) (by assumption))
  (first
   | (go_at_call 39;with_reducible refine (hcl _).mono ?_;rintro _ u1 ⟨rfl,hbn⟩;have hcs:=CS.more (by assumption) hbn;have hE:=hcs.2.1;obtain ⟨x0,x1,x2,hk⟩:=hE;have f0:=hk.frozen 0;have f1:=hk.frozen 1;have f2:=hk.frozen 2;have e0:=hk.cell 0;have e1:=hk.cell 1;have e2:=hk.cell 2))
 rename_i hHeld
 have hcell:=(((hk.set (o:=0) (.int .i64 k)).set (o:=1) (.string t)).set (o:=2) (.slice a2 l2 c2))
 have g0:=hcell.cell 0;have g1:=hcell.cell 1;have g2:=hcell.cell 2
 go_wp2_with fail
 exact bodyPost_ret (v:=.agg #[.int .i64 k,.string t,.slice a2 l2 c2]) (by simp [results,Try.results38,go_sem,g0,g1,g2]) rfl ⟨rfl,hHeld.2.2⟩
def Priv (N : Nat) (W : World) (v : Value) (k : Nat) : Prop:=N ≤ k ∧ k < W.heap.size ∧ v.ownBlock ≠ some k
def Building (N : Nat) (W : World) (f : Fo) (v : Value) : Prop:=∃ L,W.ownsRow N 25 3 v f.len L ∧ CellsOf (Priv N W v) W f L
theorem own_step {W w1 : World} {base : Nat} {e : TypeId} {size n : Nat} {v : Value} {xs : List Value} (h : W.ownsRow base e size v n xs) (hb : Below W.heap.size W w1) : w1.ownsRow base e size v n xs :=
 h.kept (row:=none) ⟨hb.os,hb.tape,hb.output,hb.size,fun k hk _=>hb.block k hk⟩ (by cases v.ownBlock <;> simp)
theorem own_less {W : World} {base base' size n : Nat} {e : TypeId} {v : Value} {xs : List Value} (h : W.ownsRow base e size v n xs) (hb : base' ≤ base) : W.ownsRow base' e size v n xs:=by
 refine ⟨h.1,?_⟩
 rcases h.2 with hn | ⟨g,cap,cur,h1,h2,h3⟩
 ·exact .inl hn
 ·exact .inr ⟨g,cap,cur,h1,Nat.le_trans hb h2,h3⟩
theorem Building.step {N : Nat} {W w1 : World} {f : Fo} {v : Value} (h : Building N W f v) (hb : Below W.heap.size W w1) : Building N w1 f v:=by
 obtain ⟨L,h1,h2⟩:=h
 exact ⟨L,own_step h1 hb,h2.keep (fun k hk=>⟨hk.1,Nat.lt_of_lt_of_le hk.2.1 hb.size,hk.2.2⟩) (fun k hk=>hb.block k hk.2.1)⟩
theorem Building.less {N N' : Nat} {W : World} {f : Fo} {v : Value} (h : Building N W f v) (hN : N' ≤ N) : Building N' W f v:=by
 obtain ⟨L,h1,h2⟩:=h
 exact ⟨L,own_less h1 hN,h2.keep (fun k hk=>⟨Nat.le_trans hN hk.1,hk.2.1,hk.2.2⟩) (fun _ _=>rfl)⟩
theorem Building.far {N : Nat} {W : World} {f : Fo} {v : Value} (h : Building N W f v) {B o : Nat} (hB : B < N) (u : Value) : Building N (W.setCell ⟨B,o,none⟩ u) f v:=by
 obtain ⟨L,h1,h2⟩:=h
 refine ⟨L,⟨h1.1,?_⟩,h2.keep (fun k hk=>⟨hk.1,by simpa using hk.2.1,hk.2.2⟩) (fun k hk=>Below.heap_setCell _ _ _ k (fun e=>by have:=hk.1;simp at e;omega))⟩
 rcases h1.2 with hn | ⟨g,cap,cur,e1,e2,e3,e4⟩
 ·exact .inl hn
 ·exact .inr ⟨g,cap,cur,e1,e2,(Below.heap_setCell _ _ _ g (fun e=>by simp at e;omega)).trans e3,e4⟩
theorem Building.slice {N : Nat} {W : World} {f : Fo} {v : Value} (h : Building N W f v) : ∃ ao cap,v = .slice ao f.len cap:=by
 obtain ⟨L,h1,_⟩:=h
 obtain ⟨ao,cap,e,_⟩:=own_len' h1
 exact ⟨ao,cap,e⟩
theorem Building.kids {N : Nat} {W : World} {f : Fo} {v : Value} (h : Building N W f v) : KidsAt (fun k=>N ≤ k ∧ k < W.heap.size) W f v:=by
 obtain ⟨L,h1,h2⟩:=h
 exact own_kids h1 h2 (fun k hk=>⟨hk.1,hk.2.1⟩) (fun k hk=>h1.lt k hk)
theorem building_nil {N : Nat} {W : World} {v : Value} (h : W.ownsRow N 25 3 v 0 []) : Building N W .nil v:=⟨[],h,rfl⟩
theorem building_push {N : Nat} {w1 w' : World} {f : Fo} {v v' s : Value} {x : Nd} {L : List Value} {o : Obj} (h : CellsOf (Priv N w1 v) w1 f L) (hx : KidsAt (Priv N w1 v) w1 x.kids s)
  (hown : w'.ownsRow N 25 3 v' (f.len + 1) (L ++ [.int .i64 x.k,.string x.t,s])) (hg : (w1.alloc o).grownBy w' v.ownBlock) (hat : v'.ownBlock = v.ownBlock ∨ v'.ownBlock = some (w1.alloc o).heap.size) :
  Building N w' (f.app (.cons x.k x.t x.kids .nil)) v':=by
 have hsz:=hg.size
 rw [World.size_alloc] at hsz hat
 have hp : ∀ k,Priv N w1 v k → Priv N w' v' k:=fun k hk=>⟨hk.1,by have:=hk.2.1;omega,fun e=>by
  rcases hat with h1 | h1
  ·exact hk.2.2 (h1.symm.trans e)
  ·rw [h1] at e
   have:=hk.2.1
   injection e with e
   omega⟩
 have hk : ∀ k,Priv N w1 v k → w'.heap[k]? = w1.heap[k]?:=fun k hk =>
  (hg.block k (by rw [World.size_alloc];have:=hk.2.1;omega) (fun e=>hk.2.2 e.symm)).trans (Below.heap_alloc _ _ _ hk.2.1)
 exact ⟨_,by rw [Fo.app_len];exact hown,(h.keep hp hk).snoc (hx.keep hp hk)⟩
def CopyOf (w : World) (x : Nd) (u : Value) (w' : World) : Prop:=∃ s,u = .agg #[.int .i64 x.k,.string x.t,s] ∧ Building w.heap.size w' x.kids s ∧ Below w.heap.size w w'
def FoldOk (x : Nd) : Prop:=x.weight ≤ 1000000 → ∀ (w : World) (v : Value),NdAt (Lt w.heap.size) w x v →
 Calls Try.prog 37 #[v,.func (.func 38) #[] #[]] w fun e w'=>∃ u,e = .returned u ∧ CopyOf w x u w'
theorem fold_ok (hcl : ∀ (t : ByteArray),t.size ≤ 140737488351232 → ∀ W,Calls Try.prog 39 #[.string t] W fun e w'=>e = .returned (.string t) ∧ Below W.heap.size W w') (x : Nd) : FoldOk x:=by
 refine Nd.induct (p:=FoldOk) (fun x hp hwt w v hu=>?_) x
 obtain ⟨s,rfl,hs⟩:=hu
 obtain ⟨ao,cap,rfl,hm⟩:=hs.slice
 obtain ⟨k,t,f⟩:=x
 dsimp only at hs hm hp ⊢
 unfold maxLen at hm
 have hwt':=hwt
 simp only [Nd.weight] at hwt'
 have hfl : f.len ≤ 1000000:=by have:=Fo.len_le f;have:=Fo.count_le f;omega
 obtain ⟨i0,hi,hz0,hz1,hz2⟩:=info_parts infoN
 obtain ⟨W0,hW0⟩ : ∃ W0,((w.alloc (.cells #[.int .i64 k,.string t,.slice ao f.len cap] 25)).alloc (.cells #[.int .i64 0,.string ⟨#[]⟩,.slice none 0 0] 25)) = W0:=⟨_,rfl⟩
 have hb0 : Below w.heap.size w W0:=by rw [← hW0];exact ((Below.refl _ w).alloc (Nat.le_refl _) _).alloc (by simp) _
 have hk1 : Blk W0 w.heap.size 25 #[.int .i64 k,.string t,.slice ao f.len cap]:=by rw [← hW0];exact (Blk.new w _ _).alloc _
 have hk2 : Blk W0 (w.heap.size + 1) 25 #[.int .i64 0,.string ⟨#[]⟩,.slice none 0 0]:=by
  rw [← hW0]
  simpa using Blk.new (w.alloc (.cells #[.int .i64 k,.string t,.slice ao f.len cap] 25)) 25 #[.int .i64 0,.string ⟨#[]⟩,.slice none 0 0]
 have hsz : W0.heap.size = w.heap.size + 2:=by rw [← hW0];simp
 obtain ⟨m,hmm⟩ : ∃ m,f.len = m:=⟨_,rfl⟩
 rw [hmm] at hm hs hW0 hk1 hfl ⊢
 have HF:=hid (hs.below hb0 (Nat.le_refl _));have HL:=hid hmm;have HP:=hid hp;have HB0:=hid hb0
 have HK1:=hid hk1;have HK2:=hid hk2;have HW0:=hid hW0;have HWT:=hid hwt';have HSZ:=hid hsz
 have a2:=hk1.cell 2
 clear hs hmm hp hb0 hk1 hk2 hW0 hwt hwt' hsz
 go_enter Try.func37,Try.ntmps37
 go_wp2_with fail
 rw [HW0.out]
 go_wp2_with fail
 ((with_reducible refine (growN_calls m (by omega) _).mono ?_);rintro e w1 ⟨v1,rfl,hown,hb1⟩)
 obtain ⟨ao1,cap1,rfl,_⟩:=own_len' hown
 have a2:=(HK1.out.own hb1).cell 2
 have hbld:=building_nil hown
 have HBL:=hid hbld;have HB1:=hid hb1
 clear hown hbld hb1
 go_wp2_with fail
 go_loopw [5,15] (fun a i wr=>∃ j : Nat,j ≤ m ∧ i = .int .i64 (j : Int) ∧ Building W0.heap.size wr (f.take j) a ∧ Below W0.heap.size W0 wr) (fun _ i _=>m - (intOf i).toNat)
 case atStart=>exact ⟨0,Nat.zero_le _,rfl,by have:=HBL.out;cases f <;> exact this,HB1.out⟩
 case round =>
  obtain ⟨j,hj,rfl,hbd,hbw⟩:=hrel
  have a2:=(HK1.out.own hbw).cell 2
  by_cases hlt : j < m
  ·obtain ⟨x,hx⟩:=Fo.get_of_lt (f:=f) (i:=j) (by rw [HL.out];exact hlt)
   have hFw:=HF.out.toLt.below hbw (Nat.le_refl _)
   obtain ⟨g1,o1,ao2,cap2,rfl,_,hg1,d0,d1,d2,d3⟩:=hFw.get hx
   have hlt1 : (j : Int) < (m : Int):=by omega
   have hxw : x.weight ≤ 1000000:=by have:=Fo.weight_get hx;have:=HWT.out;omega
   obtain ⟨wa,hwa⟩ : ∃ wa,wr.alloc (.cells #[.int .i64 x.k,.string x.t,.slice ao2 x.kids.len cap2] 25) = wa:=⟨_,rfl⟩
   have hba : Below wr.heap.size wr wa:=by rw [← hwa];exact (Below.refl _ wr).alloc (Nat.le_refl _) _
   have hka : Blk wa wr.heap.size 25 #[.int .i64 x.k,.string x.t,.slice ao2 x.kids.len cap2]:=by rw [← hwa];exact Blk.new wr _ _
   have hcall:=HP.out.get hx hxw wa _ ((NdAt.mk (d3.toLt.below hba (Nat.le_refl _))).mono hba.size)
   have HC:=hid hcall;have HX:=hid hx;have HWA:=hid hwa
   have HW:=hid (hbw.trans (hba.mono hbw.size));have HBD:=hid (hbd.step hba)
   have e0:=hka.cell 0;have e1:=hka.cell 1;have e2:=hka.cell 2
   have hW0s:=HW.out.size
   clear hcall hx d3 hbw hFw hxw hwa hka hba hbd
   obtain ⟨ao5,cap5,rfl⟩:=HBD.out.slice
   rw [Fo.take_len (by rw [HL.out];exact hj)] at HBD ⊢
   go_wp2_with fail
   rw [HWA.out]
   go_wp2_with fail
   ((with_reducible refine HC.out.mono ?_);rintro e wb ⟨u,rfl,hcp⟩)
   obtain ⟨s,rfl,hbs,hbb⟩:=hcp
   obtain ⟨ao6,cap6,rfl⟩:=hbs.slice
   have hkx : KidsAt (Priv W0.heap.size wb (.slice ao5 j cap5)) wb x.kids (.slice ao6 x.kids.len cap6):=hbs.kids.keep (fun k hk=>⟨Nat.le_trans hW0s hk.1,hk.2,fun e=>by
    obtain ⟨L,h1,_⟩:=HBD.out
    have:=(h1.lt k e).2
    have:=hk.1
    omega⟩) (fun _ _=>rfl)
   obtain ⟨L,hown,hcells⟩:=HBD.out.step hbb
   rw [Fo.take_len (by rw [HL.out];exact hj)] at hown
   have HCE:=hid hcells;have HKX:=hid hkx
   have hwb:=hbb.size
   have HWB:=hid (HW.out.trans (hbb.mono HW.out.size))
   clear hbs hbb hcells hkx
   go_wp2_with (at_builtin;refine wpList_append_own_at _ rfl _ _ 23 rfl W0.heap.size 25 i0 _ 3 48 Try.underlying23 hi hz0 hz1 hz2 rfl (by decide) _ _ _ rfl (hown.alloc _) ⟨wb.heap.size,0,none⟩ 1 1 [.int .i64 x.k,.string x.t,.slice ao6 x.kids.len cap6] rfl rfl (World.news_of_block (cs:=#[.int .i64 x.k,.string x.t,.slice ao6 x.kids.len cap6]) (t:=25) (fr:=(0,0)) (heap_alloc_new wb _)) (by intro u hu;simp at hu;rcases hu with rfl | rfl | rfl <;> rfl) (by unfold maxLen;omega) (by omega) (by simp;omega) ?_;intro v' w' hown' hgrow _ hat;obtain ⟨ao7,cap7,rfl,_⟩:=own_len' hown')
   have hbd2:=building_push (x:=x) HCE.out HKX.out (by rw [Fo.take_len (by rw [HL.out];exact hj)];exact hown') hgrow hat
   rw [← Fo.take_snoc HX.out] at hbd2
   have hbw2:=(HWB.out.alloc HWB.out.size _).grown hgrow (by have:=HWB.out.size;simp;omega) (fun k hk=>(hown.lt k hk).1)
   have HBD2:=hid hbd2;have HBW2:=hid hbw2
   clear hown hown' hgrow hat hbd2 hbw2
   go_wp2_with fail
   exact ⟨⟨j + 1,by omega,by go_num,HBD2.out,HBW2.out⟩,by simp [intOf];omega⟩
  ·obtain rfl : j = m:=by omega
   have hge : decide ((j : Int) < (j : Int)) = false:=by simp
   rw [Fo.take_all (by rw [HL.out];exact Nat.le_refl _)] at hbd
   obtain ⟨ao5,cap5,rfl⟩:=hbd.slice
   rw [HL.out] at hbd ⊢
   have a0:=(HK1.out.own hbw).cell 0
   have a1:=(HK1.out.own hbw).cell 1
   have ht : t.size ≤ 140737488351232:=by have:=HWT.out;omega
   have hcall:=tell_calls k t ao ao5 j cap j cap5 wr (hcl t ht)
   have HC:=hid hcall;have HBD:=hid hbd;have HBW:=hid hbw
   clear hcall hbd hbw
   go_wp2_with fail
   ((with_reducible refine HC.out.mono ?_);rintro e wb ⟨rfl,hb2⟩)
   have hbd2:=HBD.out.step hb2
   have hb3:=HBW.out.trans (hb2.mono HBW.out.size)
   have hk:=HK2.out.own hb3
   have f0:=hk.frozen 0;have f1:=hk.frozen 1;have f2:=hk.frozen 2
   have e0:=hk.cell 0;have e1:=hk.cell 1;have e2:=hk.cell 2
   have hcell:=(((hk.set (o:=0) (.int .i64 k)).set (o:=1) (.string t)).set (o:=2) (.slice ao5 j cap5))
   have g0:=hcell.cell 0;have g1:=hcell.cell 1;have g2:=hcell.cell 2
   have HB2:=hid hbd2;have HB3:=hid hb3
   clear hb2 hbd2 hb3 hk hcell
   go_wp2_with fail
   refine bodyPost_ret (v:=.agg #[.int .i64 k,.string t,.slice ao5 j cap5]) (by simp [results,Try.results37,go_sem,g0,g1,g2]) rfl ⟨_,rfl,_,rfl,?_,?_⟩
   ·have hlt : w.heap.size + 1 < W0.heap.size:=by have:=HSZ.out;omega
    exact (((HB2.out.far hlt _).far hlt _).far hlt _).less HB0.out.size
   ·exact (((HB0.out.trans (HB3.out.mono HB0.out.size)).setCell (p:=⟨w.heap.size + 1,0,none⟩) (Nat.le_succ _) _).setCell (p:=⟨w.heap.size + 1,1,none⟩) (Nat.le_succ _) _).setCell (p:=⟨w.heap.size + 1,2,none⟩) (Nat.le_succ _) _
theorem copy_of (hcl : ∀ (t : ByteArray),t.size ≤ 140737488351232 → ∀ W,Calls Try.prog 39 #[.string t] W fun e w'=>e = .returned (.string t) ∧ Below W.heap.size W w') (x : Nd) (hwt : x.weight ≤ 1000000) (w : World) (v : Value) (hu : NdAt (Lt w.heap.size) w x v) :
  Calls Try.prog 25 #[v] w fun e w'=>∃ u,e = .returned u ∧ CopyOf w x u w':=by
 obtain ⟨s,rfl,hs⟩:=hu
 obtain ⟨ao,cap,rfl,hm⟩:=hs.slice
 obtain ⟨W0,hW0⟩ : ∃ W0,((w.alloc (.cells #[.int .i64 x.k,.string x.t,.slice ao x.kids.len cap] 25)).alloc (.cells #[.int .i64 0,.string ⟨#[]⟩,.slice none 0 0] 25)) = W0:=⟨_,rfl⟩
 have hb0 : Below w.heap.size w W0:=by rw [← hW0];exact ((Below.refl _ w).alloc (Nat.le_refl _) _).alloc (by simp) _
 have hk2 : Blk W0 (w.heap.size + 1) 25 #[.int .i64 0,.string ⟨#[]⟩,.slice none 0 0]:=by
  rw [← hW0]
  simpa using Blk.new (w.alloc (.cells #[.int .i64 x.k,.string x.t,.slice ao x.kids.len cap] 25)) 25 #[.int .i64 0,.string ⟨#[]⟩,.slice none 0 0]
 have hsz : W0.heap.size = w.heap.size + 2:=by rw [← hW0];simp
 have hcall:=fold_ok hcl x hwt W0 _ ((NdAt.mk (hs.below hb0 (Nat.le_refl _))).mono hb0.size)
 have HC:=hid hcall;have HB0:=hid hb0;have HK2:=hid hk2;have HW0:=hid hW0;have HSZ:=hid hsz
 clear hcall hb0 hk2 hW0 hs hsz
 go_enter Try.func25,Try.ntmps25
 go_wp2_with fail
 rw [HW0.out]
 ((with_reducible refine HC.out.mono ?_);rintro e wb ⟨u,rfl,s',rfl,hbd,hb2⟩)
 obtain ⟨ao5,cap5,rfl⟩:=hbd.slice
 have hk:=HK2.out.own hb2
 have f0:=hk.frozen 0;have f1:=hk.frozen 1;have f2:=hk.frozen 2
 have e0:=hk.cell 0;have e1:=hk.cell 1;have e2:=hk.cell 2
 have hcell:=(((hk.set (o:=0) (.int .i64 x.k)).set (o:=1) (.string x.t)).set (o:=2) (.slice ao5 x.kids.len cap5))
 have g0:=hcell.cell 0;have g1:=hcell.cell 1;have g2:=hcell.cell 2
 have HB2:=hid hbd;have HB3:=hid hb2
 clear hb2 hbd hk hcell
 go_wp2_with fail
 refine bodyPost_ret (v:=.agg #[.int .i64 x.k,.string x.t,.slice ao5 x.kids.len cap5]) (by simp [results,Try.results25,go_sem,g0,g1,g2]) rfl ⟨_,rfl,_,rfl,?_,?_⟩
 ·have hlt : w.heap.size + 1 < W0.heap.size:=by have:=HSZ.out;omega
  exact (((HB2.out.far hlt _).far hlt _).far hlt _).less HB0.out.size
 ·exact (((HB0.out.trans (HB3.out.mono HB0.out.size)).setCell (p:=⟨w.heap.size + 1,0,none⟩) (Nat.le_succ _) _).setCell (p:=⟨w.heap.size + 1,1,none⟩) (Nat.le_succ _) _).setCell (p:=⟨w.heap.size + 1,2,none⟩) (Nat.le_succ _) _
end Go.Proofs.Ytaecmhlglnmimaa.nd
namespace Go.Proofs.Ytaecmhlglnmimaa.pv
open Go.RowKit
theorem look_cw_in (b : Nat) : ∀ (l : List D) (o : Nat) (m : Mem) (i : Nat) (h : i < l.length),look (cw b o l ++ m) (b + 2) (o + i) = l[i]'h
  | d :: r,o,m,0,h=>by simp [cw,look]
  | d :: r,o,m,i + 1,h=>by
    have:=look_cw_in b r (o + 1) m i (by simpa using h)
    have hne : Nat.beq o (o + (i + 1)) = false:=by
      rw [Bool.eq_false_iff];intro e;have:=Nat.eq_of_beq_eq_true e;omega
    simp only [cw,List.cons_append,look,hne,Bool.and_false,cond_false,List.getElem_cons_succ]
    rw [← this,show o + 1 + i = o + (i + 1) by omega]
theorem look_cw_out (b : Nat) : ∀ (l : List D) (o : Nat) (m : Mem) (x y : Nat),(x ≠ b + 2 ∨ y < o ∨ o + l.length ≤ y) → look (cw b o l ++ m) x y = look m x y
  | [],o,m,x,y,h=>rfl
  | d :: r,o,m,x,y,h=>by
    have ih:=look_cw_out b r (o + 1) m x y (by simp at h;omega)
    have hne : (Nat.beq (b + 2) x && Nat.beq o y) = false:=by
      rw [Bool.eq_false_iff];intro e
      rw [Bool.and_eq_true] at e
      have e1:=Nat.eq_of_beq_eq_true e.1;have e2:=Nat.eq_of_beq_eq_true e.2
      simp at h;omega
    simp only [cw,List.cons_append,look,hne,cond_false]
    exact ih
section
variable {P : Program} {ty : Tys} {n : Nat} {G : Gh} {m : Mem} {a : Act} {w : World} {o : Oper} {id : Nat}
theorem lt_of_cell {g i : Nat} {x : Value} (h : w.cell? ⟨g,i,none⟩ = some x) : g < w.heap.size:=World.block_lt_of_cell? w ⟨g,i,none⟩ h
theorem after_box (hG : GOk G w) (hf : G.box id = none) {vs : Array Value} {l : List D} (t : TypeId) (hs : vs.size = l.length) (hr : ∀ (i : Nat) (x : Value) (d : D),vs[i]? = some x → l[i]? = some d → RepC G w x d) :
    ∃ G',After G w id (cw id 0 l) G' (w.alloc (.cells vs t)) ∧ Rep G' (w.alloc (.cells vs t)) (.pointer (some ⟨w.heap.size,0,none⟩)) (.ptr id 0):=by
  let G' : Gh:={ G with box:=fun b=>if b = id then some (w.heap.size,t,l.length) else G.box b }
  have hb : ∀ b x,G'.box b = some x → (b = id ∧ x = (w.heap.size,t,l.length)) ∨ (b ≠ id ∧ G.box b = some x):=fun b x e=>by
    by_cases e' : b = id
    · left;refine ⟨e',?_⟩;have : G'.box b = some (w.heap.size,t,l.length):=if_pos e';rw [this] at e;cases e;rfl
    · right;refine ⟨e',?_⟩;have : G'.box b = G.box b:=if_neg e';rw [← this];exact e
  have hbid : G'.box id = some (w.heap.size,t,l.length):=if_pos rfl
  have hold : ∀ k,k < w.heap.size → (w.alloc (.cells vs t)).heap[k]? = w.heap[k]?:=fun k hk=>Below.heap_alloc w _ _ hk
  have hcell : ∀ g i,g < w.heap.size → (w.alloc (.cells vs t)).cell? ⟨g,i,none⟩ = w.cell? ⟨g,i,none⟩:=fun g i hg=>World.cell?_of_block (hold g hg)
  have hst : Step G w G' (w.alloc (.cells vs t)):=⟨fun _ _ h=>h,fun g i h=>hcell g i (hG.imm g i h),fun b x h=>by
    have : b ≠ id:=fun e=>by rw [e,hf] at h;cases h
    exact (if_neg this).trans h,fun t T h=>⟨T,h,⟨rfl,rfl⟩,Nat.le_refl _,fun _=>rfl⟩⟩
  have hown : ∀ t T,G.tok t = some T → ∀ g,T.v.ownBlock = some g → g < w.heap.size:=fun t T h g e=>((hG.tok t T h).2.1.lt g e).2
  have hboxlt : ∀ b g ty n,G.box b = some (g,ty,n) → g < w.heap.size:=fun b g ty n e=>by obtain ⟨_,vs,hv,_⟩:=hG.box b g ty n e;exact hv.lt
  refine ⟨G',⟨hst,?_,rfl,(Below.refl _ w).alloc hG.base _,?_,?_,?_,?_,fun _ _ _ h=>h,fun m y=>look_cw_out id l 0 m 0 y (.inl (by omega))⟩,.ptr id 0 w.heap.size l.length t hbid⟩
  · refine ⟨by show G.base ≤ _;simp;have:=hG.base;omega,fun g i h=>by simp;have:=hG.imm g i h;omega,?_,?_,?_,?_,hG.tokImm,hG.tokInj,?_⟩
    · intro b g ty n e
      rcases hb b _ e with ⟨_,e⟩ | ⟨_,e⟩
      · cases e;exact ⟨hG.base,vs,heap_alloc_new w _,hs⟩
      · obtain ⟨h1,vs',h2,h3⟩:=hG.box b g ty n e
        exact ⟨h1,vs',(hold g h2.lt).trans h2,h3⟩
    · intro b g ty n i e
      rcases hb b _ e with ⟨_,e⟩ | ⟨_,e⟩
      · cases e;intro h;have:=hG.imm _ i h;omega
      · exact hG.boxImm b g ty n i e
    · intro b b' g ty ty' n n' e e'
      rcases hb b _ e with ⟨h1,e⟩ | ⟨h1,e⟩ <;> rcases hb b' _ e' with ⟨h2,e'⟩ | ⟨h2,e'⟩
      · rw [h1,h2]
      · cases e;have:=hboxlt _ _ _ _ e';omega
      · cases e';have:=hboxlt _ _ _ _ e;omega
      · exact hG.boxInj b b' g ty ty' n n' e e'
    · intro t' T e
      obtain ⟨h1,h2,h3⟩:=hG.tok t' T e
      exact ⟨h1,h2.alloc _,h3⟩
    · intro t' T b g ty n e e1 e2
      rcases hb b _ e2 with ⟨_,e2⟩ | ⟨_,e2⟩
      · cases e2;have:=hown t' T e _ e1;omega
      · exact hG.tokBox t' T b g ty n e e1 e2
  · intro m hm
    refine ⟨fun b g ty n e i x hx=>?_,fun b i h=>?_⟩
    · rcases hb b _ e with ⟨he,e'⟩ | ⟨hne,e⟩
      · subst he
        clear e
        cases e'
        rw [World.cell?_alloc_new] at hx
        have hi : i < l.length:=by have:=(Array.getElem?_eq_some_iff.1 hx).1;omega
        have:=look_cw_in b l 0 m i hi
        rw [Nat.zero_add] at this
        rw [this]
        exact (hr i x _ hx (List.getElem?_eq_getElem hi)).mono hst
      · rw [look_cw_out id l 0 m (b + 2) i (.inl (by omega))]
        rw [hcell g i (hboxlt b g ty n e)] at hx
        exact (hm.val b g ty n e i x hx).mono hst
    · by_cases e : b = id
      · subst e
        rw [look_cw_out b l 0 m (b + 2) i (.inr (.inr (by have:=h _ _ _ hbid;omega)))]
        exact hm.out b i (fun g ty n e=>by rw [hf] at e;cases e)
      · rw [look_cw_out id l 0 m (b + 2) i (.inl (by omega))]
        exact hm.out b i (fun g ty n e'=>h g ty n ((if_neg e).trans e'))
  · intro m hm t' n' h
    rw [look_cw_out id l 0 m 1 t' (.inl (by omega))] at h
    exact hm t' n' h
  · intro b x e
    rcases hb b _ e with ⟨e,_⟩ | ⟨_,e⟩
    · exact .inr e
    · exact .inl e
  · exact fun t T h=>.inl ⟨T,h⟩
theorem ok_box {t : TypeId} {x : Operand} {l : List D} (h : Sim n G m a w) (hf : G.box id = none) (ho : o.op = .box t x) (hl : cellsOf (ev m x) = some l) : OpOk P o G a w id (.ptr id 0) (cw id 0 l):=by
  obtain ⟨h1,h2⟩:=rep_cells (h.ev x) hl
  obtain ⟨G',ha,hr⟩:=after_box h.ok hf t h1 h2
  exact .of_run (v:=.pointer (some ⟨w.heap.size,0,none⟩)) (by simp [execOp,ho,Instr.box,newVar,newRow,newObj,Sem.run]) ha hr
theorem ok_alloc {t : TypeId} {y : Ty} (h : Sim n G m a w) (hy : TyOk P t y) (hf : G.box id = none) (ho : o.op = .alloc t) : OpOk P o G a w id (.ptr id 0) (cw id 0 y.zero):=by
  obtain ⟨i,z,h1,h2,_,h3,h4,h5,h6⟩:=hy.info
  have hz : z.cells.size = y.zero.length:=by rw [← h4];simp
  obtain ⟨G',ha,hr⟩:=after_box (G:=G) (w:=w) (id:=id) (vs:=z.cells) (l:=y.zero) h.ok hf t hz (fun i x d hi hd=>by
    rw [← h4,List.getElem?_map,Array.getElem?_toList,hi] at hd
    cases hd
    refine repC_const ?_
    rw [← h4,List.all_eq_true] at h5
    exact h5 _ (List.mem_map.2 ⟨x,by rw [Array.mem_toList_iff];exact Array.mem_of_getElem? hi,rfl⟩))
  exact .of_run (v:=.pointer (some ⟨w.heap.size,0,none⟩)) (by simp [execOp,ho,Instr.alloc,zeroValue,typeInfo,h1,h3,newVar,newRow,newObj,Sem.run]) ha hr
theorem ok_store {t : TypeId} {p x : Operand} {y : Ty} (h : Sim n G m a w) (hy : TyOk P t y) (ho : o.op = .store t p x) {d : D} {ws : Mem} (hd : dStore m y (ev m x) (ev m p) = .put d ws) : OpOk P o G a w id d ws:=by
  have hp:=h.ev p
  unfold dStore at hd
  split at hd
  · rename_i b off e
    split at hd
    · rename_i l hl
      cases hc : (l.length.beq y.size && (cr m b off l.length).all there) with
      | false=>rw [hc] at hd;cases hd
      | true =>
        rw [hc] at hd
        cases hd
        rw [Bool.and_eq_true] at hc
        have hsz : l.length = y.size:=Nat.eq_of_beq_eq_true hc.1
        rw [e] at hp
        obtain ⟨g,k,t',e1,hb⟩:=rep_ptr hp
        obtain ⟨h1,h2⟩:=rep_cells (h.ev x) hl
        obtain ⟨hbase,vs,hv,hvs⟩:=h.ok.box b g t' k hb
        obtain ⟨c1,c2⟩:=cr_spec m b off l.length
        have hin : off + l.length ≤ vs.size ∨ l.length = 0:=by
          by_cases h0 : l.length = 0
          · exact .inr h0
          · left
            have hm:=List.all_eq_true.1 hc.2 _ (List.mem_of_getElem? (c2 (l.length - 1) (by omega)))
            have:=(h.box hb hm).1
            omega
        have hone : ∀ v ∈ (a.eval x).cells.toList,v.oneCell' = true:=fun v hv=>by
          obtain ⟨i,hi⟩:=List.getElem?_of_mem hv
          rw [Array.getElem?_toList] at hi
          have hlt:=(Array.getElem?_eq_some_iff.1 hi).1
          exact (h2 i v _ hi (List.getElem?_eq_getElem (by omega))).one
        have hlen : (a.eval x).cells.toList.length = l.length:=by simp [h1]
        have hrun : ∃ W,(storeCells ⟨g,off,none⟩ (a.eval x).cells.toList 0).run P w = .ok () W ∧ (∀ j,j ≠ g → W.heap[j]? = w.heap[j]?) ∧ W.heap.size = w.heap.size ∧ W.os = w.os ∧ W.tape = w.tape ∧ W.output = w.output ∧ ∃ us : Array Value,Blk W g t' us ∧ us.size = vs.size ∧ (∀ i,i < l.length → us[off + i]? = (a.eval x).cells[i]?) ∧ ∀ i,(i < off ∨ off + l.length ≤ i) → us[i]? = vs[i]?:=by
          rcases hin with hin | h0
          · have hr:=run_storeCells_at P g off t' (a.eval x).cells.toList 0 vs w hv (by rw [hlen];exact hin) hone
            refine ⟨_,hr,fun j hj=>setRow_other w g j _ hj,by simp,rfl,rfl,rfl,_,setRow_heap w g vs _ t' _ hv,?_,fun i hi=>?_,fun i hi=>?_⟩
            · simp only [List.size_toArray,List.length_append,List.length_take,List.length_drop,hlen,Array.length_toList];omega
            · rw [List.getElem?_toArray,List.getElem?_append_left (by simp only [List.length_append,List.length_take,hlen,Array.length_toList];omega),List.getElem?_append_right (by simp only [List.length_take,Array.length_toList];omega)]
              simp only [List.length_take,Array.length_toList,Nat.add_zero]
              rw [show off + i - min off vs.size = i by omega,Array.getElem?_toList]
            · rw [List.getElem?_toArray]
              rcases hi with hi | hi
              · rw [List.getElem?_append_left (by simp only [List.length_append,List.length_take,hlen,Array.length_toList];omega),List.getElem?_append_left (by simp only [List.length_take,Array.length_toList];omega),List.getElem?_take_of_lt (by omega),Array.getElem?_toList]
              · rw [List.getElem?_append_right (by simp only [List.length_append,List.length_take,hlen,Array.length_toList];omega),List.getElem?_drop,Array.getElem?_toList]
                congr 1
                simp only [List.length_append,List.length_take,hlen,Array.length_toList]
                omega
          · have hnil : (a.eval x).cells.toList = []:=List.eq_nil_of_length_eq_zero (by omega)
            rw [hnil]
            exact ⟨w,by simp [storeCells],fun _ _=>rfl,rfl,rfl,rfl,rfl,vs,hv,rfl,fun i hi=>by omega,fun _ _=>rfl⟩
        obtain ⟨W,hr,hother,hsize,w1,w2,w3,us,hus,hue,hnew,hkeep⟩:=hrun
        have hrun : (execOp a.eval o).run P w = .ok .skip W:=by
          have hcs : (a.eval x).cells.size = y.size:=by omega
          simp [execOp,ho,e1,Instr.storeAt,Instr.sureAddr,storeVar,hy.size,hcs,hr]
        have hcell : ∀ g' i,g' ≠ g → W.cell? ⟨g',i,none⟩ = w.cell? ⟨g',i,none⟩:=fun g' i hne=>World.cell?_of_block (hother g' hne)
        have hnimm : ∀ i,¬ G.imm g i:=fun i=>h.ok.boxImm b g t' k i hb
        have hst : Step G w G W:=⟨fun _ _ h=>h,fun g' i hi=>hcell g' i (fun e=>hnimm i (e ▸ hi)),fun _ _ h=>h,fun t T h=>⟨T,h,⟨rfl,rfl⟩,Nat.le_refl _,fun _=>rfl⟩⟩
        refine .of_skip hrun ⟨hst,?_,rfl,⟨w1,w2,w3,by omega,fun k hk=>hother k (by omega)⟩,?_,?_,fun _ _ h=>.inl h,fun _ T h=>.inl ⟨T,h⟩,fun _ _ _ h=>h,fun m y=>look_cw_out b l off m 0 y (.inl (by omega))⟩
        · refine ⟨by have:=h.ok.base;omega,fun g' i hi=>by have:=h.ok.imm g' i hi;omega,?_,h.ok.boxImm,h.ok.boxInj,?_,h.ok.tokImm,h.ok.tokInj,h.ok.tokBox⟩
          · intro b' g' ty' n' e'
            obtain ⟨q1,vs',q2,q3⟩:=h.ok.box b' g' ty' n' e'
            by_cases hg : g' = g
            · subst hg
              have : b' = b:=h.ok.boxInj _ _ _ _ _ _ _ e' hb
              subst this
              rw [hb] at e';cases e'
              exact ⟨q1,us,hus,by omega⟩
            · exact ⟨q1,vs',(hother g' hg).trans q2,q3⟩
          · intro t1 T e'
            obtain ⟨q1,q2,q3⟩:=h.ok.tok t1 T e'
            refine ⟨q1,q2.kept (row:=some g) ⟨w1,w2,w3,by omega,fun k _ hk=>hother k (fun e=>hk (by rw [e]))⟩ (.inr (fun e=>?_)),q3⟩
            exact h.ok.tokBox t1 T b g t' k e' e hb
        · intro m' hm'
          refine ⟨fun b' g' ty' n' e' i v hv'=>?_,fun b' i hi=>?_⟩
          · by_cases hg : g' = g
            · subst hg
              have : b' = b:=h.ok.boxInj _ _ _ _ _ _ _ e' hb
              subst this
              rw [hus.cell] at hv'
              by_cases hi : off ≤ i ∧ i < off + l.length
              · obtain ⟨j,rfl⟩ : ∃ j,i = off + j:=⟨i - off,by omega⟩
                rw [look_cw_in b' l off m' j (by omega)]
                rw [hnew j (by omega)] at hv'
                exact (h2 j v _ hv' (List.getElem?_eq_getElem (by omega))).mono hst
              · rw [look_cw_out b' l off m' (b' + 2) i (by omega)]
                rw [hkeep i (by omega),← hv.cell] at hv'
                exact (hm'.val b' g' ty' n' e' i v hv').mono hst
            · have hne : b' ≠ b:=fun e=>by rw [e,hb] at e';cases e';exact hg rfl
              rw [look_cw_out b l off m' (b' + 2) i (.inl (by omega))]
              rw [hcell g' i hg] at hv'
              exact (hm'.val b' g' ty' n' e' i v hv').mono hst
          · by_cases hne : b' = b
            · subst hne
              have:=hi g t' k hb
              rw [look_cw_out b' l off m' (b' + 2) i (by omega)]
              exact hm'.out b' i hi
            · rw [look_cw_out b l off m' (b' + 2) i (.inl (by omega))]
              exact hm'.out b' i hi
        · intro m' hm' t1 n1 e'
          rw [look_cw_out b l off m' 1 t1 (.inl (by omega))] at e'
          exact hm' t1 n1 e'
    · cases hd
  · cases hd
end
end Go.Proofs.Ytaecmhlglnmimaa.pv
namespace Go.Proofs.Ytaecmhlglnmimaa.pa
open Go.RowKit nd pr
namespace Pa
def Le {α : Type} : Pa α → Pa α → Prop
 | out,_=>True
 | ret x,ret y=>x = y
 | bad,bad=>True
 | look k,look k'=>∀ t,(k t).Le (k' t)
 | peek k,peek k'=>∀ t,(k t).Le (k' t)
 | ended k,ended k'=>∀ t,(k t).Le (k' t)
 | move k,move k'=>k.Le k'
 | _,_=>False
theorem Le.refl {α : Type} : ∀ p : Pa α,p.Le p
 | out=>trivial
 | ret x=>rfl
 | bad=>trivial
 | look k=>fun t=>Le.refl (k t)
 | peek k=>fun t=>Le.refl (k t)
 | ended k=>fun t=>Le.refl (k t)
 | move k=>Le.refl k
theorem Le.trans {α : Type} : ∀ {p q s : Pa α},p.Le q → q.Le s → p.Le s
 | out,_,_,_,_=>trivial
 | ret x,ret y,ret z,h,h'=>Eq.trans (show x = y from h) h'
 | bad,bad,bad,_,_=>trivial
 | look k,look k',look k'',h,h'=>fun t=>Le.trans (h t) (h' t)
 | peek k,peek k',peek k'',h,h'=>fun t=>Le.trans (h t) (h' t)
 | ended k,ended k',ended k'',h,h'=>fun t=>Le.trans (h t) (h' t)
 | move k,move k',move k'',h,h'=>Le.trans (p:=k) (q:=k') (s:=k'') h h'
theorem Le.run {α : Type} : ∀ {p q : Pa α},p.Le q → ∀ {r : List Tk} {o : Out α},p.run r = some o → q.run r = some o
 | out,_,_,_,_,h=>by cases h
 | ret x,ret y,e,_,_,h=>by cases (show x = y from e);exact h
 | bad,bad,_,_,_,h=>h
 | look k,look k',e,r,_,h=>Le.run (p:=k (tok r)) (q:=k' (tok r)) (e (tok r)) (r:=r) h
 | peek k,peek k',e,r,_,h=>Le.run (p:=k (tok r.tail)) (q:=k' (tok r.tail)) (e (tok r.tail)) (r:=r) h
 | ended k,ended k',e,r,_,h=>Le.run (p:=k r.isEmpty) (q:=k' r.isEmpty) (e r.isEmpty) (r:=r) h
 | move k,move k',e,r,_,h=>Le.run (p:=k) (q:=k') e (r:=r.tail) h
theorem Le.bind {α β : Type} {f g : α → Pa β} (hf : ∀ x,(f x).Le (g x)) : ∀ (p q : Pa α),p.Le q → (p.bind f).Le (q.bind g)
 | out,_,_=>trivial
 | ret x,ret y,e=>by cases (show x = y from e);exact hf x
 | bad,bad,_=>trivial
 | look k,look k',e=>fun t=>Le.bind hf (k t) (k' t) (e t)
 | peek k,peek k',e=>fun t=>Le.bind hf (k t) (k' t) (e t)
 | ended k,ended k',e=>fun t=>Le.bind hf (k t) (k' t) (e t)
 | move k,move k',e=>Le.bind hf k k' e
end Pa
section
variable {α : Type}
theorem need_le {s : ByteArray} {k k' : Pa α} (h : k.Le k') : (need s k).Le (need s k'):=fun t=>by dsimp only;split;exact h;exact trivial
theorem one_le {kd : Int} {k k' : Pa α} (h : k.Le k') : (one kd k).Le (one kd k'):=fun t=>by dsimp only;split;exact h;exact trivial
theorem text_le {kd : Int} {k k' : ByteArray → Pa α} (h : ∀ s,(k s).Le (k' s)) : (text kd k).Le (text kd k'):=fun t=>by dsimp only;split;exact h _;exact trivial
theorem name_le {k k' : ByteArray → Pa α} (h : ∀ s,(k s).Le (k' s)) : (name k).Le (name k'):=fun t=>by dsimp only;split;exact h _;exact trivial
theorem if_le {c : Prop} [Decidable c] {p q p' q' : Pa α} (h1 : p.Le p') (h2 : q.Le q') : (if c then p else q).Le (if c then p' else q'):=by
 split
 ·exact h1
 ·exact h2
theorem ret_le (x : α) : (Pa.ret x).Le (Pa.ret x):=rfl
theorem look_le {k k' : Tk → Pa α} (h : ∀ t,(k t).Le (k' t)) : (Pa.look k).Le (Pa.look k'):=h
theorem peek_le {k k' : Tk → Pa α} (h : ∀ t,(k t).Le (k' t)) : (Pa.peek k).Le (Pa.peek k'):=h
theorem ended_le {k k' : Bool → Pa α} (h : ∀ t,(k t).Le (k' t)) : (Pa.ended k).Le (Pa.ended k'):=h
theorem move_le {k k' : Pa α} (h : k.Le k') : (Pa.move k).Le (Pa.move k'):=h
end
theorem step_le {rec rec' : (f : Fn) → Pa (Res f)} (h : ∀ f,(rec f).Le (rec' f)) : ∀ f,(step rec f).Le (step rec' f):=by
 intro f
 have h_exp : ∀ (l : Int),Pa.Le (rec (.exp l) : Pa (Nd)) (rec' (.exp l)):=fun l=>h (.exp l)
 have h_expL : ∀ (l : Int) (x : Nd) (b : Int),Pa.Le (rec (.expL l x b) : Pa (Nd)) (rec' (.expL l x b)):=fun l x b=>h (.expL l x b)
 have h_operand : Pa.Le (rec (.operand) : Pa (Nd)) (rec' (.operand)):=h (.operand)
 have h_params : Pa.Le (rec (.params) : Pa (List Nd)) (rec' (.params)):=h (.params)
 have h_deff : ∀ (b : Bool),Pa.Le (rec (.deff b) : Pa (Nd)) (rec' (.deff b)):=fun b=>h (.deff b)
 have h_within : ∀ (x : Nd) (d : ByteArray),Pa.Le (rec (.within x d) : Pa (Nd)) (rec' (.within x d)):=fun x d=>h (.within x d)
 have h_slice : ∀ (x : Nd) (f : Nd) (d : ByteArray),Pa.Le (rec (.slice x f d) : Pa (Nd)) (rec' (.slice x f d)):=fun x f d=>h (.slice x f d)
 have h_post : Pa.Le (rec (.post) : Pa (Nd)) (rec' (.post)):=h (.post)
 have h_postL : ∀ (x : Nd),Pa.Le (rec (.postL x) : Pa (Nd)) (rec' (.postL x)):=fun x=>h (.postL x)
 have h_str : Pa.Le (rec (.str) : Pa (Nd)) (rec' (.str)):=h (.str)
 have h_strF : ∀ (f : ByteArray),Pa.Le (rec (.strF f) : Pa (Nd)) (rec' (.strF f)):=fun f=>h (.strF f)
 have h_strL : Pa.Le (rec (.strL) : Pa (List Nd)) (rec' (.strL)):=h (.strL)
 have h_term : Pa.Le (rec (.term) : Pa (Nd)) (rec' (.term)):=h (.term)
 have h_bracket : Pa.Le (rec (.bracket) : Pa (Nd)) (rec' (.bracket)):=h (.bracket)
 have h_pairs : Pa.Le (rec (.pairs) : Pa (List Nd)) (rec' (.pairs)):=h (.pairs)
 have h_worded : Pa.Le (rec (.worded) : Pa (Nd)) (rec' (.worded)):=h (.worded)
 have h_args : Pa.Le (rec (.args) : Pa (List Nd)) (rec' (.args)):=h (.args)
 have h_ifs : Pa.Le (rec (.ifs) : Pa (List Nd)) (rec' (.ifs)):=h (.ifs)
 have h_fold : ∀ (k : Int) (b : Bool),Pa.Le (rec (.fold k b) : Pa (Nd)) (rec' (.fold k b)):=fun k b=>h (.fold k b)
 have h_key : ∀ (p : Bool),Pa.Le (rec (.key p) : Pa (Nd × Bool)) (rec' (.key p)):=fun p=>h (.key p)
 have h_pair : Pa.Le (rec (.pair) : Pa (Nd)) (rec' (.pair)):=h (.pair)
 have h_value : Pa.Le (rec (.value) : Pa (Nd)) (rec' (.value)):=h (.value)
 have h_unit : Pa.Le (rec (.unit) : Pa (Nd)) (rec' (.unit)):=h (.unit)
 have h_keypat : Pa.Le (rec (.keypat) : Pa (Nd)) (rec' (.keypat)):=h (.keypat)
 have h_pattern : Pa.Le (rec (.pattern) : Pa (Nd)) (rec' (.pattern)):=h (.pattern)
 have h_elems : ∀ (b : Bool),Pa.Le (rec (.elems b) : Pa (List Nd)) (rec' (.elems b)):=fun b=>h (.elems b)
 have h_bring : Pa.Le (rec (.bring) : Pa (Nd)) (rec' (.bring)):=h (.bring)
 have h_plainL : Pa.Le (rec (.plainL) : Pa (List Nd)) (rec' (.plainL)):=h (.plainL)
 have h_brings : Pa.Le (rec (.brings) : Pa (List Nd)) (rec' (.brings)):=h (.brings)
 clear h
 cases f <;> simp only [step]
 all_goals
  repeat (first
   | with_reducible exact h_exp _
   | with_reducible exact h_expL _ _ _
   | with_reducible exact h_operand
   | with_reducible exact h_params
   | with_reducible exact h_deff _
   | with_reducible exact h_within _ _
   | with_reducible exact h_slice _ _ _
   | with_reducible exact h_post
   | with_reducible exact h_postL _
   | with_reducible exact h_str
   | with_reducible exact h_strF _
   | with_reducible exact h_strL
   | with_reducible exact h_term
   | with_reducible exact h_bracket
   | with_reducible exact h_pairs
   | with_reducible exact h_worded
   | with_reducible exact h_args
   | with_reducible exact h_ifs
   | with_reducible exact h_fold _ _
   | with_reducible exact h_key _
   | with_reducible exact h_pair
   | with_reducible exact h_value
   | with_reducible exact h_unit
   | with_reducible exact h_keypat
   | with_reducible exact h_pattern
   | with_reducible exact h_elems _
   | with_reducible exact h_bring
   | with_reducible exact h_plainL
   | with_reducible exact h_brings
   | with_reducible refine Pa.Le.bind (fun _=>?_) _ _ ?_
   | with_reducible refine need_le ?_
   | with_reducible refine one_le ?_
   | with_reducible refine text_le (fun _=>?_)
   | with_reducible refine name_le (fun _=>?_)
   | with_reducible refine look_le (fun _=>?_)
   | with_reducible refine peek_le (fun _=>?_)
   | with_reducible refine ended_le (fun _=>?_)
   | with_reducible refine move_le ?_
   | with_reducible refine if_le ?_ ?_
   | exact ret_le _
   | exact trivial)
theorem go_next : ∀ n f,(go n f).Le (go (n + 1) f)
 | 0,f=>trivial
 | n + 1,f=>step_le (go_next n) f
theorem go_le {n m : Nat} (h : n ≤ m) (f : Fn) : (go n f).Le (go m f):=by
 induction h with
 | refl=>exact Pa.Le.refl _
 | step _ ih=>exact ih.trans (go_next _ f)
theorem run_one {n m : Nat} {f : Fn} {r : List Tk} {o o' : Out (Res f)} (h : (go n f).run r = some o) (h' : (go m f).run r = some o') : o = o':=by
 rcases Nat.le_total n m with e | e
 ·exact Option.some.inj (((go_le e f).run h).symm.trans h')
 ·exact Option.some.inj (h.symm.trans ((go_le e f).run h'))
theorem fuel_ok (l : List Tk) : 8 * l.length + 6 < fuel l:=by unfold fuel;omega
theorem parse_ok (l : List Tk) : ∃ o,(go (fuel l) .program).run l = some o:=parse_run l _ (fuel_ok l)
theorem parse_of {l : List Tk} {n : Nat} {o : Out Nd} (hd : deepAt 0 0 l = none) (h : (go n .program).run l = some o) : parse l = match o with
  | .ok _ x=>(x,0,0)
  | .bad r=>(none0,22,l.length - r.length):=by
 obtain ⟨o',h'⟩:=parse_ok l
 obtain rfl:=run_one h h'
 unfold parse
 rw [hd,h']
 cases o <;> rfl
end Go.Proofs.Ytaecmhlglnmimaa.pa
namespace Go.Proofs.Ytaecmhlglnmimaa.utf
open Go.Lib (hid)
open Go.RowKit
theorem Below.next {B : Nat} {w a b : World} (h : Below B w a) (k : Below a.heap.size a b) (hB : B ≤ w.heap.size) : Below B w b:=h.trans (k.mono (Nat.le_trans hB h.size))
theorem one_drop (s : ByteArray) (hs : s.size ≤ 1000) (k r : Nat) (h : oneL (s.data.toList.drop k) = r) (w : World) :
  Calls Try.prog 54 #[.string (s.extract k s.size)] w fun e w'=>e = .returned (.int .i64 (r : Int)) ∧ Below w.heap.size w w':=by
 have hsz : (s.extract k s.size).size ≤ 1000:=by rw [ByteArray.size_extract];omega
 have h1:=one_calls (s.extract k s.size) hsz w
 rw [extract_drop,h] at h1
 exact h1
theorem refCheck_calls (s : ByteArray) (hs : s.size ≤ 1000) (w : World) : Calls Try.prog 40 #[.string s] w fun e w'=>e = .returned (.int .i64 (checkF s)) ∧ Below w.heap.size w w':=by
 go_enter Try.func40,Try.ntmps40
 go_wp2_with fail
 go_loopw [3] (fun a wr=>∃ pos b : Nat,a = .int .i64 (pos : Int) ∧ pos ≤ s.size ∧ chkL b (s.data.toList.drop pos) pos = checkF s ∧ s.size ≤ pos + b ∧ Below w.heap.size w wr) (fun a _=>s.size - (intOf a).toNat)
 case atStart=>exact ⟨0,s.size,rfl,Nat.zero_le _,by rw [checkF_L,size_toList];rfl,by omega,Below.refl _ _⟩
 case round =>
  obtain ⟨pos,b,rfl,hpos,hc,hb,hB⟩:=hrel
  by_cases hlt : pos < s.size
  ·have hne : s.data.toList.drop pos ≠ []:=fun e=>(drop_ne s pos).1 e hlt
   have hle:=oneL_le _ hne
   rw [List.length_drop,size_toList] at hle
   obtain ⟨b,rfl⟩ : ∃ b',b = b' + 1:=⟨b - 1,by omega⟩
   obtain ⟨r,hr⟩ : ∃ r,oneL (s.data.toList.drop pos) = r:=⟨_,rfl⟩
   have ho:=one_drop s hs pos r hr
   simp only [chkL] at hc
   rw [if_neg hne,hr,List.drop_drop] at hc
   rw [hr] at hle
   have HO:=hid ho;have HC:=hid hc
   have hposI : (pos : Int) ≤ (s.size : Int):=by omega
   clear ho hc hr hne
   by_cases h0 : r = 0
   ·subst h0
    go_wp2_with fail
    ((with_reducible refine (HO.out _).mono ?_);rintro e w1 ⟨rfl,hb1⟩)
    go_wp2_with fail
    go_ret
    exact ⟨by have:=HC.out;simp only [if_true] at this;rw [← this];rfl,Below.next hB hb1 (Nat.le_refl _)⟩
   ·have hz : ((r : Int) == 0) = false:=by rw [beq_eq_false_iff_ne];omega
    have HC2:=hid (show chkL b (s.data.toList.drop (pos + r)) (pos + r) = checkF s from by have:=HC.out;rwa [if_neg h0] at this)
    go_wp2_with fail
    ((with_reducible refine (HO.out _).mono ?_);rintro e w1 ⟨rfl,hb1⟩)
    go_wp2_with fail
    go_roundw
    case rel=>exact ⟨pos + r,b,by go_num,by omega,HC2.out,by omega,Below.next hB hb1 (Nat.le_refl _)⟩
    case measure=>simp [intOf];omega
  ·have hnil:=(drop_ne s pos).2 hlt
   rw [hnil,chkL_nil] at hc
   have HC:=hid hc
   clear hc hnil
   go_wp2_with fail
   go_ret
   exact ⟨by rw [← HC.out];rfl,hB⟩
end Go.Proofs.Ytaecmhlglnmimaa.utf
namespace Go.Proofs.Ytaecmhlglnmimaa.sg
open Go.RowKit Go.Shelf
attribute [local go_sem] Oper.semAt_some
def opsL : List Value:=Sg.opers.map fun l=>Value.string ⟨l.toArray⟩
theorem opsL_at {m : Nat} (h : m < 34) : opsL.toArray[m]? = some (.string ⟨(Sg.opers.getD m []).toArray⟩):=by
 have hl : Sg.opers.length = 34:=rfl
 simp [opsL,List.getD,h,hl]
theorem oper_find {l : List UInt8} {ini : List (List UInt8)} {x : List UInt8} (hpre : ini ++ [x] <+: Sg.opers) (hno : ∀ y ∈ ini,Lib.hasPrefix l y = false) (hle : Lib.hasPrefix l x = true) : Sg.oper l = x.length:=by
 obtain ⟨rest,hr⟩:=hpre
 unfold Sg.oper
 rw [← hr,List.append_assoc,List.find?_append,List.find?_eq_none.2 (fun y hy=>by rw [hno y hy];simp)]
 have e : ([x] ++ rest).find? (fun o=>Lib.hasPrefix l o) = some x:=by simp [hle]
 rw [e];rfl
theorem oper_none {l : List UInt8} (hno : ∀ y ∈ Sg.opers,Lib.hasPrefix l y = false) : Sg.oper l = 0:=by
 unfold Sg.oper
 rw [List.find?_eq_none.2 (fun y hy=>by rw [hno y hy];simp)]
end Go.Proofs.Ytaecmhlglnmimaa.sg
namespace Go.Proofs.Ytaecmhlglnmimaa.sg
open Go.RowKit Go.Shelf Go.Maps Go.ChangeMaps Go.WideShapes Go.WideMaps
theorem isEmpty_data (s : ByteArray) : s.toList.isEmpty = s.data.toList.isEmpty:=by rw [Lib.toList_data]
end Go.Proofs.Ytaecmhlglnmimaa.sg
