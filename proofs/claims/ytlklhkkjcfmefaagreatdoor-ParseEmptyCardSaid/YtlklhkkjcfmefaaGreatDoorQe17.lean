/- Ground of the law: PaP7, PaP33, PaFit, PaOwn2. -/
import Derived.Test.YtlklhkkjcfmefaaGreatDoorQe14
import Derived.Test.YtlklhkkjcfmefaaGreatDoorQe05
import Derived.Test.YtlklhkkjcfmefaaGreatDoorQe07
set_option maxRecDepth 100000
set_option maxHeartbeats 8000000
set_option linter.unusedVariables false
set_option linter.unusedSimpArgs false
namespace Go.Proofs.YtlklhkkjcfmefaaGreatDoor.pa
open Go.Lib (hid)
open Go.RowKit nd pr sx ed
def listT {α : Type} (q : Pa α) (sep : Tk → Bool) (m : Nat) (x : α) : Pa (List α):=.look fun t=>if sep t then .move ((listP q sep m).bind fun l=>.ret (x :: l)) else .ret [x]
def addL {α : Type} (acc : List α) : Out (List α) → Out (List α)
 | .ok r l=>.ok r (acc ++ l)
 | .bad r=>.bad r
theorem listP_succ {α : Type} (q : Pa α) (sep : Tk → Bool) (n : Nat) : listP q sep (n + 1) = q.bind (listT q sep n):=rfl
theorem addL_nil {α : Type} (o : Out (List α)) : addL [] o = o:=by cases o <;> rfl
theorem listT_yes {α : Type} {q : Pa α} {sep : Tk → Bool} {m : Nat} {x : α} {l : List Tk} {j : Nat} {o : Out (List α)} (h : (listT q sep m x).run (l.drop j) = some o) (hs : sep (tok (l.drop j)) = true) :
  ∃ m' o4,m = m' + 1 ∧ q.run (l.drop (j + 1)) = some o4 ∧ (match o4 with | .ok r y=>∃ o3,(listT q sep m' y).run r = some o3 ∧ o = addL [x] o3 | .bad r=>o = .bad r):=by
 unfold listT at h
 rw [run_look] at h
 rw [hs,if_yes,run_move] at h
 cases m with
 | zero=>cases h
 | succ m =>
  rw [listP_succ] at h
  obtain ⟨o3,h3,h4⟩:=bind_run h
  obtain ⟨o4,h5,h6⟩:=bind_run h3
  refine ⟨m,o4,rfl,h5,?_⟩
  cases o4 with
  | bad r =>
   have e : o3 = .bad r:=(Option.some.inj h6).symm
   rw [e] at h4
   exact (Option.some.inj h4).symm
  | ok r y =>
   refine ⟨o3,h6,?_⟩
   cases o3 with
   | bad r=>exact (Option.some.inj h4).symm
   | ok r l=>exact (Option.some.inj h4).symm
theorem listT_no {α : Type} {q : Pa α} {sep : Tk → Bool} {m : Nat} {x : α} {l : List Tk} {j : Nat} {o : Out (List α)} (h : (listT q sep m x).run (l.drop j) = some o) (hs : sep (tok (l.drop j)) = false) : o = .ok (l.drop j) [x]:=by
 unfold listT at h
 rw [run_look] at h
 rw [hs,if_no] at h
 exact (Option.some.inj h).symm
def RL (l : List Nd) (v : Value) (W W' : World) : Prop:=OwnL W.heap.size W' l v
def lenOf : Value → Nat | .slice _ l _=>l | _=>0
structure LI (E : Env) (q : Pa Nd) (sep : Tk → Bool) (n : Nat) (t0 : Tk) (o : Out (List Nd)) (W : World) (v : Value) (wr : World) (acc : List Nd) (x : Nd) (m j : Nat) : Prop where
 own : OwnL (W.heap.size + 1) wr (acc ++ [x]) v
 ps : Ps E wr j
 kp : Kp E W wr
 box : Blk wr W.heap.size 49 #[.int .i64 t0.1,.string t0.2]
 size : W.heap.size + 1 ≤ wr.heap.size
 many : acc.length + m = n
 rest : ∃ o2,(listT q sep m x).run (E.l.drop j) = some o2 ∧ o = addL acc o2
theorem list_tl {E : Env} (hE : EnvOk E) {g : FuncId} (hen : Enters g) {q : Pa Nd} (hq : Tl E q RN g #[pB E]) (t0 : Tk) (ht0 : t0 ≠ noTk) (sep : Tk → Bool) (hsep : ∀ t,sep t = decide (t = t0)) (n : Nat) (hn : n ≤ 100000000) :
  Tl E (listP q sep n) RL 118 #[pB E,tokV t0,methV g E.B]:=by
 intro W i o hp hr
 cases n with
 | zero=>cases hr
 | succ n =>
 rw [listP_succ] at hr
 obtain ⟨o1,h1,hr1⟩:=bind_run hr
 have HNP:=hid hp.far;have H00:=hid hp
 obtain ⟨W0,hW0⟩ : ∃ W0,W.alloc (.cells #[.int .i64 t0.1,.string t0.2] 49) = W0:=⟨_,rfl⟩
 have hb0 : Below W.heap.size W W0:=by rw [← hW0];exact (Below.refl _ W).alloc (Nat.le_refl _) _
 have hk0 : Blk W0 W.heap.size 49 #[.int .i64 t0.1,.string t0.2]:=by rw [← hW0];exact Blk.new W _ _
 have hs0 : W.heap.size + 1 ≤ W0.heap.size:=by rw [← hW0];simp
 have hcall:=hq W0 i o1 (hp.next hb0) h1
 have HQ:=hid hq;have HTK:=hid (fun w j (h : Ps E w j) c hc=>took_calls hE h t0 ht0 c hc);have HEN:=hid hen
 have HC:=hid hcall;have HW0:=hid hW0;have HB0:=hid hb0;have HK0:=hid hk0;have HS0:=hid hs0;have HR1:=hid hr1;have HSEP:=hid hsep;have HNN:=hid hn;have HT0:=hid ht0
 clear hcall hW0 hb0 hk0 hs0 hr1 hsep h1 hr hp hq hn ht0
 unfold pB methV tokV
 unfold pB at HC
 unfold pB tokV at HTK
 go_enter Tryz.func118,Tryz.ntmps118
 go_upto_region 1 with fail
 rw [HW0.out]
 go_wp2_with fail
 ((with_reducible refine HC.out.mono ?_);rintro e w1 ⟨hk,hm⟩)
 rcases o1 with ⟨r1,x1⟩ | ⟨r1⟩
 rotate_left
 ·obtain ⟨j,hj,hd,rfl⟩:=hm
  obtain rfl : o = .bad r1:=(Option.some.inj HR1.out).symm
  exact ⟨rfl,Kp.bs HB0.out hk,j,hj,hd,rfl⟩
 obtain ⟨v1,j1,rfl,hp,rfl,hR⟩:=hm
 obtain ⟨a1,c1,rfl,hx⟩:=kids_new (n:=W.heap.size + 1) hR HS0.out
 have hrow:=Blk.new w1 32 (nV x1 a1 c1)
 have hba : Below w1.heap.size w1 (w1.alloc (.cells (nV x1 a1 c1) 32)):=(Below.refl _ _).alloc (Nat.le_refl _) _
 have hs1 : W.heap.size + 1 ≤ w1.heap.size:=Nat.le_trans HS0.out hk.size
 have hli : LI E q sep n t0 o W (.slice (some ⟨w1.heap.size,0,none⟩) 1 1) (w1.alloc (.cells (nV x1 a1 c1) 32)) [] x1 n j1:=by
  refine ⟨own_made (l:=[x1]) (cells_one ?_) hrow hs1 (by unfold maxLen;simp),hp.next hba,Kp.sb (Kp.bs HB0.out hk) hba,(Kp.blk' (n:=W.heap.size) HK0.out hk HNP.out (Nat.le_refl _)).own hba,Nat.le_trans hs1 hba.size,by simp,o,HR1.out,(addL_nil o).symm⟩
  exact hx.keep (fun k e=>⟨e.1,Nat.lt_of_lt_of_le e.2 hba.size,fun e'=>by cases e';exact Nat.lt_irrefl _ e.2⟩) (fun k e=>hba.block k e.2)
 have HLI:=hid hli
 clear hk hp hR hx hrow hba hs1 hli HC
 go_wp2_with fail
 go_loopw [7] (fun v wr=>∃ acc x m j,LI E q sep n t0 o W v wr acc x m j) (fun v _=>n + 5 - lenOf v)
 case atStart=>exact ⟨_,_,_,_,HLI.out⟩
 case round =>
  clear HLI
  obtain ⟨acc,x,m,j,hli⟩:=hrel
  have hrest:=hli.rest
  obtain ⟨o2,h2,ho⟩:=hrest
  obtain ⟨av,cv,hv⟩:=hli.own.slice
  have hlen : (acc ++ [x]).length = acc.length + 1:=by simp
  rw [hlen] at hv
  subst hv
  have b0:=hli.box.cell 0;have b1:=hli.box.cell 1
  obtain ⟨c,hc⟩ : ∃ c,decide (tk E j = t0) = c:=⟨_,rfl⟩
  have htk:=HTK.out wr j hli.ps c hc
  have hsc:=(HSEP.out (tk E j)).trans hc
  obtain ⟨ln,hln⟩ : ∃ ln,acc.length + 1 = ln:=⟨_,rfl⟩
  have HLN:=hid hln
  rw [hln] at hli ⊢
  have HTK2:=hid htk;have HLI:=hid hli;have H2:=hid h2;have HO:=hid ho;have HC:=hid hsc
  clear htk hli h2 ho hc hsc hlen hln
  cases c with
  | false =>
   have hfin:=listT_no H2.out HC.out
   have HFIN:=hid hfin
   clear hfin
   go_wp2_with fail
   ((with_reducible refine HTK2.out.mono ?_);rintro e w2 ⟨rfl,hk,hp⟩)
   have hown:=HLI.out.own.kp hk (fun k e=>HNP.out k (by omega))
   have HK:=hid (Kp.tr HLI.out.kp hk);have HP:=hid (show Ps E w2 j from hp);have HOWN:=hid (hown.mono (Nat.le_succ _))
   clear hk hp hown b0 b1
   go_wp2_with fail
   go_ret
   rw [HO.out,HFIN.out]
   exact ⟨HK.out,_,j,rfl,HP.out,rfl,HOWN.out⟩
  | true =>
   obtain ⟨m',o4,rfl,h4,hm4⟩:=listT_yes H2.out HC.out
   have H4:=hid h4;have HM4:=hid hm4
   clear h4 hm4 H2 HC
   go_wp2_with fail
   ((with_reducible refine HTK2.out.mono ?_);rintro e w2 ⟨rfl,hk,hp⟩)
   have hcall:=HQ.out w2 (j + 1) o4 hp H4.out
   have HK:=hid hk;have HC:=hid hcall
   clear hk hp hcall b0 b1 HTK2
   unfold pB at HC
   have hen:=HEN.out
   go_wp2_with fail
   ((with_reducible refine HC.out.mono ?_);rintro e w3 ⟨hk3,hm⟩)
   rcases o4 with ⟨r4,x4⟩ | ⟨r4⟩
   rotate_left
   ·obtain ⟨j',hj,hd,rfl⟩:=hm
    have e1 : o2 = .bad r4:=HM4.out
    have HE1:=hid e1
    clear e1
    go_wp2_with fail
    rw [HO.out,HE1.out]
    exact ⟨rfl,Kp.tr (Kp.tr HLI.out.kp HK.out) hk3,j',hj,hd,rfl⟩
   obtain ⟨v4,j4,rfl,hp4,rfl,hR⟩:=hm
   obtain ⟨s4,rfl,hks⟩:=hR
   obtain ⟨a4,c4,rfl,_⟩:=hks.slice
   have hfar : ∀ k,W.heap.size + 1 ≤ k → ¬ Pm E k:=fun k e=>HNP.out k (by omega)
   have hown2:=HLI.out.own.kp HK.out hfar
   have hown3:=hown2.kp hk3 hfar
   have hs2 : W.heap.size + 1 ≤ w2.heap.size:=Nat.le_trans HLI.out.size HK.out.size
   have hs3 : W.heap.size + 1 ≤ w3.heap.size:=Nat.le_trans hs2 hk3.size
   have hsin:=kids_since hks hown2 hs2
   have hrow:=Blk.new w3 32 (nV x4 a4 c4)
   have hba : Below w3.heap.size w3 (w3.alloc (.cells (nV x4 a4 c4) 32)):=(Below.refl _ _).alloc (Nat.le_refl _) _
   have hown4:=hown3.below hba
   have HOWN:=hid hown4;have HCE:=hid (cells_one (aw_below hsin hba));have HROW:=hid hrow
   have HP4:=hid (hp4.next hba);have HKA:=hid (Kp.sb (Kp.tr (Kp.tr HLI.out.kp HK.out) hk3) hba)
   have HSA:=hid (Nat.le_trans hs3 hba.size)
   have HBX:=hid ((Kp.blk' (n:=W.heap.size) (Kp.blk' (n:=W.heap.size) HLI.out.box HK.out HNP.out (Nat.le_refl _)) hk3 HNP.out (Nat.le_refl _)).own hba)
   have HMANY:=hid HLI.out.many
   clear hk3 hp4 hks hown2 hown3 hown4 hs2 hs3 hsin hrow hba hfar HC
   go_wp2_with (at_builtin;refine wpList_append_nodes rfl _ _ rfl (W.heap.size + 1) j4 i (acc ++ [x]) [x4] _ rfl HOWN.out (by have:=HMANY.out;have:=HNN.out;simp;omega) (by simp) w3.heap.size [.int .i64 x4.k,.string x4.t,.slice a4 x4.kids.len c4] rfl HROW.out HCE.out HSA.out HP4.out HKA.out (Nat.le_succ _) HNP.out H00.out ?_;intro v' w' hgrew;obtain ⟨a5,c5,hv5⟩:=hgrew.own.slice;rw [show (acc ++ [x] ++ [x4]).length = acc.length + 2 by simp] at hv5;subst hv5;have HG:=hid hgrew;clear hgrew)
   obtain ⟨o3,h3,e3⟩:=HM4.out
   refine ⟨⟨acc ++ [x],x4,m',j4,HG.out.own,HG.out.ps,HG.out.kp,HG.out.blk _ _ _ HBX.out (Nat.lt_succ_self _),Nat.le_trans HSA.out HG.out.size,by have:=HMANY.out;simp;omega,o3,h3,?_⟩,?_⟩
   ·rw [HO.out,e3]
    cases o3 <;> simp [addL]
   ·have:=HMANY.out
    have:=HLN.out
    simp [lenOf];omega
end Go.Proofs.YtlklhkkjcfmefaaGreatDoor.pa
namespace Go.Proofs.YtlklhkkjcfmefaaGreatDoor.pa
open Go.Lib (hid)
open Go.RowKit nd pr sx ed
theorem brk_is (t : Tk) : brkI t = if opens t = true then 1 else if closes t = true then -1 else 0:=by
 unfold brkI opens closes op
 by_cases h9 : t.1 = 9
 ·simp [h9]
 by_cases h10 : t.1 = 10
 ·simp [h10]
 by_cases h13 : t.1 = 13
 ·simp only [h13]
  by_cases a1 : t.2 = lpar
  ·simp [a1]
  by_cases a2 : t.2 = lbr
  ·simp [a2]
  by_cases a3 : t.2 = lbrace
  ·simp [a3]
  by_cases a4 : t.2 = rpar
  ·simp [a4]
  by_cases a5 : t.2 = rbr
  ·simp [a5]
  by_cases a6 : t.2 = rbrace
  ·simp [a6]
  simp [a1,a2,a3,a4,a5,a6]
 ·simp [h9,h10,h13]
def stepN (n : Nat) (t : Tk) : Nat:=if opens t = true then n + 1 else if closes t = true then n - 1 else n
theorem stepN_is (n : Nat) (t : Tk) : max 0 ((n : Int) + brkI t) = (stepN n t : Int):=by
 rw [brk_is]
 unfold stepN
 split
 ·omega
 ·split <;> omega
theorem stepN_le (n : Nat) (t : Tk) : stepN n t ≤ n + 1:=by
 unfold stepN
 split
 ·omega
 ·split <;> omega
theorem brk_range (t : Tk) : -1 ≤ brkI t ∧ brkI t ≤ 1:=by
 rw [brk_is]
 split
 ·omega
 ·split <;> omega
theorem deep_step {n i : Nat} {l : List Tk} {t : Tk} (h : l[i]? = some t) : deepAt n i (l.drop i) = if 256 < stepN n t then some i else deepAt (stepN n t) (i + 1) (l.drop (i + 1)):=by
 obtain ⟨hl,rfl⟩:=List.getElem?_eq_some_iff.1 h
 rw [List.drop_eq_getElem_cons hl]
 rfl
def RestAt (W : World) (v : Value) (l : List Tk) : Prop:=∀ g o cap,v = .slice (some ⟨g,o,none⟩) l.length cap → ∀ i,i < l.length → ∃ (x : Int) (a : Option Addr) (m c : Nat),W.cell? ⟨g,o + i * 4 + 2,none⟩ = some (.int .i64 x) ∧ W.cell? ⟨g,o + i * 4 + 3,none⟩ = some (.slice a m c)
structure DI (l : List Tk) (W : World) (ov iv : Value) (wr : World) (n i : Nat) : Prop where
 ov : ov = .int .i64 (n : Int)
 iv : iv = .int .i64 (i : Int)
 le : i ≤ l.length
 few : n ≤ 256
 same : deepAt n i (l.drop i) = deepAt 0 0 l
 bl : Below W.heap.size W wr
theorem deep_calls (l : List Tk) (lv : Value) (W : World) (hit : ItemsAt (Lt W.heap.size) W lv l) (hrest : RestAt W lv l) (hlen : l.length ≤ 1000000) :
  Calls Tryz.prog 27 #[lv] W fun e w'=>e = .returned (.int .i64 (((deepAt 0 0 l).getD l.length : Nat) : Int)) ∧ Below W.heap.size W w':=by
 obtain ⟨ao,cap,rfl,hm,hr⟩:=hit
 have HR:=hid hr;have HRE:=hid hrest;have HLEN:=hid hlen
 clear hr hrest hlen hm
 go_enter Tryz.func27,Tryz.ntmps27
 go_wp2_with fail
 go_loopw [3,8] (fun ov iv wr=>∃ n i,DI l W ov iv wr n i) (fun _ iv _=>l.length + 5 - (intOf iv).toNat)
 case atStart=>exact ⟨0,0,rfl,rfl,Nat.zero_le _,Nat.zero_le _,rfl,Below.refl _ _⟩
 case round =>
  obtain ⟨n,i,hdi⟩:=hrel
  obtain rfl:=hdi.ov
  obtain rfl:=hdi.iv
  have HDI:=hid hdi
  clear hdi
  by_cases hil : i < l.length
  ·have hd : decide ((i : Int) < (l.length : Int)) = true:=decide_eq_true (by omega)
   obtain ⟨t,ht⟩ : ∃ t,l[i]? = some t:=⟨_,List.getElem?_eq_getElem hil⟩
   obtain ⟨g,o,rfl,hS,hc⟩:=HR.out (by rintro rfl;cases ht)
   obtain ⟨c0,c1⟩:=hc i t ht
   obtain ⟨x,ya,ym,yc,c2,c3⟩:=HRE.out g o cap rfl i hil
   have hkeep : ∀ d,wr.cell? ⟨g,d,none⟩ = W.cell? ⟨g,d,none⟩:=fun d=>by simp [World.cell?,HDI.out.bl.block g hS]
   rw [← hkeep] at c0 c1 c2 c3
   have hi1 : (0 : Int) ≤ (i : Int):=Int.natCast_nonneg _
   have hi2 : (i : Int) < (l.length : Int):=by omega
   have hi3 : ((i : Int)).toNat = i:=Int.toNat_natCast _
   have HT:=hid ht;have HIL:=hid hil
   clear hkeep hc hS ht hil
   go_upto_region 5 with fail
   obtain ⟨w5,hw5⟩ : ∃ w',wr.alloc (.cells #[.int .i64 t.1,.string t.2,.int .i64 x,.slice ya ym yc] 62) = w':=⟨_,rfl⟩
   rw [hw5]
   have hb5 : Below wr.heap.size wr w5:=by rw [← hw5];exact (Below.refl _ _).alloc (Nat.le_refl _) _
   have hbl : Blk w5 wr.heap.size 62 #[.int .i64 t.1,.string t.2,.int .i64 x,.slice ya ym yc]:=by rw [← hw5];exact Blk.new _ _ _
   have b0:=hbl.cell 0;have b1:=hbl.cell 1
   have HB5:=hid hb5
   clear hb5 hbl hw5 c0 c1 c2 c3
   have hstep:=stepN_is n t
   obtain ⟨b,hb⟩ : ∃ b,brkI t = b:=⟨_,rfl⟩
   have hbc:=bracket_calls t
   rw [hb] at hbc hstep
   have HBC:=hid hbc
   have hm:=stepN_le n t
   have hbr:=brk_range t
   rw [hb] at hbr
   have hfew:=HDI.out.few
   obtain ⟨m,hmm⟩ : ∃ m,stepN n t = m:=⟨_,rfl⟩
   rw [hmm] at hstep hm
   have hs0 : wrap64 ((n : Int) + b) = (n : Int) + b:=IntWalk.wrap64_in _ (by omega)
   have hs1 : IntKind.i64.wrap ((n : Int) + b) = (n : Int) + b:=(IntWalk.i64_left _).trans hs0
   have hi0 : wrap64 ((i : Int) + 1) = ((i + 1 : Nat) : Int):=(IntWalk.wrap64_in _ (by have:=HLEN.out;have:=HIL.out;omega)).trans (by omega)
   have hi4 : IntKind.i64.wrap ((i : Int) + 1) = ((i + 1 : Nat) : Int):=(IntWalk.i64_left _).trans hi0
   have HMM:=hid hmm;have HST:=hid hstep
   have hst2 : max 0 ((n : Int) + b) = (m : Int):=hstep
   clear hb hmm hbc hm hbr hfew hstep
   go_wp2_with fail
   ((with_reducible refine (HBC.out _).mono ?_);rintro e w6 ⟨rfl,hb6⟩)
   have HB6:=hid (HDI.out.bl.trans ((HB5.out.trans (hb6.mono HB5.out.size)).mono HDI.out.bl.size))
   clear hb6
   by_cases h256 : (m : Int) ≤ 256
   ·have hd2 : decide ((256 : Int) < (m : Int)) = false:=decide_eq_false (by omega)
    have HD:=hid (show deepAt m (i + 1) (l.drop (i + 1)) = deepAt 0 0 l by
     have h1:=deep_step (n:=n) HT.out
     rw [HMM.out,if_neg (by omega)] at h1
     rw [← h1];exact HDI.out.same)
    have H256:=hid h256
    clear h256
    go_wp2_with fail
    refine ⟨⟨m,i + 1,rfl,by simp,HIL.out,by have:=H256.out;omega,HD.out,HB6.out⟩,?_⟩
    have:=HIL.out
    simp [intOf]
    omega
   ·have hd2 : decide ((256 : Int) < (m : Int)) = true:=decide_eq_true (by omega)
    have HD:=hid (show deepAt 0 0 l = some i by
     have h1:=deep_step (n:=n) HT.out
     rw [HMM.out,if_pos (by omega)] at h1
     rw [← h1];exact HDI.out.same.symm)
    clear h256
    go_wp2_with fail
    go_ret
    exact ⟨by rw [HD.out];rfl,HB6.out⟩
  ·have hd : decide ((i : Int) < (l.length : Int)) = false:=decide_eq_false (by omega)
   have hi : i = l.length:=by have:=HDI.out.le;omega
   have hsame:=HDI.out.same
   rw [hi,List.drop_length] at hsame
   have HN:=hid (show deepAt 0 0 l = none from hsame.symm)
   clear hsame hil
   go_wp2_with fail
   go_ret
   exact ⟨by rw [HN.out];rfl,HDI.out.bl⟩
end Go.Proofs.YtlklhkkjcfmefaaGreatDoor.pa
namespace Go.Proofs.YtlklhkkjcfmefaaGreatDoor.pa
open Go.RowKit nd pr
theorem lex_mem (x : Lx.Lex) (l : List UInt8) : ∀ t ∈ (Lx.lexA x l).1,∃ y m k n,Lx.find (Lx.tried y) m = some (k,n) ∧ t = (k,m.take n) ∧ m.length ≤ l.length:=by
 generalize hn : l.length = n
 induction n using Nat.strongRecOn generalizing l x with
 | ind n ih =>
  subst hn
  by_cases h0 : l = []
  ·subst h0;rw [Lx.lexA_nil];intro t ht;cases ht
  ·cases hx : Lx.next x l with
   | error e=>rw [Lx.lexA_err hx h0];intro t ht;cases ht
   | ok p =>
    obtain ⟨k,n,y⟩:=p
    have hl:=Lx.next_le hx
    rw [Lx.lexA_ok hx h0]
    intro t ht
    rcases List.mem_cons.1 ht with rfl | ht
    ·exact ⟨x,l,k,n,(Lx.next_find hx).1,rfl,Nat.le_refl _⟩
    ·obtain ⟨y',m,k',n',h1,h2,h3⟩:=ih (l.drop n).length (by rw [List.length_drop];omega) y (l.drop n) rfl t ht
     exact ⟨y',m,k',n',h1,h2,by rw [List.length_drop] at h3;omega⟩
theorem find_some {l : List UInt8} {k : Int} {n : Nat} : ∀ {sh : List Lx.Kd},Lx.find sh l = some (k,n) → ∃ f,(k,f) ∈ sh ∧ f l = n ∧ n ≠ 0
 | [],h=>by cases h
 | (k',f) :: t,h=>by
  unfold Lx.find at h
  by_cases h0 : f l = 0
  ·rw [if_pos h0] at h
   obtain ⟨f',h1,h2⟩:=find_some h
   exact ⟨f',List.mem_cons_of_mem _ h1,h2⟩
  ·rw [if_neg h0] at h
   cases h
   exact ⟨f,List.mem_cons_self,rfl,h0⟩
theorem tried_mem {y : Lx.Lex} {h : Lx.Kd} (hm : h ∈ Lx.tried y) : h ∈ Lx.closing ∨ h ∈ Lx.inside:=by
 unfold Lx.tried at hm
 split at hm
 ·exact .inr hm
 ·split at hm
  ·exact .inl hm
  ·exact .inl (List.mem_cons_of_mem _ hm)
theorem take_head {l : List UInt8} {n : Nat} (h : n ≠ 0) : (l.take n).getD 0 0 = l.getD 0 0:=by
 cases l with
 | nil=>simp
 | cons b r=>cases n with
  | zero=>exact absurd rfl h
  | succ n=>rfl
theorem marked_pre {c : UInt8} {f : List UInt8 → Nat} {l : List UInt8} (h : Lx.marked [c] f l ≠ 0) : Lib.hasPrefix (l.take (Lx.marked [c] f l)) [c] = true:=by
 rw [Lx.pre_take]
 unfold Lx.marked at h ⊢
 by_cases h1 : Lib.hasPrefix l [c] = true
 ·rw [if_pos h1] at h ⊢
  by_cases h2 : f (l.drop ([c] : List UInt8).length) = 0
  ·rw [if_pos h2] at h;exact absurd rfl h
  ·rw [if_neg h2,h1,Bool.and_true]
   exact decide_eq_true (by omega)
 ·rw [if_neg h1] at h;exact absurd rfl h
theorem word_head {l : List UInt8} (h : Sg.word l ≠ 0) : Sg.cL ((l.getD 0 0).toNat : Int) = true:=by
 have hs : Sg.simple l ≠ 0:=fun e=>by unfold Sg.word at h;rw [if_pos e] at h;exact h rfl
 unfold Sg.simple at hs
 by_cases h1 : Sg.at' Sg.cL l 0 = true
 ·exact Lx.at_get h1
 ·rw [if_neg h1] at hs;exact absurd rfl hs
theorem oper_mem {l : List UInt8} (h : Sg.oper l ≠ 0) : l.take (Sg.oper l) ∈ Sg.opers:=by
 unfold Sg.oper at h ⊢
 cases hf : Sg.opers.find? (fun o=>Lib.hasPrefix l o) with
 | none=>rw [hf] at h;exact absurd rfl h
 | some o =>
  have h1 : Lib.hasPrefix l o = true:=by simpa using List.find?_some hf
  have h2 : o <+: l:=List.isPrefixOf_iff_prefix.1 h1
  rw [show l.take o.length = o from (List.prefix_iff_eq_take.1 h2).symm]
  exact List.mem_of_find?_eq_some hf
theorem signs_head : ∀ s ∈ [minus,semi,colon,bar,lpar,rpar,lbr,rbr,lbrace,rbrace,comma,dot,dots,quest],Sg.cL ((s.data.toList.getD 0 0).toNat : Int) = false:=by decide +kernel
theorem words_no : ∀ s ∈ [wdef,wlabel,wtry,wcatch,was,wif,wthen,welif,welse,wend,wreduce,wforeach,wbreak,wimport,winclude],s.data.toList ∉ Sg.opers:=by decide +kernel
theorem kinds_clo : ∀ k ∈ Lx.closing.map (·.1),0 ≤ k ∧ k ≤ 13:=by decide
theorem kinds_in : ∀ k ∈ Lx.inside.map (·.1),0 ≤ k ∧ k ≤ 13:=by decide
theorem shape_of {y : Lx.Lex} {k : Int} {f : List UInt8 → Nat} (h : (k,f) ∈ Lx.tried y) : (0 ≤ k ∧ k ≤ 13) ∧ (k = 4 → f = Lx.marked [46] Sg.simple) ∧ (k = 5 → f = Lx.marked [36] Sg.word) ∧ (k = 3 → f = Sg.word) ∧ (k = 13 → f = Sg.oper):=by
 rcases tried_mem h with h | h
 ·refine ⟨kinds_clo k (List.mem_map.2 ⟨_,h,rfl⟩),?_,?_,?_,?_⟩ <;>
  ·intro e
   subst e
   unfold Lx.closing Lx.outside at h
   simp only [List.mem_cons,Prod.mk.injEq,List.not_mem_nil,or_false] at h
   simpa using h
 ·refine ⟨kinds_in k (List.mem_map.2 ⟨_,h,rfl⟩),?_,?_,?_,?_⟩ <;>
  ·intro e
   subst e
   unfold Lx.inside at h
   simp at h
def asT (t : Lx.Tok) : Tk:=(t.1,⟨t.2.toArray⟩)
theorem lex_fit (x : Lx.Lex) (l : List UInt8) (hl : l.length ≤ 1000000) : ∀ t ∈ (Lx.lexA x l).1,FitT (asT t):=by
 intro t ht
 obtain ⟨y,m,k,n,hf,rfl,hm⟩:=lex_mem x l t ht
 obtain ⟨f,hk,hfl,hn⟩:=find_some hf
 obtain ⟨h0,h4,h5,h3,h13⟩:=shape_of hk
 have hd : ∀ s : ByteArray,(⟨(m.take n).toArray⟩ : ByteArray) = s → m.take n = s.data.toList:=fun s e=>by rw [← e]
 refine ⟨h0,?_,?_,?_,?_,?_⟩
 ·show (m.take n).toArray.size ≤ 1000000
  rw [List.size_toArray,List.length_take];omega
 ·intro e
  have e : k = 4:=e
  have hf2:=h4 e
  subst hf2
  show Lib.hasPrefix (m.take n) [46] = true
  rw [← hfl]
  exact marked_pre (by rw [hfl];exact hn)
 ·intro e
  have e : k = 5:=e
  have hf2:=h5 e
  subst hf2
  show Lib.hasPrefix (m.take n) [36] = true
  rw [← hfl]
  exact marked_pre (by rw [hfl];exact hn)
 ·intro e hmem
  have e : k = 3:=e
  have hf2:=h3 e
  subst hf2
  have h1:=signs_head _ hmem
  have h2:=word_head (l:=m) (by rw [hfl];exact hn)
  rw [← take_head (l:=m) hn] at h2
  have h1 : Sg.cL (((m.take n).getD 0 0).toNat : Int) = false:=h1
  rw [h2] at h1
  cases h1
 ·intro e hmem
  have e : k = 13:=e
  have hf2:=h13 e
  subst hf2
  have h1:=words_no _ hmem
  refine h1 ?_
  show m.take n ∈ Sg.opers
  rw [← hfl]
  exact oper_mem (by rw [hfl];exact hn)
end Go.Proofs.YtlklhkkjcfmefaaGreatDoor.pa
namespace Go.Proofs.YtlklhkkjcfmefaaGreatDoor.pa
open Go.RowKit nd pr sx ed
theorem kids_newSS {S : Nat → Prop} {w w' : World} {n : Nat} {x : Nd} {v : Value} (h : RNS (FrS S n w) x v w w') (hn : n ≤ w.heap.size) (hs : w.heap.size ≤ w'.heap.size) : ∃ a c,v = .agg #[.int .i64 x.k,.string x.t,.slice a x.kids.len c] ∧ KidsAt (FrS S n w') w' x.kids (.slice a x.kids.len c):=by
 obtain ⟨s,rfl,hk⟩:=h
 obtain ⟨a,c,rfl,hm⟩:=hk.slice
 exact ⟨a,c,rfl,hk.keep (fun k e=>by
  rcases e with e | e
  ·exact e.imp id (fun e=>⟨e.1,Nat.lt_of_lt_of_le e.2 hs⟩)
  ·exact .inr ⟨Nat.le_trans hn e.1,e.2⟩) (fun _ _=>rfl)⟩
theorem oldS_frs {E : Env} {S : Nat → Prop} {n : Nat} {W w : World} (h : OldS E W S) (hW : W.heap.size ≤ w.heap.size) (hn : ∀ k,n ≤ k → ¬ Pm E k) : OldS E w (FrS S n w):=fun k e=>by
 rcases e with e | e
 ·exact ⟨Nat.lt_of_lt_of_le (h k e).1 hW,(h k e).2⟩
 ·exact ⟨e.2,hn k e.1⟩
theorem ft_of {E : Env} {q : Pa Nd} {g : FuncId} (hen : Enters g) (hq : Tl E q RN g #[pB E]) (W : World) : FT E q (methV g E.B) W :=
 ⟨g,#[pB E],#[],rfl,hen,fun W' hk i o hp hr=>by simpa using Tl.at hq hp hr⟩
theorem kids_since4 {n : Nat} {w : World} {g : Nat} {l : List Nd} {L : List Value} (hc : CellsOf (Fr n w) w (Fo.ofL l) L) (hg : g = w.heap.size) (m : Nat) (hm : l.length = m) (hmax : m ≤ maxLen) (hn : n ≤ w.heap.size) :
  OwnL n (w.alloc (.cells L.toArray 32)) l (.slice (some ⟨g,0,none⟩) m m):=by
 subst hg hm
 have hb : Below w.heap.size w (w.alloc (.cells L.toArray 32)):=(Below.refl _ _).alloc (Nat.le_refl _) _
 refine own_made (L:=L) (hc.keep (fun k e=>⟨e.1,Nat.lt_of_lt_of_le e.2 hb.size,fun e'=>by cases e';exact Nat.lt_irrefl _ e.2⟩) (fun k e=>hb.block k e.2)) (Blk.new w _ _) hn hmax
theorem cells_four {S : Nat → Prop} {W : World} {x y z u : Nd} {s r q p : Value} (h : KidsAt S W x.kids s) (h2 : KidsAt S W y.kids r) (h3 : KidsAt S W z.kids q) (h4 : KidsAt S W u.kids p) :
  CellsOf S W (Fo.ofL [x,y,z,u]) [.int .i64 x.k,.string x.t,s,.int .i64 y.k,.string y.t,r,.int .i64 z.k,.string z.t,q,.int .i64 u.k,.string u.t,p]:=⟨_,_,rfl,h,⟨_,_,rfl,h2,⟨_,_,rfl,h3,⟨_,_,rfl,h4,rfl⟩⟩⟩⟩
end Go.Proofs.YtlklhkkjcfmefaaGreatDoor.pa
