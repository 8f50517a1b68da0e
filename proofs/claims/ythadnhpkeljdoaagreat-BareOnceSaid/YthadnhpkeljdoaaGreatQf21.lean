/- Ground of the law: BaPaths, PvL, LxMath3. -/
import Derived.Test.YthadnhpkeljdoaaGreatQf17
import Derived.Test.YthadnhpkeljdoaaGreatQf20
import Derived.Test.YthadnhpkeljdoaaGreatQf19
import Derived.LoopN
set_option maxRecDepth 100000
set_option maxHeartbeats 8000000
set_option linter.unusedVariables false
set_option linter.unusedSimpArgs false
namespace Go.Proofs.YthadnhpkeljdoaaGreat.nd
open Go.Lib (hid)
open Go.RowKit Go.Shelf sx ed
attribute [local go_sem] Oper.semAt_some
def PIB (w : World) (N G B : Nat) (pre : List Told) (D : Nat → Prop) (W : World) : Prop:=PI w N G pre D W ∧ BX B 47 (.func (.func 27) #[] #[]) D W
theorem PIB.ab (w : World) (N G B : Nat) : AbD (PIB w N G B):=fun s D D' A A' h hb hD=>⟨PI.ab w N G s D D' A A' h.1 hb hD,h.2.ab hb hD⟩
theorem PIB.own (w : World) (N G B' B : Nat) (hB : w.heap.size ≤ B) (D : Nat → Prop) : OwnFrom B (fun s W=>PIB w N G B' s D W):=fun s X Y row h hg hr =>
  ⟨PI.own w N G B hB D s X Y row h.1 hg hr,h.2.own hg (fun r e=>(hr r e).2)⟩
theorem PR.box {W z w2 : World} {N B G n : Nat} {t e : TypeId} {u v' ov : Value} {L : List Value} {o : Obj} (hz : Below W.heap.size W z) (hg : (z.alloc o).grownBy w2 ov.ownBlock) (hrow : W.ownsRow G e 1 ov n L) (hb : Boxed W B t u) (ht : t ≠ e) (hN : N ≠ B) :
    Boxed (w2.setCell ⟨N,0,none⟩ v') B t u:=by
  have hB:=Boxed.lt hb
  have h0 : ov.ownBlock ≠ some B:=own_no hrow (show Blk W B t #[u] from hb) ht
  have hzs:=hz.size
  have h1 : w2.heap[B]? = z.heap[B]?:=(hg.block B (by simp;omega) (fun e=>h0 e.symm)).trans (Below.heap_alloc _ _ _ (by omega))
  have h2 : (w2.setCell ⟨N,0,none⟩ v').heap[B]? = w2.heap[B]?:=Below.heap_setCell _ _ _ B (fun e=>hN e.symm)
  exact h2.trans (h1.trans ((hz.block B hB).trans hb))
abbrev paTmpsB (w : World) (xv pv v9 v10 v11 v12 v13 : Value) : Act :=
  { tmps:=#[xv,.pointer (some ⟨w.heap.size,0,none⟩),.slice none 0 0,.pointer (some ⟨w.heap.size + 1,0,none⟩),pv,xv,.func (.func 50) #[] #[.pointer (some ⟨w.heap.size + 1 + 1 + 1,0,none⟩),.pointer (some ⟨w.heap.size + 1 + 1,0,none⟩)],pv,v9,v10,v11,v12,v13,undef],defers:=[] }
def PRVB (w : World) (xv pv : Value) (G : Nat) (ov : Value) (q : List Int) (m k : Nat) (L : List Value) (N : Nat) (W1 : World) (listed : Array Bool) (a : Act) (u : World) : Prop :=
  listed.size = 6 ∧ ∃ v9 v10 v11 v12 v13,a = paTmpsB w xv pv v9 v10 v11 v12 v13 ∧ PR G ov pv q m k L N W1 (rinv.done listed) v9 v10 v11 v12 v13 u
theorem brackets_in (n : Nat) (hn : 3 ≤ n) (x : Nd) (hct : x.count ≤ 1000000) (w : World) (v : Value) (hu : NdAt (Lt w.heap.size) w x v) :
    CallsIn Fence.wide n Tryz.prog 14 #[v] w fun e w'=>∃ v' L,e = .returned v' ∧ w'.ownsRow w.heap.size 39 1 v' (x.walkB []).length L ∧ ListsAt (Frsh w.heap.size w'.heap.size) w' L ((x.walkB []).map fun y=>ints y.1) ∧ Below w.heap.size w w':=by
  have h1 : 1 ≤ n:=by omega
  obtain ⟨s,rfl,hs⟩:=hu
  obtain ⟨ao,cap,rfl,hm⟩:=hs.slice
  obtain ⟨W0,hW0⟩ : ∃ W0,(((w.alloc (.cells #[.int .i64 x.k,.string x.t,.slice ao x.kids.len cap] 27)).alloc (.cells #[.slice none 0 0] 36)).alloc (.cells #[.int .i64 x.k,.string x.t,.slice ao x.kids.len cap] 27)).alloc (.cells #[(.func (.func 27) #[] #[])] 47) = W0:=⟨_,rfl⟩
  have hb0 : Below w.heap.size w W0:=by rw [← hW0];exact ((((Below.refl _ w).alloc (Nat.le_refl _) _).alloc (by simp) _).alloc (by simp;omega) _).alloc (by simp;omega) _
  have hsz : W0.heap.size = w.heap.size + 4:=by rw [← hW0];simp
  have k2 : Boxed W0 (w.heap.size + 1) 36 (.slice none 0 0):=by
    have:=((Boxed.new (w.alloc (.cells #[.int .i64 x.k,.string x.t,.slice ao x.kids.len cap] 27)) 36 (.slice none 0 0)).alloc (.cells #[.int .i64 x.k,.string x.t,.slice ao x.kids.len cap] 27)).alloc (.cells #[(.func (.func 27) #[] #[])] 47)
    rw [← hW0];simpa using this
  have k3 : Blk W0 (w.heap.size + 1 + 1) 27 #[.int .i64 x.k,.string x.t,.slice ao x.kids.len cap]:=by
    rw [← hW0]
    simpa using (Blk.new ((w.alloc (.cells #[.int .i64 x.k,.string x.t,.slice ao x.kids.len cap] 27)).alloc (.cells #[.slice none 0 0] 36)) 27 #[.int .i64 x.k,.string x.t,.slice ao x.kids.len cap]).alloc (.cells #[(.func (.func 27) #[] #[])] 47)
  have k4 : Boxed W0 (w.heap.size + 1 + 1 + 1) 47 (.func (.func 27) #[] #[]):=by
    rw [← hW0]
    simpa using Boxed.new (((w.alloc (.cells #[.int .i64 x.k,.string x.t,.slice ao x.kids.len cap] 27)).alloc (.cells #[.slice none 0 0] 36)).alloc (.cells #[.int .i64 x.k,.string x.t,.slice ao x.kids.len cap] 27)) 47 (.func (.func 27) #[] #[])
  have hseq:=sought_all x hct (n - 1) w.heap.size (w.heap.size + 1 + 1) W0 hb0.size ao cap (w.heap.size + 1 + 1 + 1) k3 (hs.below hb0 (Nat.le_refl _))
  obtain ⟨xv,hxv⟩ : ∃ xv,(Value.agg #[.int .i64 x.k,.string x.t,.slice ao x.kids.len cap]) = xv:=⟨_,rfl⟩
  have HSEQ:=hid hseq;have HW0:=hid hW0;have HB0:=hid hb0;have HSZ:=hid hsz;have HK2:=hid k2;have HK4:=hid k4;have HXV:=hid hxv
  clear hseq hW0 hb0 hsz k2 k3 k4 hs hxv
  refine callsIn_of_wp_marks Tryz.func14 rfl trivial ?_ rfl
  simp only [Tryz.ntmps14,List.size_toArray,List.length_cons,List.length_nil,Nat.reduceAdd,Nat.reduceSub,Array.replicate_succ,Array.replicate_zero,List.push_toArray,List.append_toArray,List.nil_append,List.cons_append]
  gi_wp2_with fail
  refine ⟨trivial,?_⟩
  refine (sought_calls x _ ao cap (n - 1)).mono ?_
  rintro e w' ⟨rfl,rfl⟩
  gi_wp2_with fail
  rw [HW0.out,HXV.out]
  have hws : w.heap.size ≤ W0.heap.size:=HB0.out.size
  refine wpIn_rangeFunc_E (F:=Fence.wide) rfl h1 (gf:=50) (lb:=#[.pointer (some ⟨w.heap.size + 1 + 1 + 1,0,none⟩),.pointer (some ⟨w.heap.size + 1 + 1,0,none⟩)]) rfl trivial (enters_of Tryz.func50 (by kernel_rfl) rfl)
    HSEQ.out hws (Below.refl _ _) (fun x D W vs h=>by obtain ⟨pv,rfl,_⟩:=h;rfl)
    (PIB w (w.heap.size + 1) W0.heap.size (w.heap.size + 1 + 1 + 1)) (PIB.ab w _ _ _) (fun pre D W h=>h.2.1) (PIB.own w _ _ _ _ hws) ⟨⟨⟨.slice none 0 0,[],⟨HK2.out,id⟩,World.ownsRow_nil _ _ _ _,(fun k e=>(by cases e)),⟨rfl,(fun i q h=>(by simp at h))⟩,Nat.le_refl _⟩,HB0.out,fun k hk=>hk.elim⟩,HK4.out,id⟩
    (fun y D vs a' W=>∃ yo yc,vs = #[.slice yo y.1.length yc] ∧ IntsAt D W (.slice yo y.1.length yc) (ints y.1) ∧ a' = paTmpsB w xv (.slice yo y.1.length yc) undef undef undef undef undef)
    (fun y D vs a' s X Y row h hg hr=>by obtain ⟨yo,yc,h1,h2,h3⟩:=h;exact ⟨yo,yc,h1,ints_own h2 hg (fun r e=>(hr r e).2),h3⟩) ?assign ?body ?done
  case assign =>
    rintro l pre y D W vs K hI hD ⟨pv,rfl,hp⟩ hK
    obtain ⟨yo,yc,rfl,_⟩:=id hp
    rw [show (y.1.map fun (n : Nat)=>(n : Int)).length = y.1.length by simp] at hp ⊢
    gi_wp2
    exact hK _ _ ((KeepsOthers.refl _).from _) (KD.refl _ _ _) hI ⟨yo,yc,by simp,hp,rfl⟩
  case body =>
    rintro l pre y rest D vs a' W hys hl hPI hD ⟨yo,yc,rfl,hpy,rfl⟩
    have hmx : Tryz.prog.follows .mixedOrders = true:=by kernel_rfl
    have hdep : 1 ≤ n - 1 - 1:=by omega
    have hfc : Fence.wide.fn 32:=trivial
    obtain ⟨⟨⟨ov,L,⟨hb,hnd⟩,hrow,hod,hL,hGW⟩,hI⟩,hbx⟩:=hPI
    have HBX:=hid hbx
    clear hbx
    obtain ⟨i0,hi,hz0,hz1,hz2⟩:=info_parts infoP
    have hpl : pre.length ≤ 1000000:=by
      have:=congrArg List.length hys
      have h0:=List.length_filter_le (fun (t : Told)=>t.2.isBr) (x.walk [])
      rw [Nd.walk_len] at h0
      unfold Nd.walkB at this
      rw [List.length_append,List.length_cons] at this
      omega
    have hql : (ints y.1).length ≤ 1000000:=by
      have h1:=Nd.walk_short x (p:=[]) (y:=y) (List.mem_filter.1 (show y ∈ (x.walk []).filter (fun (t : Told)=>t.2.isBr) from by rw [show (x.walk []).filter (fun (t : Told)=>t.2.isBr) = x.walkB [] from rfl,hys];simp)).1
      have h2:=Nd.deep_le x
      simp [ints] at h1 ⊢
      omega
    have hqm : (ints y.1).length = y.1.length:=by simp [ints]
    obtain ⟨q,hq⟩ : ∃ q,ints y.1 = q:=⟨_,rfl⟩
    obtain ⟨m,hmm⟩ : ∃ m,y.1.length = m:=⟨_,rfl⟩
    rw [hq] at hql hqm hpy
    rw [hmm] at hqm hpy ⊢
    have HQ:=hid hq;have HQM:=hid hqm;have HQL:=hid hql
    have hqm1 : m ≤ 1000000:=by omega
    clear hq hmm hqm hql
    have HROW:=hid hrow;have HB:=hid hb;have HPY:=hid hpy;have HL:=hid hL;have HOD:=hid hod;have HI:=hid hI;have HDL:=hid hD
    have hsz1 : W.drew.heap.size = W.heap.size:=rfl
    clear hb hpy hL hod hI hys hD hrow
    gi_wp2
    refine wpIn_region_any hmx ?_
    change wpAnyIn _ _ _ _ _ _ _ _ _ W.drew
    refine rinv.wpAnyIn_inv (PRVB w xv (.slice yo m yc) W0.heap.size ov q m pre.length L (w.heap.size + 1) W.drew) ?step ?fin _ _ _ _ (by decide) ?start
    case start =>
      refine ⟨rfl,_,_,_,_,_,rfl,?_⟩
      constructor <;> first | exact fun h=>absurd h (by decide) | exact fun _=>rfl
    case fin =>
      rintro listed a u ⟨hsl,v9,v10,v11,v12,v13,rfl,h⟩ hre
      have hno : ∀ i,i ∉ Region.ready _ _ listed:=fun i hi=>by rw [hre] at hi;cases hi
      have mk : ∀ i,i < 6 → _ → rinv.done listed i = true:=fun i hi ha=>by
        cases hq : rinv.done listed i with
        | true=>rfl
        | false=>exact absurd (rinv.ready_of hi hsl hq ha) (hno i)
      have k0:=mk 0 (by omega) (by simp)
      have k1:=mk 1 (by omega) (by simp)
      have k2:=mk 2 (by omega) (by simp [k1])
      have k3:=mk 3 (by omega) (by simp [k2])
      have k4:=mk 4 (by omega) (by simp [k0,k3,k2])
      have k5:=mk 5 (by omega) (by simp [k0,k1,k2,k3,k4])
      obtain ⟨z,w2,v',ca,cc,hi2,hz2,hown2,hg2,hat2,rfl⟩:=h.w5 k5
      have hL2:=HL.out
      have hlast:=PR.last (w:=w) (W:=W.drew) (N:=w.heap.size + 1) (G:=W0.heap.size) (m:=m) (pre:=pre) (y:=y) (D:=D) (L:=L) (by have:=HSZ.out;omega) (by omega) hGW hnd HB.out HROW.out HOD.out hL2 ⟨HI.out.1.drew,HI.out.2⟩ (fun k hk=>(HDL.out k hk).2) hz2 (by rw [HQ.out];exact hi2) hown2 hg2 hat2
      have hbx2 : BX (w.heap.size + 1 + 1 + 1) 47 (.func (.func 27) #[] #[]) D (w2.setCell ⟨w.heap.size + 1,0,none⟩ v'):=⟨PR.box hz2 hg2 HROW.out HBX.out.1 (by decide) (by omega),HBX.out.2⟩
      clear mk hno k0 k1 k2 k3 k4 k5 hre h hL2 hi2 hz2 hown2 hg2 hat2
      gi_wp2
      have hkd : KD w.heap.size D W _:=⟨((Below.refl _ W).drew).trans hlast.2.1.1,hlast.2.1.2⟩
      have hfin : PIB w (w.heap.size + 1) W0.heap.size (w.heap.size + 1 + 1 + 1) (pre ++ [y]) D _:=⟨hlast.2.2,hbx2⟩
      first | exact ⟨((KeepsOthers.drew W).trans hlast.1).from _,hkd⟩ | exact ⟨((KeepsOthers.drew W).trans hlast.1).from _,hkd,hfin⟩
    case step =>
      rintro listed a u i ⟨hsl,v9,v10,v11,v12,v13,rfl,h⟩ hi
      obtain ⟨hlt11,hnot,haft⟩:=rinv.ready_mem hi
      have hd : rinv.done (listed.setIfInBounds i true) = fun k=>(k == i) || rinv.done listed k:=funext (rinv.done_set hnot)
      have hni:=rinv.done_not hnot
      have hsl' : (listed.setIfInBounds i true).size = 6:=by rw [Array.size_setIfInBounds];exact hsl
      have HD:=hid hd;have HS:=hid hsl';have HN:=hid hni;have HA:=hid haft
      have HH:=hid h
      clear hd hsl' hsl hnot hi hni haft h
      match i,hlt11 with
      | 0,_ =>
        refine rinv.wpOpIn_of_list rfl ?_
        have h4:=not_of (fun e=>(HH.out.q4 e).1) HN.out
        have hc : u.cell? ⟨w.heap.size + 1,0,none⟩ = some ov:=by
          have hbx : Boxed u (w.heap.size + 1) 36 ov:=by
            have hW : Boxed W.drew (w.heap.size + 1) 36 ov:=HB.out
            cases h2 : rinv.done listed 2 with
            | false=>rw [HH.out.w1 h2];exact hW
            | true =>
              cases h3 : rinv.done listed 3 with
              | false =>
                obtain ⟨_,_,_,_,hb⟩:=HH.out.w2 h2 h3
                exact (hb.block _ (Boxed.lt hW)).trans hW
              | true =>
                obtain ⟨z,_,_,_,hb,rfl,_⟩:=HH.out.w3 h3 h4
                exact Boxed.alloc (W:=z) ((hb.block _ (Boxed.lt hW)).trans hW) _
          exact hbx.cell
        clear h4
        gi_wp2
        refine ⟨HS.out,_,_,_,_,_,rfl,?_⟩
        rw [HD.out]
        exact { HH.out with p0:=fun _=>rfl,q4:=fun e=>⟨rfl,(HH.out.q4 e).2⟩ }
      | 1,_ =>
        refine rinv.wpOpIn_of_list rfl ?_
        gi_wp2
        refine ⟨HS.out,_,_,_,_,_,rfl,?_⟩
        rw [HD.out]
        exact { HH.out with p1:=fun _=>rfl,q2:=fun _=>rfl }
      | 2,_ =>
        refine rinv.wpOpIn_of_list rfl ?_
        have h1 : rinv.done listed 1 = true:=by have h:=HA.out;simp [Region.binds] at h;simp [h]
        have e10:=HH.out.p1 h1
        subst e10
        have h3:=not_of HH.out.q3 HN.out
        have h4:=not_of (fun e=>(HH.out.q4 e).2) h3
        have h5:=not_of HH.out.q5 h4
        have hu:=HH.out.w1 HN.out
        have H1:=hid h1;have H3:=hid h3;have H4:=hid h4;have H5:=hid h5
        subst hu
        have hcl:=cloneI_calls D q HQL.out W.drew (.slice yo m yc) (HPY.out.keep (fun _ e=>e) (fun _ _=>rfl))
        rw [HQM.out] at hcl
        have HCL:=hid hcl
        clear h1 h3 h4 h5 hcl
        gi_wp2_with (gi_at_call 32;refine (CallsIn.inRound l (callsIn_wide.2 HCL.out)).mono ?_;rintro e w' ⟨ca,cc,rfl,hic,hbc⟩)
        refine ⟨HS.out,_,_,_,_,_,rfl,?_⟩
        rw [HD.out]
        exact { HH.out with
          q2:=fun _=>H1.out,q3:=fun _=>rfl
          w1:=fun e=>by cases e
          w2:=fun _ _=>⟨ca,cc,rfl,hic,hbc⟩
          w3:=fun e=>absurd (show rinv.done listed 3 = true from e) (by rw [H3.out];simp)
          w4:=fun e=>absurd (show rinv.done listed 4 = true from e) (by rw [H4.out];simp)
          w5:=fun e=>absurd (show rinv.done listed 5 = true from e) (by rw [H5.out];simp) }
      | 3,_ =>
        refine rinv.wpOpIn_of_list rfl ?_
        have h2 : rinv.done listed 2 = true:=by have h:=HA.out;simp [Region.binds] at h;simp [h]
        obtain ⟨ca,cc,rfl,hic,hbc⟩:=HH.out.w2 h2 HN.out
        have h4:=not_of (fun e=>(HH.out.q4 e).2) HN.out
        have h5:=not_of HH.out.q5 h4
        have H2:=hid h2;have H4:=hid h4;have H5:=hid h5
        clear h2 h4 h5
        gi_wp2
        refine ⟨HS.out,_,_,_,_,_,rfl,?_⟩
        rw [HD.out]
        exact { HH.out with
          q3:=fun _=>H2.out,q4:=fun e=>⟨(HH.out.q4 e).1,rfl⟩
          w1:=fun e=>absurd (show rinv.done listed 2 = false from e) (by rw [H2.out];simp)
          w2:=fun _ e=>by cases e
          w3:=fun _ _=>⟨u,ca,cc,hic,hbc,rfl,rfl⟩
          w4:=fun e=>absurd (show rinv.done listed 4 = true from e) (by rw [H4.out];simp)
          w5:=fun e=>absurd (show rinv.done listed 5 = true from e) (by rw [H5.out];simp) }
      | 4,_ =>
        refine rinv.wpOpIn_of_list rfl ?_
        have h2 : rinv.done listed 0 = true ∧ rinv.done listed 3 = true ∧ rinv.done listed 2 = true:=by have h:=HA.out;simp [Region.binds] at h;simp [h]
        obtain ⟨z,ca,cc,hic,hbc,rfl,e12⟩:=HH.out.w3 h2.2.1 HN.out
        subst e12
        have e9:=HH.out.p0 h2.1
        subst e9
        have h5:=not_of HH.out.q5 HN.out
        have H2:=hid h2;have H5:=hid h5
        have hrz:=(own_step (show W.drew.ownsRow W0.heap.size 39 1 v9 pre.length L from HROW.out) hbc).alloc (.cells #[.slice ca m cc] 39)
        have hzs:=hbc.size
        clear h2 h5
        refine wpListIn_append_own_at _ rfl _ _ 36 rfl W0.heap.size 39 i0 _ 1 24 Tryz.underlying36 hi hz0 hz1 hz2 rfl (by decide) _ _ _ rfl hrz ⟨z.heap.size,0,none⟩ 1 1 [.slice ca m cc] rfl rfl (cell_one_new _ _ _) (by simp [Value.oneCell']) (by unfold maxLen;omega) (by omega) (by simp;omega) ?_
        intro v' w' hown' hgrow _ hat
        obtain ⟨a7,c7,rfl,hc7⟩:=own_len' hown'
        gi_wp2
        refine ⟨HS.out,_,_,_,_,_,rfl,?_⟩
        rw [HD.out]
        exact { HH.out with
          q4:=fun _=>⟨H2.out.1,H2.out.2.1⟩,q5:=fun _=>rfl
          w1:=fun e=>absurd (show rinv.done listed 2 = false from e) (by rw [H2.out.2.2];simp)
          w2:=fun _ e=>absurd (show rinv.done listed 3 = false from e) (by rw [H2.out.2.1];simp)
          w3:=fun _ e=>by cases e
          w4:=fun _ _=>⟨z,ca,cc,hic,hbc,hown',hgrow,hat.imp id fun e=>e.trans (by simp)⟩
          w5:=fun e=>absurd (show rinv.done listed 5 = true from e) (by rw [H5.out];simp) }
      | 5,_ =>
        refine rinv.wpOpIn_of_list rfl ?_
        have h2 : rinv.done listed 4 = true:=by have h:=HA.out;simp [Region.binds] at h;simp [h]
        obtain ⟨z,ca,cc,hic,hbc,hown',hgrow,hat⟩:=HH.out.w4 h2 HN.out
        have h3:=HH.out.q4 h2
        have h22:=HH.out.q3 h3.2
        have H2:=hid h2;have H3:=hid h3;have H22:=hid h22
        obtain ⟨a7,c7,rfl,hc7⟩:=own_len' hown'
        have hbz : Boxed z (w.heap.size + 1) 36 ov:=(hbc.block _ (Boxed.lt HB.out)).trans HB.out
        have hbu : Boxed u (w.heap.size + 1) 36 ov:=(hgrow.block _ (by have:=Boxed.lt hbz;simp;omega) (fun e=>by have:=(HROW.out.lt _ e.symm).1;have:=HSZ.out;omega)).trans (hbz.alloc _)
        have hc:=hbu.cell
        have hf:=hbu.frozen
        clear h2 h3 h22 hbz hbu
        gi_wp2
        refine ⟨HS.out,_,_,_,_,_,rfl,?_⟩
        rw [HD.out]
        exact { HH.out with
          q5:=fun _=>H2.out
          w1:=fun e=>absurd (show rinv.done listed 2 = false from e) (by rw [H22.out];simp)
          w2:=fun _ e=>absurd (show rinv.done listed 3 = false from e) (by rw [H3.out.2];simp)
          w3:=fun _ e=>absurd (show rinv.done listed 4 = false from e) (by rw [H2.out];simp)
          w4:=fun _ e=>by cases e
          w5:=fun _=>⟨z,u,_,ca,cc,hic,hbc,hown',hgrow,hat,rfl⟩ }
      | (j + 6),h=>exact absurd h (by simp)
  case done =>
    rintro D D1 W hD ⟨⟨⟨ov,L,⟨hb,hnd⟩,hrow,hod,hL,hGW⟩,hI⟩,_⟩ hdef
    have c1:=hb.cell
    have HI:=hid hI;have HD:=hid hdef;have HL:=hid hL;have HROW:=hid hrow
    clear hI hdef hb hL hrow
    gi_wp2
    refine ⟨by simp,.inl ⟨_,_,rfl,run_takeDeferred HD.out,?_⟩⟩
    have hg:=grownBy_putObj' W D (.deferred none)
    have hDr : ∀ r,(some D : Option Nat) = some r → ∃ o : Obj,W.heap[r]? = some o ∧ o.isCells = false:=fun r e=>by cases e;exact ⟨_,HD.out,rfl⟩
    refine ⟨_,results_tmp rfl _ _ _,ov,L,rfl,own_less (row_own W0.heap.size 39 1 (fun (_ : Unit)=>ov) (fun _=>(x.walkB []).length) (fun _=>L) () W _ _ HROW.out hg hDr) hws,⟨HL.out.1,fun i q hq=>?_⟩,HI.out.1.grown hg HI.out.1.size (fun j e=>by cases e;omega)⟩
    obtain ⟨cv,e1,e2⟩:=HL.out.2 i q hq
    have hgs:=hg.size
    exact ⟨cv,e1,ints_own (e2.keep (fun k hk=>⟨by have:=hk.1;omega,by have:=hk.2.1;omega⟩) (fun _ _=>rfl)) hg hDr⟩
theorem brackets_calls (x : Nd) (hct : x.count ≤ 1000000) (w : World) (v : Value) (hu : NdAt (Lt w.heap.size) w x v) :
    Calls Tryz.prog 14 #[v] w fun e w'=>∃ v' L,e = .returned v' ∧ w'.ownsRow w.heap.size 39 1 v' (x.walkB []).length L ∧ ListsAt (Frsh w.heap.size w'.heap.size) w' L ((x.walkB []).map fun y=>ints y.1) ∧ Below w.heap.size w w' :=
  callsIn_wide.1 (brackets_in 3 (Nat.le_refl _) x hct w v hu)
end Go.Proofs.YthadnhpkeljdoaaGreat.nd
namespace Go.Proofs.YthadnhpkeljdoaaGreat.pv
open Go.RowKit
def opP (E : Env) (id : Nat) (o : Oper) (m : Mem) (K : D → Mem → Prop) : Prop :=
  match dop E.ty m id o with
  | .bad=>False
  | .val d=>K d []
  | .put d ws=>K d ws
  | .eff p d ws=>p ∧ K d ws
  | .idx es i cs=>0 ≤ i ∧ exC cs fun l=>es[i.toNat]? = some l ∧ K (.el l 0) []
  | .call f args=>exS (E.sh f) fun l=>E.ok f args l ∧ K (mkRes (reown id l).1) (reown id l).2
def opS (E : Env) (id : Nat) (r : R) (d : D) (ws : Mem) : Prop :=
  match r with
  | .bad=>False
  | .val d'=>d = d' ∧ ws = []
  | .put d' ws'=>d = d' ∧ ws = ws'
  | .eff p d' ws'=>p ∧ d = d' ∧ ws = ws'
  | .idx es i cs=>0 ≤ i ∧ ∃ l,l.length = cs.length ∧ es[i.toNat]? = some l ∧ d = .el l 0 ∧ ws = []
  | .call f args=>∃ l,(∀ d ∈ l,argD d = true) ∧ E.ok f args l ∧ d = mkRes (reown id l).1 ∧ ws = (reown id l).2
theorem exC_out : ∀ {cs : List CT} {K : List D → Prop},exC cs K → ∃ l,l.length = cs.length ∧ (∀ d ∈ l,cellD d = true) ∧ K l
  | [],K,h=>⟨[],rfl,(fun d h=>by cases h),h⟩
  | .b :: r,K,⟨x,h⟩=>by obtain ⟨l,h1,h2,h3⟩:=exC_out h;exact ⟨_,by simp [h1],by simpa [cellD] using h2,h3⟩
  | .s :: r,K,⟨x,h⟩=>by obtain ⟨l,h1,h2,h3⟩:=exC_out h;exact ⟨_,by simp [h1],by simpa [cellD] using h2,h3⟩
  | .i k :: r,K,⟨x,h⟩=>by obtain ⟨l,h1,h2,h3⟩:=exC_out h;exact ⟨_,by simp [h1],by simpa [cellD] using h2,h3⟩
  | .l :: r,K,⟨x,h⟩=>by obtain ⟨l,h1,h2,h3⟩:=exC_out h;exact ⟨_,by simp [h1],by simpa [cellD] using h2,h3⟩
  | .f e sz :: r,K,⟨x,h⟩=>by obtain ⟨l,h1,h2,h3⟩:=exC_out h;exact ⟨_,by simp [h1],by simpa [cellD] using h2,h3⟩
def shOk : Sh → Bool
  | []=>true
  | (true,_) :: r=>shOk r
  | (false,cs) :: r=>!cs.isEmpty && shOk r
theorem arg_of_cell {d : D} (h : cellD d = true) : argD d = true:=by
  unfold cellD at h
  unfold argD
  split at h <;> first | rfl | cases h
theorem exS_out : ∀ {sh : Sh} {K : List D → Prop},shOk sh = true → exS sh K → ∃ l,(∀ d ∈ l,argD d = true) ∧ K l
  | [],K,_,h=>⟨[],(fun d h=>by cases h),h⟩
  | (true,cs) :: r,K,hs,h=>by
    obtain ⟨l,h1,h2,h3⟩:=exC_out (show exC cs _ from h)
    obtain ⟨q,h4,h5⟩:=exS_out (sh:=r) hs h3
    refine ⟨_,fun d hd=>?_,h5⟩
    rcases List.mem_cons.1 hd with rfl | hd
    · exact List.all_eq_true.2 h2
    · exact h4 d hd
  | (false,cs) :: r,K,hs,h=>by
    simp only [shOk,Bool.and_eq_true,Bool.not_eq_true'] at hs
    obtain ⟨l,h1,h2,h3⟩:=exC_out (show exC cs _ from h)
    obtain ⟨q,h4,h5⟩:=exS_out (sh:=r) hs.2 h3
    refine ⟨_,fun d hd=>?_,h5⟩
    rcases List.mem_cons.1 hd with rfl | hd
    · cases l with
      | nil=>cases cs <;> simp at h1 hs
      | cons c l=>exact arg_of_cell (h2 c (List.mem_cons_self ..))
    · exact h4 d hd
structure EnvOk (P : Program) (E : Env) : Prop where
  ty : TysOk P E.ty
  sh : ∀ f,shOk (E.sh f) = true
  ok : ∀ f ds l,E.ok f ds l → Ok P f ds l
section
variable {P : Program} {E : Env} {G : Gh} {m : Mem} {a : Act} {w : World} {o : Oper} {id : Nat}
theorem opP_out (hE : EnvOk P E) {K : D → Mem → Prop} (h : opP E id o m K) : ∃ d ws,opS E id (dop E.ty m id o) d ws ∧ K d ws:=by
  unfold opP at h
  unfold opS
  split at h
  · exact h.elim
  · exact ⟨_,_,⟨rfl,rfl⟩,h⟩
  · exact ⟨_,_,⟨rfl,rfl⟩,h⟩
  · exact ⟨_,_,⟨h.1,rfl,rfl⟩,h.2⟩
  · obtain ⟨h0,h1⟩:=h
    obtain ⟨l,e1,e2,e3,e4⟩:=exC_out h1
    exact ⟨_,_,⟨h0,l,e1,e3,rfl,rfl⟩,e4⟩
  · obtain ⟨l,e1,e2,e3⟩:=exS_out (hE.sh _) h
    exact ⟨_,_,⟨l,e1,e2,rfl,rfl⟩,e3⟩
def simple : R → Prop
  | .val _=>True
  | .bad=>True
  | _=>False
def plain : R → Prop
  | .val _=>True
  | .bad=>True
  | .eff _ _ ws=>ws = []
  | _=>False
def effs : R → Prop
  | .bad=>True
  | .eff _ _ _=>True
  | _=>False
theorem simple_if {b : Bool} {x y : R} (hx : simple x) (hy : simple y) : simple (bif b then x else y):=by cases b <;> assumption
theorem effs_if {b : Bool} {x y : R} (hx : effs x) (hy : effs y) : effs (bif b then x else y):=by cases b <;> assumption
theorem plain_if {b : Bool} {x y : R} (hx : plain x) (hy : plain y) : plain (bif b then x else y):=by cases b <;> assumption
theorem dLoad_simple (m : Mem) (y : Ty) (x : D) : simple (dLoad m y x):=by
  unfold dLoad
  split
  · split
    · exact simple_if trivial trivial
    · trivial
    · exact simple_if trivial trivial
  · split
    · split <;> trivial
    · trivial
    · split <;> trivial
  · trivial
theorem dPick_simple (a b c : D) : simple (dPick a b c):=by unfold dPick;split <;> trivial
theorem dFieldAddr_simple (ty : Tys) (y : Ty) (f : Nat) (x : D) : simple (dFieldAddr ty y f x):=by
  unfold dFieldAddr
  split
  · split
    · refine simple_if trivial ?_
      split <;> trivial
    · trivial
  · trivial
theorem dField_simple (ty : Tys) (y : Ty) (f : Nat) (x : D) : simple (dField ty y f x):=by
  unfold dField
  split
  · split
    · split
      · split <;> trivial
      · trivial
      · split <;> trivial
    · trivial
  · trivial
theorem dBin_plain (op : BinOp) (x y : D) : plain (dBin op x y):=by
  unfold dBin
  split
  · refine plain_if ?_ trivial
    split <;> first | trivial | rfl
  · split <;> first | trivial | rfl
  · trivial
def puts : R → Prop
  | .bad=>True
  | .put _ _=>True
  | _=>False
theorem puts_if {b : Bool} {x y : R} (hx : puts x) (hy : puts y) : puts (bif b then x else y):=by cases b <;> assumption
theorem dStore_puts (m : Mem) (y : Ty) (x p : D) : puts (dStore m y x p):=by
  unfold dStore
  split
  · split
    · exact puts_if trivial trivial
    · trivial
  · trivial
theorem of_puts {E : Env} {id : Nat} {r : R} {d : D} {ws : Mem} (hr : puts r) (h : opS E id r d ws) : r = .put d ws:=by
  cases r with
  | put d' ws'=>obtain ⟨rfl,rfl⟩:=h;rfl
  | bad=>exact h.elim
  | _=>exact hr.elim
theorem dSlice_effs (b : Bool) (sz : Nat) (x : D) (lo hi : Option D) : effs (dSlice b sz x lo hi):=by unfold dSlice;split <;> trivial
theorem dAppend_effs (m : Mem) (id : Nat) (e : TypeId) (y : Ty) (s x : D) : effs (dAppend m id e y s x):=by
  unfold dAppend
  split
  · trivial
  · split
    · exact effs_if trivial trivial
    · trivial
  · trivial
theorem of_simple {E : Env} {id : Nat} {r : R} {d : D} {ws : Mem} (hr : simple r) (h : opS E id r d ws) : r = .val d ∧ ws = []:=by
  cases r with
  | val d'=>obtain ⟨rfl,rfl⟩:=h;exact ⟨rfl,rfl⟩
  | bad=>exact h.elim
  | _=>exact hr.elim
theorem of_plain {E : Env} {id : Nat} {r : R} {d : D} {ws : Mem} (hr : plain r) (h : opS E id r d ws) : (r = .val d ∨ ∃ p : Prop,r = .eff p d [] ∧ p) ∧ ws = []:=by
  cases r with
  | val d'=>obtain ⟨rfl,rfl⟩:=h;exact ⟨.inl rfl,rfl⟩
  | bad=>exact h.elim
  | eff p d' ws'=>obtain ⟨hp,rfl,rfl⟩:=h;obtain rfl:=(show ws = [] from hr);exact ⟨.inr ⟨p,rfl,hp⟩,rfl⟩
  | _=>exact hr.elim
theorem of_effs {E : Env} {id : Nat} {r : R} {d : D} {ws : Mem} (hr : effs r) (h : opS E id r d ws) : ∃ p : Prop,r = .eff p d ws ∧ p:=by
  cases r with
  | eff p d' ws'=>obtain ⟨hp,rfl,rfl⟩:=h;exact ⟨p,rfl,hp⟩
  | bad=>exact h.elim
  | _=>exact hr.elim
theorem op_sound (hE : EnvOk P E) (h : Sim E.n G m a w) (hb : G.box id = none) (ht : G.tok id = none) {d : D} {ws : Mem} (hs : opS E id (dop E.ty m id o) d ws) : OpOk P o G a w id d ws:=by
  have hT:=hE.ty
  unfold dop at hs
  split at hs
  · rename_i x e;obtain ⟨rfl,rfl⟩:=hs;exact ok_move h (.inl e)
  · rename_i x e;obtain ⟨rfl,rfl⟩:=hs;exact ok_move h (.inr e)
  · rename_i c x y e
    obtain ⟨hr,rfl⟩:=of_simple (dPick_simple _ _ _) hs
    exact ok_pick h e hr
  · rename_i t e
    split at hs
    · rename_i y hy
      obtain ⟨rfl,rfl⟩:=hs
      exact ok_alloc h (hT t y hy) hb e
    · exact hs.elim
  · rename_i t x e
    split at hs
    · rename_i l hl
      obtain ⟨rfl,rfl⟩:=hs
      exact ok_box h hb e hl
    · exact hs.elim
  · rename_i t ps e
    split at hs
    · rename_i y hy
      split at hs
      · rename_i fs hk
        cases hall : (fs.all fun f=>(tyOf E.ty f.2).isSome) with
        | false=>rw [hall] at hs;exact hs.elim
        | true =>
          rw [hall] at hs
          simp only [cond_true] at hs
          split at hs
          · rename_i l hl
            obtain ⟨rfl,rfl⟩:=hs
            exact ok_build hT h (hT t y hy) hk e hall hl
          · exact hs.elim
      · exact hs.elim
    · exact hs.elim
  · rename_i t k ps e
    split at hs
    · rename_i y hy
      split at hs
      · rename_i el hk
        split at hs
        · rename_i z hz
          cases hc : (z.size.beq 0 || !(k * z.size).ble 16777216) with
          | true=>rw [hc] at hs;exact hs.elim
          | false =>
            rw [hc] at hs
            simp only [cond_false] at hs
            rw [Bool.or_eq_false_iff] at hc
            split at hs
            · rename_i es hes
              obtain ⟨rfl,rfl⟩:=hs
              refine ok_buildSlice h (hT t y hy) hk (hT el z hz) ht e (Nat.pos_of_ne_zero fun e=>by rw [e] at hc;exact absurd hc.1 (by decide)) (Nat.le_of_ble_eq_true (by simpa using hc.2)) hes
            · exact hs.elim
        · exact hs.elim
      · exact hs.elim
    · exact hs.elim
  · rename_i t x e
    split at hs
    · rename_i y hy
      obtain ⟨hr,rfl⟩:=of_simple (dLoad_simple _ _ _) hs
      exact ok_load h (hT t y hy) e hr
    · exact hs.elim
  · rename_i t p x e
    split at hs
    · rename_i y hy
      exact ok_store h (hT t y hy) e (of_puts (dStore_puts _ _ _ _) hs)
    · exact hs.elim
  · rename_i x e
    split at hs
    · rename_i b off e1
      obtain ⟨rfl,rfl⟩:=hs
      exact ok_nil h e (.inl ⟨b,off,e1,rfl⟩)
    · rename_i l off e1
      obtain ⟨rfl,rfl⟩:=hs
      exact ok_nil h e (.inr ⟨l,off,e1,rfl⟩)
    · exact hs.elim
  · rename_i op t x y yt e
    obtain ⟨hr,rfl⟩:=of_plain (dBin_plain _ _ _) hs
    exact ok_bin h e hr
  · rename_i t x e
    split at hs
    · rename_i k i e1
      obtain ⟨rfl,rfl⟩:=hs
      exact ok_neg h e e1
    · exact hs.elim
  · rename_i t x e
    split at hs
    · rename_i b e1
      obtain ⟨rfl,rfl⟩:=hs
      exact ok_not h e e1
    · exact hs.elim
  · rename_i s t x e
    split at hs
    · rename_i z y k i hz hy e1
      split at hs
      · rename_i k1 k2 h1 h2
        obtain ⟨rfl,rfl⟩:=hs
        have hkz:=(hT s z hz).kd
        rw [h1] at hkz
        exact ok_convert h (hT t y hy) e h2 e1 ⟨_,hkz⟩
      · exact hs.elim
    · exact hs.elim
  · rename_i t x f e
    split at hs
    · rename_i y hy
      obtain ⟨hr,rfl⟩:=of_simple (dFieldAddr_simple _ _ _ _) hs
      exact ok_fieldAddr hT h (hT t y hy) e hr
    · exact hs.elim
  · rename_i t x f e
    split at hs
    · rename_i y hy
      obtain ⟨hr,rfl⟩:=of_simple (dField_simple _ _ _ _) hs
      exact ok_field hT h (hT t y hy) e hr
    · exact hs.elim
  · rename_i t x i e
    split at hs
    · rename_i y k es kd j hy e1 e2
      split at hs
      · rename_i el hk
        split at hs
        · rename_i cs hcs
          cases hc : szIs (tyOf E.ty el) cs.length with
          | false=>rw [hc] at hs;exact hs.elim
          | true =>
            rw [hc] at hs
            obtain ⟨h0,l,h1,h2,rfl,rfl⟩:=hs
            cases hz : tyOf E.ty el with
            | none=>rw [hz] at hc;cases hc
            | some z =>
              rw [hz] at hc
              exact ok_idx h (hT t y hy) (hT el z hz) hk e e1 e2 h0 h2 (by rw [h1];exact (Nat.eq_of_beq_eq_true hc).symm)
        · exact hs.elim
      · exact hs.elim
    · exact hs.elim
  · rename_i t x i e
    split at hs
    · rename_i y s kd j hy e1 e2
      split at hs
      · rename_i hk
        obtain ⟨hp,rfl,rfl⟩:=hs
        exact ok_index h (hT t y hy) e hk e1 e2 hp
      · exact hs.elim
    · exact hs.elim
  · rename_i t x lo hi e
    split at hs
    · rename_i y hy
      split at hs
      · rename_i hk
        obtain ⟨p,hr,hp⟩:=of_effs (dSlice_effs _ _ _ _ _) hs
        exact ok_slice_s h (hT t y hy) hk e hr hp
      · rename_i el hk
        split at hs
        · rename_i z hz
          obtain ⟨p,hr,hp⟩:=of_effs (dSlice_effs _ _ _ _ _) hs
          exact ok_slice_l h (hT t y hy) hk (hT el z hz) e hr hp
        · exact hs.elim
      · exact hs.elim
    · exact hs.elim
  · rename_i x i e
    split at hs
    · rename_i l e1
      split at hs
      · rename_i d' e2
        obtain ⟨rfl,rfl⟩:=hs
        exact ok_extract h e e1 e2
      · exact hs.elim
    · exact hs.elim
  · rename_i f args ats e
    cases hc : (args.toList.map (ev m)).all argD with
    | false=>rw [hc] at hs;exact hs.elim
    | true =>
      rw [hc] at hs
      obtain ⟨l,h1,h2,rfl,rfl⟩:=hs
      exact ok_call h hb ht e rfl rfl hc (hE.ok _ _ _ h2) h1
  · rename_i t args ats e
    split at hs
    · rename_i f ca cb e1
      cases hq : ca.size.beq 0 && cb.size.beq 0 && (args.toList.map (ev m)).all argD with
      | false=>rw [hq] at hs;exact hs.elim
      | true =>
        rw [hq] at hs
        obtain ⟨l,h1,h2,rfl,rfl⟩:=hs
        rw [Bool.and_eq_true,Bool.and_eq_true] at hq
        have hca : ca = #[]:=Array.eq_empty_of_size_eq_zero (Nat.eq_of_beq_eq_true hq.1.1)
        have hcb : cb = #[]:=Array.eq_empty_of_size_eq_zero (Nat.eq_of_beq_eq_true hq.1.2)
        have hx:=h.ev (.tmp t)
        have hx' : Rep G w (a.eval (.tmp t)) (.v (.func (.func f) ca cb)):=by
          rw [← e1];exact hx
        exact ok_call h hb ht e rfl (by rw [(rep_v hx').1,hca,hcb]) hq.2 (hE.ok _ _ _ h2) h1
    · exact hs.elim
  · rename_i args ats e
    split at hs
    · rename_i x t e1 e2
      split at hs
      · rename_i y s hy e3
        split at hs
        · rename_i hk
          obtain ⟨rfl,rfl⟩:=hs
          exact ok_len_s h (hT t y hy) hk e rfl e1 e2 e3
        · exact hs.elim
      · rename_i y k es hy e3
        split at hs
        · rename_i el hk
          obtain ⟨rfl,rfl⟩:=hs
          exact ok_len_l h (hT t y hy) hk e rfl e1 e2 e3
        · exact hs.elim
      · exact hs.elim
    · exact hs.elim
  · rename_i args ats e
    split at hs
    · rename_i s x t u e1 e2
      split at hs
      · rename_i y hy
        split at hs
        · rename_i el hk
          split at hs
          · rename_i z hz
            cases hc : (t.beq u && !z.size.beq 0 && z.bytes.ble 1048576) with
            | false=>rw [hc] at hs;exact hs.elim
            | true =>
              rw [hc] at hs
              rw [Bool.and_eq_true,Bool.and_eq_true] at hc
              obtain rfl:=Nat.eq_of_beq_eq_true hc.1.1
              obtain ⟨p,hr,hp⟩:=of_effs (dAppend_effs _ _ _ _ _ _) hs
              refine ok_append h (hT t y hy) hk (hT el z hz) (Nat.pos_of_ne_zero fun e=>by rw [e] at hc;exact absurd hc.1.2 (by decide)) (Nat.le_of_ble_eq_true hc.2) ht e rfl e1 e2 hr hp
          · exact hs.elim
        · exact hs.elim
      · exact hs.elim
    · exact hs.elim
  · rename_i args ats e
    split at hs
    · rename_i x y e1
      split at hs
      · rename_i k i k' j e2 e3
        obtain ⟨rfl,rfl⟩:=hs
        exact ok_min h e rfl e1 e2 e3
      · exact hs.elim
    · exact hs.elim
  · rename_i args ats e
    split at hs
    · rename_i x y e1
      split at hs
      · rename_i k i k' j e2 e3
        obtain ⟨rfl,rfl⟩:=hs
        exact ok_max h e rfl e1 e2 e3
      · exact hs.elim
    · exact hs.elim
  · exact hs.elim
end
end Go.Proofs.YthadnhpkeljdoaaGreat.pv
namespace Go.Proofs.YthadnhpkeljdoaaGreat.Lx
open Go.RowKit
theorem next_of {x y : Lex} {l : List UInt8} {k : Int} {n : Nat} (hf : find (tried x) l = some (k,n)) (ht : turn x k (l.take n) = .ok y) : next x l = .ok (k,n,y):=by
 unfold next;rw [hf];simp only;rw [ht]
theorem find_q_in (r : List UInt8) : find inside (34 :: r) = some (11,1):=rfl
theorem find_o_in (r : List UInt8) : find inside (92 :: 40 :: r) = some (9,2):=rfl
theorem find_c_clo (r : List UInt8) : find closing (41 :: r) = some (10,1):=rfl
end Go.Proofs.YthadnhpkeljdoaaGreat.Lx
