/- Ground of the law: BaIter, PvI, NdCount, NdClone, PaP2, LxTurn, NdShow0. -/
import Derived.Test.YthadnhpkeljdoaaQh12
import Derived.Test.YthadnhpkeljdoaaQh02
import Derived.Shelf.Abstract
import Derived.Laws.EntriesVeiled
import Derived.Test.YthadnhpkeljdoaaQh00
import Derived.Lib.ItoaLen
import Derived.Lib.QuoteLoop
set_option maxRecDepth 100000
set_option maxHeartbeats 8000000
set_option linter.unusedVariables false
set_option linter.unusedSimpArgs false
namespace Go.Proofs.Ythadnhpkeljdoaa.nd
open Go.Lib (hid)
open Go.RowKit sx ed
attribute [local go_sem] Oper.semAt_some
def Fo.walkB (p : List Nat) (i : Nat) (f : Fo) : List Told:=(f.walk p i).filter fun t=>t.2.isBr
def Nd.walkB (p : List Nat) (x : Nd) : List Told:=(x.walk p).filter fun t=>t.2.isBr
theorem Fo.walkB_snoc (p : List Nat) {f : Fo} {i j : Nat} {x : Nd} (h : f.get? i = some x) : (f.take (i + 1)).walkB p j = (f.take i).walkB p j ++ x.walkB (p ++ [j + i]):=by
  unfold Fo.walkB Nd.walkB
  rw [Fo.walk_snoc p h,List.filter_append]
theorem Fo.walkB_split (p : List Nat) {f : Fo} {i : Nat} {x : Nd} (h : f.get? i = some x) : ∃ rest,f.walkB p 0 = (f.take i).walkB p 0 ++ (x.walkB (p ++ [i]) ++ rest):=by
  obtain ⟨rest,hr⟩:=Fo.walk_split p h
  exact ⟨rest.filter fun t=>t.2.isBr,by unfold Fo.walkB Nd.walkB;rw [hr,List.filter_append,List.filter_append]⟩
def TellsB (n0 : Nat) (x : Told) (D : Nat → Prop) (W : World) (vs : Array Value) : Prop:=∃ pv,vs = #[pv] ∧ IntsAt D W pv (x.1.map fun (n : Nat)=>(n : Int))
theorem isBr_in (x : Nd) (w : World) (ao : Option Addr) (cap : Nat) (n : Nat) :
    CallsIn Fence.wide n Try.prog 13 #[.agg #[.int .i64 x.k,.string x.t,.slice ao x.kids.len cap]] w fun e w' =>
      e = .returned (.bool x.isBr) ∧ w' = w.alloc (.cells #[.int .i64 x.k,.string x.t,.slice ao x.kids.len cap] 25):=by
  have hb : x.isBr = (x.k == 12 && x.kids.len == 1):=rfl
  obtain ⟨k,t,f⟩:=x
  dsimp only at hb ⊢
  obtain ⟨m,hm⟩ : ∃ m,f.len = m:=⟨_,rfl⟩
  rw [hm] at hb ⊢
  cases h1 : k == 12
  · rw [h1] at hb
    have hb : Nd.isBr ⟨k,t,f⟩ = false:=hb
    rw [hb]
    clear hb
    refine callsIn_of_wp Try.func13 rfl trivial ?_ rfl
    simp only [Try.ntmps13,List.size_toArray,List.length_cons,List.length_nil,Nat.reduceAdd,Nat.reduceSub,Array.replicate_succ,Array.replicate_zero,List.push_toArray,List.append_toArray,List.nil_append,List.cons_append]
    gi_wp2_with fail
    go_ret
    exact ⟨rfl,rfl⟩
  · rw [h1] at hb
    have hb : Nd.isBr ⟨k,t,f⟩ = (m == 1):=hb
    rw [hb]
    have h2 : ((m : Int) == 1) = (m == 1):=by
      cases e : m == 1
      · rw [beq_eq_false_iff_ne] at e ⊢;omega
      · rw [eq_of_beq e];rfl
    clear hb
    obtain ⟨q,hq⟩ : ∃ q,(m == 1) = q:=⟨_,rfl⟩
    rw [hq] at h2 ⊢
    clear hq
    refine callsIn_of_wp Try.func13 rfl trivial ?_ rfl
    simp only [Try.ntmps13,List.size_toArray,List.length_cons,List.length_nil,Nat.reduceAdd,Nat.reduceSub,Array.replicate_succ,Array.replicate_zero,List.push_toArray,List.append_toArray,List.nil_append,List.cons_append]
    gi_wp2_with fail
    go_ret
    exact ⟨rfl,rfl⟩
structure InvB (n0 Ws Bi By Bp Bd l : Nat) (J : List Told → (Nat → Prop) → World → Prop) (pre : List Told) (p : List Nat) (D : Nat → Prop) (v : Value) (V : World) : Prop where
  j : J pre D V
  lo : ∀ k,D k → Ws ≤ k ∧ k < V.heap.size
  dy : D By
  dp : D Bp
  dd : D Bd
  ky : Blk V By 62 #[.func (.yield l) #[] #[]]
  kp : Blk V Bp 31 #[v]
  kd : Blk V Bd 41 #[.func (.func 24) #[] #[.pointer (some ⟨Bi,0,none⟩),.pointer (some ⟨By,0,none⟩),.pointer (some ⟨Bp,0,none⟩),.pointer (some ⟨Bd,0,none⟩)]]
  row : V.ownsRow Ws 3 1 v p.length (nums p)
  own : ∀ k,v.ownBlock = some k → D k
section
variable {n0 Ws Bi By Bp Bd l : Nat} {J : List Told → (Nat → Prop) → World → Prop} {pre : List Told} {p : List Nat} {D : Nat → Prop} {v : Value} {V : World}
theorem InvB.alloc (h : InvB n0 Ws Bi By Bp Bd l J pre p D v V) (hJ : AbD J) (hn : n0 ≤ Ws) (o : Obj) :
    InvB n0 Ws Bi By Bp Bd l J pre p (fun k=>D k ∨ k = V.heap.size) v (V.alloc o) ∧ Fr n0 Bp D (fun k=>D k ∨ k = V.heap.size) v v V (V.alloc o):=by
  have hp:=(h.lo Bp h.dp)
  refine ⟨⟨hJ _ D _ V _ h.j (But.alloc (But.refl _ _ _) (Nat.le_refl _) o) (fun k hk=>hk.imp id (fun e=>by omega)),fun k hk=>?_,.inl h.dy,.inl h.dp,.inl h.dd,h.ky.alloc o,h.kp.alloc o,h.kd.alloc o,h.row.alloc o,fun k hk=>.inl (h.own k hk)⟩,
    ⟨(Below.refl _ V).alloc (by omega) o,fun k hk _ _=>Below.heap_alloc _ _ _ (h.lo k hk).2,fun k hk=>.inl hk,fun k hk=>.inl hk⟩⟩
  rcases hk with hk | rfl
  · have:=h.lo k hk;simp;omega
  · simp;omega
theorem InvB.yielded (h : InvB n0 Ws Bi By Bp Bd l J pre p D v V) {x : Told} {V' : World} (hj : J (pre ++ [x]) D V') (hk : KD n0 D V V') : InvB n0 Ws Bi By Bp Bd l J (pre ++ [x]) p D v V' ∧ Fr n0 Bp D D v v V V':=by
  have hb : ∀ k,D k → V'.heap[k]? = V.heap[k]?:=fun k hd=>hk.2 k hd (h.lo k hd).2
  exact ⟨⟨hj,fun k hd=>⟨(h.lo k hd).1,Nat.lt_of_lt_of_le (h.lo k hd).2 hk.1.size⟩,h.dy,h.dp,h.dd,(hb _ h.dy).trans h.ky,(hb _ h.dp).trans h.kp,(hb _ h.dd).trans h.kd,own_keep h.row (fun k e=>hb k (h.own k e)),h.own⟩,
    ⟨hk.1,fun k hd _ _=>hb k hd,fun _ e=>e,fun _ e=>.inl e⟩⟩
theorem InvB.pushed (h : InvB n0 Ws Bi By Bp Bd l J pre p D v V) (hJ : AbD J) (hn : n0 ≤ Ws) {i : Nat} {v' : Value} {w' : World} {o : Obj} (hown : w'.ownsRow Ws 3 1 v' (p.length + 1) (nums p ++ [.int .i64 (i : Int)])) (hg : (V.alloc o).grownBy w' v.ownBlock) (hat : v'.ownBlock = v.ownBlock ∨ v'.ownBlock = some (V.alloc o).heap.size) :
    InvB n0 Ws Bi By Bp Bd l J pre (p ++ [i]) (fun k=>D k ∨ (V.heap.size ≤ k ∧ k < w'.heap.size)) v' (w'.setCell ⟨Bp,0,none⟩ v') ∧ Fr n0 Bp D (fun k=>D k ∨ (V.heap.size ≤ k ∧ k < w'.heap.size)) v v' V (w'.setCell ⟨Bp,0,none⟩ v'):=by
  have hsz:=hg.size
  rw [World.size_alloc] at hsz hat
  have hbp:=h.lo Bp h.dp
  have keep : ∀ k,k < V.heap.size → k ≠ Bp → v.ownBlock ≠ some k → (w'.setCell ⟨Bp,0,none⟩ v').heap[k]? = V.heap[k]?:=fun k hk hp ho=>by
    rw [Below.heap_setCell _ _ _ k (fun e=>hp e),hg.block k (by rw [World.size_alloc];omega) (fun e=>ho e.symm)]
    exact Below.heap_alloc _ _ _ hk
  have ny:=own_no h.row h.ky (by decide)
  have np:=own_no h.row h.kp (by decide)
  have nd:=own_no h.row h.kd (by decide)
  have nyp : By ≠ Bp:=blk_ne h.ky h.kp (by decide)
  have ndp : Bd ≠ Bp:=blk_ne h.kd h.kp (by decide)
  have hkp : Blk w' Bp 31 #[v]:=(hg.block Bp (by rw [World.size_alloc];omega) (fun e=>np e.symm)).trans (h.kp.alloc o)
  have nvp : v'.ownBlock ≠ some Bp:=own_no hown hkp (by decide)
  have hbut : But V.heap.size D V (w'.setCell ⟨Bp,0,none⟩ v'):=by
    refine ⟨hg.os,hg.tape,hg.output,by simp;omega,fun k hk hd=>keep k hk (fun e=>hd (e ▸ h.dp)) (fun e=>hd (h.own k e))⟩
  refine ⟨⟨hJ _ D _ V _ h.j hbut (fun k hk=>hk.imp id (fun e=>e.1)),fun k hk=>?_,.inl h.dy,.inl h.dp,.inl h.dd,(keep By (h.lo By h.dy).2 nyp ny).trans h.ky,hkp.set _,(keep Bd (h.lo Bd h.dd).2 ndp nd).trans h.kd,?_,fun k hk=>?_⟩,
    ⟨?_,fun k hk hp ho=>keep k (h.lo k hk).2 hp ho,fun k hk=>.inl hk,fun k hk=>?_⟩⟩
  · rcases hk with hk | hk
    · have:=h.lo k hk;simp;omega
    · simp;omega
  · rw [List.length_append,nums_snoc]
    exact own_keep hown (fun k hk=>Below.heap_setCell _ _ _ k (fun e=>nvp (by rw [hk];exact congrArg some e)))
  · rcases hat with e | e
    · exact .inl (h.own k (e ▸ hk))
    · rw [e] at hk
      cases hk
      have:=(hown.lt _ e).2
      exact .inr ⟨by omega,by omega⟩
  · refine (Below.grown ((Below.refl n0 V).alloc (by omega) o) hg (by simp;omega) (fun k hk=>?_)).setCell (p:=⟨Bp,0,none⟩) (by simp;omega) _
    have:=(h.lo k (h.own k hk)).1
    omega
  · rcases hat with e | e
    · exact .inl (e ▸ hk)
    · rw [e] at hk
      cases hk
      exact .inr (by omega)
theorem InvB.popped {i g cap : Nat} (h : InvB n0 Ws Bi By Bp Bd l J pre (p ++ [i]) D (.slice (some ⟨g,0,none⟩) (p.length + 1) cap) V) (hJ : AbD J) (hn : n0 ≤ Ws) :
    InvB n0 Ws Bi By Bp Bd l J pre p D (.slice (some ⟨g,0,none⟩) p.length cap) (V.setCell ⟨Bp,0,none⟩ (.slice (some ⟨g,0,none⟩) p.length cap)) ∧ Fr n0 Bp D D (.slice (some ⟨g,0,none⟩) (p.length + 1) cap) (.slice (some ⟨g,0,none⟩) p.length cap) V (V.setCell ⟨Bp,0,none⟩ (.slice (some ⟨g,0,none⟩) p.length cap)):=by
  have hbp:=h.lo Bp h.dp
  have ny:=own_no h.row h.ky (by decide)
  have np:=own_no h.row h.kp (by decide)
  have nd:=own_no h.row h.kd (by decide)
  have nyp : By ≠ Bp:=blk_ne h.ky h.kp (by decide)
  have ndp : Bd ≠ Bp:=blk_ne h.kd h.kp (by decide)
  have keep : ∀ k,k ≠ Bp → (V.setCell ⟨Bp,0,none⟩ (.slice (some ⟨g,0,none⟩) p.length cap)).heap[k]? = V.heap[k]?:=fun k hp=>Below.heap_setCell _ _ _ k (fun e=>hp e)
  have hrow:=h.row
  rw [List.length_append,nums_snoc] at hrow
  have hg : g ≠ Bp:=fun e=>np (by rw [← e];rfl)
  have htk : V.ownsRow Ws 3 1 (.slice (some ⟨g,0,none⟩) p.length cap) p.length (nums p):=by
    refine ⟨by simp [nums],?_⟩
    rcases hrow.2 with ⟨h1,_⟩ | ⟨g',cap',cur,h1,h2,h3,h4,h5,h6,h7⟩
    · cases h1
    · cases h1
      refine .inr ⟨g,cap,cur,rfl,h2,h3,by simp at h4;omega,h5,h6,?_⟩
      have h8:=congrArg (List.take p.length) h7
      rw [List.take_take] at h8
      have hl : (nums p).length = p.length:=by simp [nums]
      rw [← hl,List.take_left,hl] at h8
      rw [← h8]
      simp
  refine ⟨⟨hJ _ D _ V _ h.j ((But.refl _ _ _).setCell (p:=⟨Bp,0,none⟩) (fun _=>h.dp) _) (fun k hk=>.inl hk),fun k hk=>by have:=h.lo k hk;simp;omega,h.dy,h.dp,h.dd,(keep By nyp).trans h.ky,h.kp.set _,(keep Bd ndp).trans h.kd,own_keep htk (fun k hk=>keep k (fun e=>hg (by cases hk;exact e))),fun k hk=>h.own k hk⟩,
    ⟨(Below.refl _ V).setCell (p:=⟨Bp,0,none⟩) (by simp;omega) _,fun k _ hp _=>keep k hp,fun _ e=>e,fun k hk=>.inl hk⟩⟩
end
def DownB (x : Nd) : Prop:=∀ (n0 Ws Bi By Bp Bd l : Nat) (J : List Told → (Nat → Prop) → World → Prop) (hJ : AbD J) (hn : n0 ≤ Ws) (hIs : ∀ pre D W,J pre D W → Blk W Bi 41 #[.func (.func 13) #[] #[]]) (ys : List Told)
  (hY : ∀ m pre y rest D W1 vs,ys = pre ++ y :: rest → J pre D W1 → (∀ k,D k → Ws ≤ k ∧ k < W1.heap.size) → TellsB n0 y D W1 vs → YieldAt Fence.wide m Try.prog l vs W1 fun e W'=>e = .returned (.bool true) ∧ J (pre ++ [y]) D W' ∧ KD n0 D W1 W')
  (n : Nat) (p : List Nat) (pre rest : List Told) (D : Nat → Prop) (v : Value) (V : World) (u : Value),p.length + x.count ≤ 1000000 → InvB n0 Ws Bi By Bp Bd l J pre p D v V → NdAt (Lt n0) V x u → ys = pre ++ (x.walkB p ++ rest) →
  CallsIn Fence.wide n Try.prog 24 #[u,.pointer (some ⟨Bi,0,none⟩),.pointer (some ⟨By,0,none⟩),.pointer (some ⟨Bp,0,none⟩),.pointer (some ⟨Bd,0,none⟩)] V fun e V' =>
    e = .returned (.bool true) ∧ ∃ D' v',InvB n0 Ws Bi By Bp Bd l J (pre ++ x.walkB p) p D' v' V' ∧ Fr n0 Bp D D' v v' V V'
theorem downB_ok (x : Nd) : DownB x:=by
  refine Nd.induct (p:=DownB) (fun x hp n0 Ws Bi By Bp Bd l J hJ hn hIs ys hY n p pre rest D v V u hlen hInv hu hys=>?_) x
  obtain ⟨s,rfl,hs⟩:=hu
  obtain ⟨ao,cap,rfl,hm⟩:=hs.slice
  obtain ⟨k,t,f⟩:=x
  dsimp only at hs hm hp ⊢
  unfold maxLen at hm
  obtain ⟨hI0,hF0⟩:=hInv.alloc hJ hn (.cells #[.int .i64 k,.string t,.slice ao f.len cap] 25)
  obtain ⟨V0,hV0⟩ : ∃ V0,V.alloc (.cells #[.int .i64 k,.string t,.slice ao f.len cap] 25) = V0:=⟨_,rfl⟩
  have hk0 : Blk V0 V.heap.size 25 #[.int .i64 k,.string t,.slice ao f.len cap]:=by rw [← hV0];exact Blk.new V _ _
  rw [hV0] at hI0 hF0
  have hi0:=hIs _ _ _ hI0.j
  obtain ⟨hI1,hF1⟩:=hI0.alloc hJ hn (.cells #[.int .i64 k,.string t,.slice ao f.len cap] 25)
  obtain ⟨V1,hV1⟩ : ∃ V1,V0.alloc (.cells #[.int .i64 k,.string t,.slice ao f.len cap] 25) = V1:=⟨_,rfl⟩
  have hk1 : Blk V1 V.heap.size 25 #[.int .i64 k,.string t,.slice ao f.len cap]:=by rw [← hV1];exact hk0.alloc _
  rw [hV1] at hI1 hF1
  have hF1:=hF0.trans hF1 (fun i hi=>(hInv.lo i hi).2)
  obtain ⟨D1,hD1⟩ : ∃ D1 : Nat → Prop,(fun k=>(D k ∨ k = V.heap.size) ∨ k = V0.heap.size) = D1:=⟨_,rfl⟩
  have hDb : D1 V.heap.size:=by rw [← hD1];exact .inl (.inr rfl)
  rw [hD1] at hI1 hF1
  clear hD1 hF0
  have hib:=fun m=>isBr_in ⟨k,t,f⟩ V0 ao cap m
  have hnbp0 : V.heap.size ≠ Bp:=blk_ne hk1 hI1.kp (by decide)
  have i1:=hi0.cell 0
  have c0:=hk0.cell 0;have c1:=hk0.cell 1;have c2:=hk0.cell 2
  have hcnt : Nd.walkB p ⟨k,t,f⟩ = (if Nd.isBr ⟨k,t,f⟩ then [(p,⟨k,t,f⟩)] else []) ++ f.walkB p 0:=by
    unfold Nd.walkB Nd.walk Fo.walkB
    rw [List.filter_cons]
    cases Nd.isBr ⟨k,t,f⟩ <;> rfl
  obtain ⟨m,hmm⟩ : ∃ m,f.len = m:=⟨_,rfl⟩
  have HIS:=hid hIs;have HCN:=hid hcnt
  cases hbr : Nd.isBr ⟨k,t,f⟩ with
  | false =>
    simp only [hbr] at hib hcnt
    obtain ⟨pr,hpr⟩ : ∃ pr,pre = pr:=⟨_,rfl⟩
    have HPR:=hid (show pre ++ Nd.walkB p ⟨k,t,f⟩ = pr ++ f.walkB p 0 by rw [hcnt,← hpr];rfl)
    rw [hpr] at hI1
    rw [← List.append_assoc,HPR.out,List.append_assoc] at hys
    obtain ⟨vo,vl,vc,rfl,hvl⟩ : ∃ vo vl vc,v = .slice vo vl vc ∧ vl = p.length:=by
      obtain ⟨a,c,e,_⟩:=own_len' hI1.row
      exact ⟨a,_,c,e,rfl⟩
    have nbp : V.heap.size ≠ Bp:=blk_ne hk1 hI1.kp (by decide)
    have nbv:=own_no hI1.row hk1 (by decide)
    have hV1l : ∀ i,D1 i → i < V1.heap.size:=fun i hi=>(hI1.lo i hi).2
    have HF1:=hid hF1;have HK1:=hid hk1;have HYS:=hid hys;have HM:=hid hmm;have HVL:=hid hvl;have HP:=hid hp;have HYY:=hid hY;have HINV:=hid hInv;have HLEN:=hid hlen;have HS:=hid hs;have HIB:=hid hib;have HV1:=hid hV1
    have HI2:=hid hI1;have HF2:=hid (Fr.refl n0 Bp D1 (.slice vo vl vc) V1);have HNB:=hid nbp;have HNV:=hid nbv;have HDB:=hid hDb
    clear hI1 hF1 hk1 hys hmm hvl hp hY hInv hlen hs hib hV1 nbp nbv hDb hI0 hk0 hi0 hIs hpr hcnt
    refine callsIn_of_wp Try.func24 rfl trivial ?_ rfl
    simp only [Try.ntmps24,List.size_toArray,List.length_cons,List.length_nil,Nat.reduceAdd,Nat.reduceSub,Array.replicate_succ,Array.replicate_zero,List.push_toArray,List.append_toArray,List.nil_append,List.cons_append]
    gi_wp2_with fail
    refine ⟨trivial,fun h=>(by cases h),?_⟩
    refine (HIB.out _).mono ?_
    rintro e Vx ⟨rfl,rfl⟩
    rw [HV1.out]
    have b2:=HK1.out.cell 2
    rw [HM.out] at b2 HK1
    clear hV0 i1 c0 c1 c2
    gi_wp2_with fail
    refine ⟨fun f h=>(by cases h),?_⟩
    gi_wp2_with fail
    gi_loopw [21] (fun i wr=>∃ (j : Nat) (D' : Nat → Prop) (v' : Value),i = .int .i64 (j : Int) ∧ j ≤ m ∧ InvB n0 Ws Bi By Bp Bd l J (pr ++ (f.take j).walkB p 0) p D' v' wr ∧ Fr n0 Bp D1 D' (.slice vo vl vc) v' V1 wr) (fun i _=>m - (intOf i).toNat)
    case atStart=>exact ⟨0,D1,_,rfl,Nat.zero_le _,by have:=HI2.out;cases f <;> (simp only [Fo.take,Fo.walkB,Fo.walk,List.filter_nil,List.append_nil];exact this),HF2.out⟩
    case round =>
      obtain ⟨j,D',v',rfl,hj,hI,hF⟩:=hrel
      have hbx : Blk wr V.heap.size 25 #[.int .i64 k,.string t,.slice ao m cap]:=(hF.keep _ HDB.out HNB.out HNV.out).trans HK1.out
      by_cases hlt : j < m
      · obtain ⟨x,hx⟩:=Fo.get_of_lt (f:=f) (i:=j) (by rw [HM.out];exact hlt)
        have hlt1 : (j : Int) < (m : Int):=by omega
        have hmb : m ≤ 9223372036854775807:=by have:=HM.out;omega
        have hkids : KidsAt (Lt n0) wr f (.slice ao m cap):=by
          have:=HS.out.below (HF1.out.low.trans hF.low) (Nat.le_refl _)
          rw [HM.out] at this
          exact this
        obtain ⟨g1,o1,ao1,cap1,rfl,hgl,hg1,d0,d1,d2,d3⟩:=hkids.get hx
        obtain ⟨hI3,hF3⟩:=hI.alloc hJ hn (.cells #[.int .i64 x.k,.string x.t,.slice ao1 x.kids.len cap1] 25)
        obtain ⟨V3,hV3⟩ : ∃ V3,wr.alloc (.cells #[.int .i64 x.k,.string x.t,.slice ao1 x.kids.len cap1] 25) = V3:=⟨_,rfl⟩
        have hk3 : Blk V3 wr.heap.size 25 #[.int .i64 x.k,.string x.t,.slice ao1 x.kids.len cap1]:=by rw [← hV3];exact Blk.new wr _ _
        rw [hV3] at hI3 hF3
        obtain ⟨D3,hD3⟩ : ∃ D3 : Nat → Prop,(fun k=>D' k ∨ k = wr.heap.size) = D3:=⟨_,rfl⟩
        have hDk : D3 wr.heap.size:=by rw [← hD3];exact .inr rfl
        rw [hD3] at hI3 hF3
        obtain ⟨uo,ul,uc,rfl,hul⟩ : ∃ vo vl vc,v' = .slice vo vl vc ∧ vl = p.length:=by
          obtain ⟨a,c,e,_⟩:=own_len' hI3.row
          exact ⟨a,_,c,e,rfl⟩
        obtain ⟨i0,hi,hz0,hz1,hz2⟩:=info_parts infoI
        have q1:=hI3.kp.cell 0
        have hrow3:=hI3.row
        have hpl : p.length ≤ 1000000:=by have:=HLEN.out;omega
        have HI3:=hid hI3;have HF3:=hid (hF.trans hF3 (fun i hi=>hV1l i hi));have HLW:=hid hF3.low;have HK3:=hid hk3;have HX:=hid hx;have HD3:=hid d3;have HUL:=hid hul
        clear hI hF hI3 hF3 hk3 hx d3 hD3 hkids hgl hg1 hul
        have hWs:=(HI3.out.lo _ hDk).1
        gi_wp2_with (gi_at_builtin;refine wpListIn_append_own_at _ rfl _ _ 31 rfl Ws 3 i0 _ 1 8 Try.underlying31 hi hz0 hz1 hz2 rfl (by decide) _ _ _ rfl (hrow3.alloc _) ⟨V3.heap.size,0,none⟩ 1 1 [.int .i64 (j : Int)] rfl rfl (cell_one_new _ _ _) (by simp [Value.oneCell']) (by unfold maxLen;omega) (by omega) (by have:=(HI3.out.lo _ hDk).2;simp;omega) ?_;intro v' w' hown' hgrow _ hat;obtain ⟨a7,c7,rfl,hc7⟩:=own_len' hown';obtain ⟨hI4,hF4⟩:=HI3.out.pushed hJ hn hown' hgrow hat;have hpb : Blk w' Bp 31 #[.slice uo ul uc]:=(hgrow.block Bp (by have:=HI3.out.kp.lt;simp;omega) (fun e=>own_no HI3.out.row HI3.out.kp (by decide) e.symm)).trans (HI3.out.kp.alloc _);have q2:=hpb.cell 0;have q3:=hpb.frozen 0;obtain ⟨V4,hV4⟩ : ∃ V4,w'.setCell ⟨Bp,0,none⟩ (.slice a7 (p.length + 1) c7) = V4:=⟨_,rfl⟩;rw [hV4] at hI4 hF4;obtain ⟨D4,hD4⟩ : ∃ D4 : Nat → Prop,(fun k=>D3 k ∨ (V3.heap.size ≤ k ∧ k < w'.heap.size)) = D4:=⟨_,rfl⟩;rw [hD4] at hI4 hF4;have hkb : Blk V4 wr.heap.size 25 #[.int .i64 x.k,.string x.t,.slice ao1 x.kids.len cap1]:=(hF4.keep _ hDk (blk_ne HK3.out HI3.out.kp (by decide)) (own_no HI3.out.row HK3.out (by decide))).trans HK3.out;have k0:=hkb.cell 0;have k1:=hkb.cell 1;have k2:=hkb.cell 2;have dd:=hI4.kd.cell 0;have HI4:=hid hI4;have HF4:=hid hF4;clear hI4 hF4 hpb hkb hown' hgrow hat hD4)
        refine ⟨trivial,fun h=>(by cases h),?_⟩
        obtain ⟨r0,hr0⟩:=Fo.walkB_split p HX.out
        have hkid : NdAt (Lt n0) V4 x (.agg #[.int .i64 x.k,.string x.t,.slice ao1 x.kids.len cap1]):=NdAt.mk (HD3.out.below (HLW.out.trans HF4.out.low) (Nat.le_refl _))
        have hIH:=HP.out.get HX.out n0 Ws Bi By Bp Bd l J hJ hn HIS.out ys HYY.out (n - 1) (p ++ [j]) (pr ++ (f.take j).walkB p 0) (r0 ++ rest) D4 _ V4 _ (by
          have h1:=HLEN.out
          have h2:=Fo.count_get HX.out
          simp only [Nd.count,List.length_append,List.length_cons,List.length_nil] at h1 h2 ⊢
          omega) HI4.out hkid (by rw [HYS.out,hr0];simp only [List.append_assoc])
        have HIH:=hid hIH
        clear hIH hkid hr0
        refine HIH.out.mono ?_
        rintro e V5 ⟨rfl,D5,v5,hI5,hF5⟩
        obtain ⟨g5,c5,rfl,hg5,hg6⟩:=hI5.row.form (by simp)
        have hr5:=hI5.row
        obtain ⟨ml,hml⟩ : ∃ ml,p.length + 1 = ml:=⟨_,rfl⟩
        obtain ⟨kl,hkl⟩ : ∃ kl,p.length = kl:=⟨_,rfl⟩
        have hlen5 : (p ++ [j]).length = ml:=by rw [List.length_append];exact hml
        rw [hlen5] at hI5 hF5 hr5
        have hq5:=hI5.kp
        have p5:=hq5.cell 0
        have p6:=hq5.frozen 0
        have hcap : ml ≤ c5:=by
          rcases hr5.2 with ⟨h1,_⟩ | ⟨g',cap',cur,h1,h2,h3,h4,_⟩
          · cases h1
          · cases h1;exact h4
        have hpop : InvB n0 Ws Bi By Bp Bd l J (pr ++ (f.take j).walkB p 0 ++ Nd.walkB (p ++ [j]) x) p D5 (.slice (some ⟨g5,0,none⟩) kl c5) (V5.setCell ⟨Bp,0,none⟩ (.slice (some ⟨g5,0,none⟩) kl c5)) ∧ Fr n0 Bp D5 D5 (.slice (some ⟨g5,0,none⟩) ml c5) (.slice (some ⟨g5,0,none⟩) kl c5) V5 (V5.setCell ⟨Bp,0,none⟩ (.slice (some ⟨g5,0,none⟩) kl c5)):=by
          rw [← hml] at hI5
          have:=hI5.popped hJ hn
          rw [hkl,← hkl,hml] at this
          rw [hkl] at this
          exact this
        have hsn:=Fo.walkB_snoc p (j:=0) HX.out
        rw [Nat.zero_add] at hsn
        have hI6:=hpop.1
        rw [show pr ++ (f.take j).walkB p 0 ++ Nd.walkB (p ++ [j]) x = pr ++ (f.take (j + 1)).walkB p 0 by rw [hsn];simp only [List.append_assoc]] at hI6
        have hF6:=(((HF3.out.trans HF4.out hV1l).trans hF5 hV1l).trans hpop.2 hV1l)
        have HI6:=hid hI6;have HF6:=hid hF6
        have hkm : kl < ml:=by omega
        have hkm1 : (kl : Int) < (ml : Int):=by omega
        have hk0 : (0 : Int) ≤ (kl : Int):=by omega
        have hkc : kl ≤ c5:=by omega
        have hkc1 : (kl : Int) ≤ (c5 : Int):=by omega
        have hw1 : wrap64 ((ml : Int) - 1) = (kl : Int):=by rw [IntWalk.wrap64_in _ (by omega)];omega
        have hw2 : IntKind.i64.wrap ((ml : Int) - 1) = (kl : Int):=(IntWalk.i64_left _).trans hw1
        clear hI5 hF5 hr5 hq5 hpop hsn hI6 hF6 hlen5 hml hkl hg5 hg6
        gi_wp2_with fail
        exact ⟨⟨j + 1,D5,_,by go_num,by omega,HI6.out,HF6.out⟩,by simp [intOf];omega⟩
      · obtain rfl : j = m:=by omega
        have hge : decide ((j : Int) < (j : Int)) = false:=by simp
        rw [Fo.take_all (by rw [HM.out];exact Nat.le_refl _)] at hI
        have HI:=hid hI
        have HFF:=hid (HF1.out.trans hF (fun i hi=>(HINV.out.lo i hi).2))
        clear hI hF
        gi_wp2_with fail
        go_ret
        exact ⟨rfl,D',v',by rw [HPR.out];exact HI.out,HFF.out⟩
  | true =>
    simp only [hbr] at hib hcnt
    obtain ⟨pr,hpr⟩ : ∃ pr,pre ++ [(p,(⟨k,t,f⟩ : Nd))] = pr:=⟨_,rfl⟩
    have HPR:=hid (show pre ++ Nd.walkB p ⟨k,t,f⟩ = pr ++ f.walkB p 0 by rw [hcnt,← hpr];simp)
    obtain ⟨fn,tmps,assign,body,hy,hR⟩:=hY (n - 1) pre (p,⟨k,t,f⟩) _ _ V1 #[v] (by rw [hys,hcnt];simp only [if_true,List.cons_append,List.nil_append];rfl) hI1.j hI1.lo ⟨v,rfl,own_ints hI1.row hI1.own⟩
    rw [← List.append_assoc,HPR.out,List.append_assoc] at hys
    obtain ⟨vo,vl,vc,rfl,hvl⟩ : ∃ vo vl vc,v = .slice vo vl vc ∧ vl = p.length:=by
      obtain ⟨a,c,e,_⟩:=own_len' hI1.row
      exact ⟨a,_,c,e,rfl⟩
    have y1:=hI1.ky.cell 0
    have p1:=hI1.kp.cell 0
    have HI1:=hid hI1;have HF1:=hid hF1;have HR:=hid hR;have HK1:=hid hk1;have HYS:=hid hys;have HM:=hid hmm;have HVL:=hid hvl;have HP:=hid hp;have HYY:=hid hY;have HINV:=hid hInv;have HLEN:=hid hlen;have HS:=hid hs;have HIB:=hid hib;have HV1:=hid hV1;have HQ:=hid hpr
    clear hI1 hF1 hR hk1 hys hmm hvl hp hY hInv hlen hs hib hV1 hI0 hk0 hi0 hIs hpr hcnt
    refine callsIn_of_wp Try.func24 rfl trivial ?_ rfl
    simp only [Try.ntmps24,List.size_toArray,List.length_cons,List.length_nil,Nat.reduceAdd,Nat.reduceSub,Array.replicate_succ,Array.replicate_zero,List.push_toArray,List.append_toArray,List.nil_append,List.cons_append]
    gi_wp2_with fail
    refine ⟨trivial,fun h=>(by cases h),?_⟩
    refine (HIB.out _).mono ?_
    rintro e Vx ⟨rfl,rfl⟩
    rw [HV1.out]
    gi_wp2_with fail
    refine ⟨fun h=>(by cases h),?_⟩
    refine HR.out.mono ?_
    rintro e V2 ⟨rfl,hj2,hk2⟩
    obtain ⟨hI2,hF2⟩:=HI1.out.yielded hj2 hk2
    have nbp : V.heap.size ≠ Bp:=blk_ne HK1.out HI1.out.kp (by decide)
    have nbv:=own_no HI1.out.row HK1.out (by decide)
    have hk2b : Blk V2 V.heap.size 25 #[.int .i64 k,.string t,.slice ao f.len cap]:=(hF2.keep _ hDb nbp nbv).trans HK1.out
    have b2:=hk2b.cell 2
    rw [HM.out] at b2 HK1
    have hV1l : ∀ i,D1 i → i < V1.heap.size:=fun i hi=>(HI1.out.lo i hi).2
    rw [HQ.out] at hI2
    have HI2:=hid hI2;have HF2:=hid hF2;have HNB:=hid nbp;have HNV:=hid nbv;have HDB:=hid hDb
    clear hI2 hF2 hj2 hk2 hk2b nbp nbv hy HR HI1 p1 y1 hV0 hDb i1 c0 c1 c2
    gi_wp2_with fail
    gi_loopw [21] (fun i wr=>∃ (j : Nat) (D' : Nat → Prop) (v' : Value),i = .int .i64 (j : Int) ∧ j ≤ m ∧ InvB n0 Ws Bi By Bp Bd l J (pr ++ (f.take j).walkB p 0) p D' v' wr ∧ Fr n0 Bp D1 D' (.slice vo vl vc) v' V1 wr) (fun i _=>m - (intOf i).toNat)
    case atStart=>exact ⟨0,D1,_,rfl,Nat.zero_le _,by have:=HI2.out;cases f <;> (simp only [Fo.take,Fo.walkB,Fo.walk,List.filter_nil,List.append_nil];exact this),HF2.out⟩
    case round =>
      obtain ⟨j,D',v',rfl,hj,hI,hF⟩:=hrel
      have hbx : Blk wr V.heap.size 25 #[.int .i64 k,.string t,.slice ao m cap]:=(hF.keep _ HDB.out HNB.out HNV.out).trans HK1.out
      by_cases hlt : j < m
      · obtain ⟨x,hx⟩:=Fo.get_of_lt (f:=f) (i:=j) (by rw [HM.out];exact hlt)
        have hlt1 : (j : Int) < (m : Int):=by omega
        have hmb : m ≤ 9223372036854775807:=by have:=HM.out;omega
        have hkids : KidsAt (Lt n0) wr f (.slice ao m cap):=by
          have:=HS.out.below (HF1.out.low.trans hF.low) (Nat.le_refl _)
          rw [HM.out] at this
          exact this
        obtain ⟨g1,o1,ao1,cap1,rfl,hgl,hg1,d0,d1,d2,d3⟩:=hkids.get hx
        obtain ⟨hI3,hF3⟩:=hI.alloc hJ hn (.cells #[.int .i64 x.k,.string x.t,.slice ao1 x.kids.len cap1] 25)
        obtain ⟨V3,hV3⟩ : ∃ V3,wr.alloc (.cells #[.int .i64 x.k,.string x.t,.slice ao1 x.kids.len cap1] 25) = V3:=⟨_,rfl⟩
        have hk3 : Blk V3 wr.heap.size 25 #[.int .i64 x.k,.string x.t,.slice ao1 x.kids.len cap1]:=by rw [← hV3];exact Blk.new wr _ _
        rw [hV3] at hI3 hF3
        obtain ⟨D3,hD3⟩ : ∃ D3 : Nat → Prop,(fun k=>D' k ∨ k = wr.heap.size) = D3:=⟨_,rfl⟩
        have hDk : D3 wr.heap.size:=by rw [← hD3];exact .inr rfl
        rw [hD3] at hI3 hF3
        obtain ⟨uo,ul,uc,rfl,hul⟩ : ∃ vo vl vc,v' = .slice vo vl vc ∧ vl = p.length:=by
          obtain ⟨a,c,e,_⟩:=own_len' hI3.row
          exact ⟨a,_,c,e,rfl⟩
        obtain ⟨i0,hi,hz0,hz1,hz2⟩:=info_parts infoI
        have q1:=hI3.kp.cell 0
        have hrow3:=hI3.row
        have hpl : p.length ≤ 1000000:=by have:=HLEN.out;omega
        have HI3:=hid hI3;have HF3:=hid (hF.trans hF3 (fun i hi=>hV1l i hi));have HLW:=hid hF3.low;have HK3:=hid hk3;have HX:=hid hx;have HD3:=hid d3;have HUL:=hid hul
        clear hI hF hI3 hF3 hk3 hx d3 hD3 hkids hgl hg1 hul
        have hWs:=(HI3.out.lo _ hDk).1
        gi_wp2_with (gi_at_builtin;refine wpListIn_append_own_at _ rfl _ _ 31 rfl Ws 3 i0 _ 1 8 Try.underlying31 hi hz0 hz1 hz2 rfl (by decide) _ _ _ rfl (hrow3.alloc _) ⟨V3.heap.size,0,none⟩ 1 1 [.int .i64 (j : Int)] rfl rfl (cell_one_new _ _ _) (by simp [Value.oneCell']) (by unfold maxLen;omega) (by omega) (by have:=(HI3.out.lo _ hDk).2;simp;omega) ?_;intro v' w' hown' hgrow _ hat;obtain ⟨a7,c7,rfl,hc7⟩:=own_len' hown';obtain ⟨hI4,hF4⟩:=HI3.out.pushed hJ hn hown' hgrow hat;have hpb : Blk w' Bp 31 #[.slice uo ul uc]:=(hgrow.block Bp (by have:=HI3.out.kp.lt;simp;omega) (fun e=>own_no HI3.out.row HI3.out.kp (by decide) e.symm)).trans (HI3.out.kp.alloc _);have q2:=hpb.cell 0;have q3:=hpb.frozen 0;obtain ⟨V4,hV4⟩ : ∃ V4,w'.setCell ⟨Bp,0,none⟩ (.slice a7 (p.length + 1) c7) = V4:=⟨_,rfl⟩;rw [hV4] at hI4 hF4;obtain ⟨D4,hD4⟩ : ∃ D4 : Nat → Prop,(fun k=>D3 k ∨ (V3.heap.size ≤ k ∧ k < w'.heap.size)) = D4:=⟨_,rfl⟩;rw [hD4] at hI4 hF4;have hkb : Blk V4 wr.heap.size 25 #[.int .i64 x.k,.string x.t,.slice ao1 x.kids.len cap1]:=(hF4.keep _ hDk (blk_ne HK3.out HI3.out.kp (by decide)) (own_no HI3.out.row HK3.out (by decide))).trans HK3.out;have k0:=hkb.cell 0;have k1:=hkb.cell 1;have k2:=hkb.cell 2;have dd:=hI4.kd.cell 0;have HI4:=hid hI4;have HF4:=hid hF4;clear hI4 hF4 hpb hkb hown' hgrow hat hD4)
        refine ⟨trivial,fun h=>(by cases h),?_⟩
        obtain ⟨r0,hr0⟩:=Fo.walkB_split p HX.out
        have hkid : NdAt (Lt n0) V4 x (.agg #[.int .i64 x.k,.string x.t,.slice ao1 x.kids.len cap1]):=NdAt.mk (HD3.out.below (HLW.out.trans HF4.out.low) (Nat.le_refl _))
        have hIH:=HP.out.get HX.out n0 Ws Bi By Bp Bd l J hJ hn HIS.out ys HYY.out (n - 1) (p ++ [j]) (pr ++ (f.take j).walkB p 0) (r0 ++ rest) D4 _ V4 _ (by
          have h1:=HLEN.out
          have h2:=Fo.count_get HX.out
          simp only [Nd.count,List.length_append,List.length_cons,List.length_nil] at h1 h2 ⊢
          omega) HI4.out hkid (by rw [HYS.out,hr0];simp only [List.append_assoc])
        have HIH:=hid hIH
        clear hIH hkid hr0
        refine HIH.out.mono ?_
        rintro e V5 ⟨rfl,D5,v5,hI5,hF5⟩
        obtain ⟨g5,c5,rfl,hg5,hg6⟩:=hI5.row.form (by simp)
        have hr5:=hI5.row
        obtain ⟨ml,hml⟩ : ∃ ml,p.length + 1 = ml:=⟨_,rfl⟩
        obtain ⟨kl,hkl⟩ : ∃ kl,p.length = kl:=⟨_,rfl⟩
        have hlen5 : (p ++ [j]).length = ml:=by rw [List.length_append];exact hml
        rw [hlen5] at hI5 hF5 hr5
        have hq5:=hI5.kp
        have p5:=hq5.cell 0
        have p6:=hq5.frozen 0
        have hcap : ml ≤ c5:=by
          rcases hr5.2 with ⟨h1,_⟩ | ⟨g',cap',cur,h1,h2,h3,h4,_⟩
          · cases h1
          · cases h1;exact h4
        have hpop : InvB n0 Ws Bi By Bp Bd l J (pr ++ (f.take j).walkB p 0 ++ Nd.walkB (p ++ [j]) x) p D5 (.slice (some ⟨g5,0,none⟩) kl c5) (V5.setCell ⟨Bp,0,none⟩ (.slice (some ⟨g5,0,none⟩) kl c5)) ∧ Fr n0 Bp D5 D5 (.slice (some ⟨g5,0,none⟩) ml c5) (.slice (some ⟨g5,0,none⟩) kl c5) V5 (V5.setCell ⟨Bp,0,none⟩ (.slice (some ⟨g5,0,none⟩) kl c5)):=by
          rw [← hml] at hI5
          have:=hI5.popped hJ hn
          rw [hkl,← hkl,hml] at this
          rw [hkl] at this
          exact this
        have hsn:=Fo.walkB_snoc p (j:=0) HX.out
        rw [Nat.zero_add] at hsn
        have hI6:=hpop.1
        rw [show pr ++ (f.take j).walkB p 0 ++ Nd.walkB (p ++ [j]) x = pr ++ (f.take (j + 1)).walkB p 0 by rw [hsn];simp only [List.append_assoc]] at hI6
        have hF6:=(((HF3.out.trans HF4.out hV1l).trans hF5 hV1l).trans hpop.2 hV1l)
        have HI6:=hid hI6;have HF6:=hid hF6
        have hkm : kl < ml:=by omega
        have hkm1 : (kl : Int) < (ml : Int):=by omega
        have hk0 : (0 : Int) ≤ (kl : Int):=by omega
        have hkc : kl ≤ c5:=by omega
        have hkc1 : (kl : Int) ≤ (c5 : Int):=by omega
        have hw1 : wrap64 ((ml : Int) - 1) = (kl : Int):=by rw [IntWalk.wrap64_in _ (by omega)];omega
        have hw2 : IntKind.i64.wrap ((ml : Int) - 1) = (kl : Int):=(IntWalk.i64_left _).trans hw1
        clear hI5 hF5 hr5 hq5 hpop hsn hI6 hF6 hlen5 hml hkl hg5 hg6
        gi_wp2_with fail
        exact ⟨⟨j + 1,D5,_,by go_num,by omega,HI6.out,HF6.out⟩,by simp [intOf];omega⟩
      · obtain rfl : j = m:=by omega
        have hge : decide ((j : Int) < (j : Int)) = false:=by simp
        rw [Fo.take_all (by rw [HM.out];exact Nat.le_refl _)] at hI
        have HI:=hid hI
        have HFF:=hid (HF1.out.trans hF (fun i hi=>(HINV.out.lo i hi).2))
        clear hI hF
        gi_wp2_with fail
        go_ret
        exact ⟨rfl,D',v',by rw [HPR.out];exact HI.out,HFF.out⟩
end Go.Proofs.Ythadnhpkeljdoaa.nd
namespace Go.Proofs.Ythadnhpkeljdoaa.pv
open Go.RowKit
section
variable {P : Program} {ty : Tys} {n : Nat} {G : Gh} {m : Mem} {a : Act} {w : World} {o : Oper} {id : Nat}
structure Rows (G : Gh) (w : World) (sz : Nat) (es : List (List D)) (cs : List Value) : Prop where
  size : cs.length = es.length * sz
  len : ∀ c ∈ es,c.length = sz ∧ c.all noOwn = true
  rep : ∀ (i : Nat) (c : List D) (j : Nat) (d : D),es[i]? = some c → c[j]? = some d → ∃ x,cs[i * sz + j]? = some x ∧ RepC G w x d
theorem Rows.one {sz : Nat} {es : List (List D)} {cs : List Value} (h : Rows G w sz es cs) : ∀ u ∈ cs,u.oneCell' = true:=fun u hu=>by
  obtain ⟨k,hk⟩:=List.getElem?_of_mem hu
  have hlt:=(List.getElem?_eq_some_iff.1 hk).1
  rw [h.size] at hlt
  have hsz : 0 < sz:=Nat.pos_of_ne_zero fun e=>by rw [e] at hlt;simp at hlt
  have hi : k / sz < es.length:=by rw [Nat.div_lt_iff_lt_mul hsz];exact hlt
  have hc:=List.getElem?_eq_getElem hi
  have hcl:=(h.len _ (List.getElem_mem hi)).1
  obtain ⟨x,h1,h2⟩:=h.rep (k / sz) _ (k % sz) _ hc (List.getElem?_eq_getElem (by rw [hcl];exact Nat.mod_lt _ hsz))
  rw [Nat.div_add_mod' k sz,hk] at h1
  cases h1
  exact h2.one
theorem Rows.mono {G' : Gh} {w' : World} {sz : Nat} {es : List (List D)} {cs : List Value} (h : Rows G w sz es cs) (hs : Step G w G' w') : Rows G' w' sz es cs :=
  ⟨h.size,h.len,fun i c j d h1 h2=>by obtain ⟨x,e1,e2⟩:=h.rep i c j d h1 h2;exact ⟨x,e1,e2.mono hs⟩⟩
theorem Rows.app {sz : Nat} {es es' : List (List D)} {cs cs' : List Value} (h : Rows G w sz es cs) (h' : Rows G w sz es' cs') : Rows G w sz (es ++ es') (cs ++ cs'):=by
  refine ⟨by rw [List.length_append,List.length_append,h.size,h'.size,Nat.add_mul],fun c hc=>?_,fun i c j d h1 h2=>?_⟩
  · rcases List.mem_append.1 hc with hc | hc
    · exact h.len c hc
    · exact h'.len c hc
  · by_cases hi : i < es.length
    · rw [List.getElem?_append_left hi] at h1
      obtain ⟨x,e1,e2⟩:=h.rep i c j d h1 h2
      exact ⟨x,by rw [List.getElem?_append_left (List.getElem?_eq_some_iff.1 e1).1];exact e1,e2⟩
    · rw [List.getElem?_append_right (by omega)] at h1
      obtain ⟨x,e1,e2⟩:=h'.rep _ c j d h1 h2
      refine ⟨x,?_,e2⟩
      have hmul : es.length * sz ≤ i * sz:=Nat.mul_le_mul_right _ (by omega)
      rw [List.getElem?_append_right (by rw [h.size];omega),h.size,← e1,Nat.sub_mul]
      congr 1
      omega
theorem fill_rows (h : Sim n G m a w) {sz : Nat} (hsz : 0 < sz) :
    ∀ (ps : List (Nat × Operand)) (es : List (List D)) (cs : Array Value) (es' : List (List D)),Rows G w sz es cs.toList → dFillE m sz es ps = some es' →
      ∃ cs',Instr.fill (fun i=>some (i * sz,sz)) cs (ps.map fun p=>(p.1,a.eval p.2)) = some cs' ∧ Rows G w sz es' cs'.toList ∧ es'.length = es.length
  | [],es,cs,es',hr,hd=>by cases hd;exact ⟨cs,rfl,hr,rfl⟩
  | (i,x) :: r,es,cs,es',hr,hd=>by
    unfold dFillE at hd
    split at hd
    · rename_i l e2
      cases hc : (l.length.beq sz && (i + 1).ble es.length) with
      | false=>rw [hc] at hd;cases hd
      | true =>
        rw [hc] at hd
        rw [Bool.and_eq_true] at hc
        have c1:=Nat.eq_of_beq_eq_true hc.1
        have c2:=Nat.le_of_ble_eq_true hc.2
        obtain ⟨h1,h2⟩:=rep_cells (h.ev x) e2
        obtain ⟨f1,f2⟩:=fold_cells (i * sz) (a.eval x).cells cs
        have hcs : cs.size = es.length * sz:=by have:=hr.size;simpa using this
        have hmul : (i + 1) * sz ≤ es.length * sz:=Nat.mul_le_mul_right _ c2
        rw [Nat.add_mul] at hmul
        have hmem : ∀ c ∈ es.set i (l.map strip),c.length = sz ∧ c.all noOwn = true:=fun c hc=>by
          rcases List.mem_or_eq_of_mem_set hc with hc | rfl
          · exact hr.len c hc
          · refine ⟨by simp [c1],?_⟩
            rw [List.all_eq_true]
            intro d hd
            obtain ⟨d',_,rfl⟩:=List.mem_map.1 hd
            cases d' <;> rfl
        obtain ⟨cs',r1,r2,r3⟩:=fill_rows h hsz r (es.set i (l.map strip)) ((a.eval x).cells.zipIdx.foldl (fun cs (c,j)=>cs.setIfInBounds (i * sz + j) c) cs) es' ⟨by rw [Array.length_toList,f1,hcs];simp,hmem,fun k c j d hk hj=>by
          have hjl : j < sz:=by
            have:=(List.getElem?_eq_some_iff.1 hj).1
            rw [(hmem c (List.mem_of_getElem? hk)).1] at this;exact this
          rw [Array.getElem?_toList,f2]
          by_cases he : k = i
          · subst he
            rw [List.getElem?_set_self (by omega)] at hk
            cases hk
            rw [List.getElem?_map] at hj
            obtain ⟨d',hd',rfl⟩:=Option.map_eq_some_iff.1 hj
            have hv : (a.eval x).cells[j]? = some ((a.eval x).cells[j]'(by omega)):=Array.getElem?_eq_getElem (by omega)
            refine ⟨_,?_,strip_rep (h2 j _ d' hv hd')⟩
            rw [if_pos (by omega),← hv]
            congr 1;omega
          · rw [List.getElem?_set_ne (Ne.symm he)] at hk
            obtain ⟨v,e1,e3⟩:=hr.rep k c j d hk hj
            refine ⟨v,?_,e3⟩
            rw [if_neg,← Array.getElem?_toList]
            · exact e1
            · rintro ⟨q1,q2,_⟩
              have hik : ¬ (i + 1 ≤ k):=fun hlt=>by
                have : (i + 1) * sz ≤ k * sz:=Nat.mul_le_mul_right _ hlt
                rw [Nat.add_mul] at this;omega
              have hki : ¬ (k + 1 ≤ i):=fun hlt=>by
                have : (k + 1) * sz ≤ i * sz:=Nat.mul_le_mul_right _ hlt
                rw [Nat.add_mul] at this;omega
              omega⟩ hd
        refine ⟨cs',?_,r2,by rw [r3];simp⟩
        simp only [List.map_cons,Instr.fill]
        rw [if_neg (by simp;omega)]
        exact r1
    · cases hd
theorem ok_buildSlice {t e : TypeId} {y z : Ty} {k : Nat} {ps : Array (Nat × Operand)} (h : Sim n G m a w) (hy : TyOk P t y) (hk : y.kd = .sl e) (hz : TyOk P e z) (hid : G.tok id = none) (ho : o.op = .buildSlice t k ps) (hsz : 0 < z.size) (hlim : k * z.size ≤ 16777216)
    {es : List (List D)} (hd : dFillE m z.size (List.replicate k z.zero) ps.toList = some es) : OpOk P o G a w id (.sl (.own id e z.size) es) [(1,id,.num k)]:=by
  have hu:=hy.kd
  rw [hk] at hu
  have hu : P.underlying t = some (.slice e):=hu
  obtain ⟨i,zv,i1,i2,_,i3,i4,i5,i6⟩:=hz.info
  have hzc : zv.cells.size = z.size:=by rw [← i6,← i4];simp
  obtain ⟨cs0,hcs0⟩ : ∃ cs0 : Array Value,(Array.range (k * z.size)).map (fun q=>zv.cells[q % zv.cells.size]!) = cs0:=⟨_,rfl⟩
  have hcs0s : cs0.size = k * z.size:=by rw [← hcs0];simp
  have hrows : Rows G w z.size (List.replicate k z.zero) cs0.toList:=by
    refine ⟨by simp [hcs0s],fun c hc=>?_,fun p c j d hp hj=>?_⟩
    · rw [List.mem_replicate] at hc
      rw [hc.2]
      refine ⟨i6,?_⟩
      rw [List.all_eq_true]
      intro d hd
      rw [← i4] at hd
      obtain ⟨v,_,rfl⟩:=List.mem_map.1 hd
      unfold constC
      split <;> rfl
    · rw [List.getElem?_replicate] at hp
      split at hp
      · cases hp
        have hjl:=(List.getElem?_eq_some_iff.1 hj).1
        rw [i6] at hjl
        have hlt : p * z.size + j < k * z.size:=by
          have : (p + 1) * z.size ≤ k * z.size:=Nat.mul_le_mul_right _ (by omega)
          rw [Nat.add_mul] at this;omega
        rw [← i4,List.getElem?_map,Array.getElem?_toList] at hj
        obtain ⟨v,hv,rfl⟩:=Option.map_eq_some_iff.1 hj
        refine ⟨v,?_,repC_const ?_⟩
        · rw [Array.getElem?_toList,← hcs0]
          simp only [Array.getElem?_map,Array.getElem?_range,if_pos hlt,Option.map_some]
          rw [hzc,show (p * z.size + j) % z.size = j by rw [Nat.mul_add_mod_self_right];exact Nat.mod_eq_of_lt hjl]
          rw [getElem!_def,hv]
        · rw [← i4,List.all_eq_true] at i5
          exact i5 _ (List.mem_map.2 ⟨v,by rw [Array.mem_toList_iff];exact Array.mem_of_getElem? hv,rfl⟩)
      · cases hp
  obtain ⟨cs,r1,r2,r3⟩:=fill_rows h hsz ps.toList _ cs0 es hrows hd
  rw [List.length_replicate] at r3
  have hcss : cs.size = k * z.size:=by have:=r2.size;rw [r3] at this;simpa using this
  have hkm : k ≤ maxLen:=by
    have:=Nat.le_mul_of_pos_right k hsz
    unfold maxLen;omega
  have hown : (w.alloc (.cells cs e)).ownsRow G.base e z.size (.slice (some ⟨w.heap.size,0,none⟩) k k) k cs.toList :=
    ⟨by simp [hcss],.inr ⟨w.heap.size,k,cs,rfl,h.ok.base,heap_alloc_new w _,Nat.le_refl _,hkm,hcss,by rw [List.take_of_length_le (by simp [hcss])]⟩⟩
  obtain ⟨G',ha,hG1,hG2⟩:=after_tok (id:=id) (t:=id) (row:=none) h.ok hsz (.inl rfl) hown (World.grownBy_alloc w _ none) (fun g i hi=>World.cell?_of_block (a:=⟨g,i,none⟩) (Below.heap_alloc w _ _ (h.ok.imm g i hi))) (.inl ⟨hid,rfl⟩) (fun g hg=>.inr (by
    simp [Value.ownBlock] at hg;omega))
  have hr':=r2.mono ha.step
  refine .of_run (v:=.slice (some ⟨w.heap.size,0,none⟩) k k) ?_ ha (.v (.c (repC_own hown hG1 hG2 r3 hr'.len hr'.rep)))
  have hzv : ((zeroValue e).run P w) = .ok zv w:=by simp [zeroValue,typeInfo,i1,i3]
  have hlim' : ¬ (16777216 < k * z.size):=by omega
  have hf : Instr.fill (fun i=>some (i * z.size,z.size)) cs0 (ps.map fun (p : Nat × Operand)=>(p.1,a.eval p.2)).toList = some cs:=by rw [Array.toList_map];exact r1
  by_cases h0 : k * z.size = 0
  · have he : cs0 = #[]:=Array.eq_empty_of_size_eq_zero (by omega)
    rw [he] at hf
    have hk0 : k = 0:=by rcases Nat.mul_eq_zero.1 h0 with h | h <;> omega
    subst hk0
    rw [Array.toList_map] at hf
    simp [execOp,ho,Instr.buildSlice,run_underlying hu,hz.size,Array.range_zero',hf,newRow,newObj,Sem.run]
  · rw [← hcs0] at hf
    simp only [execOp,ho,Instr.buildSlice,Sem.run_bind,run_underlying hu,Result.andThen_ok,hz.size,hlim',if_false,h0,hzv,Sem.run_pure,hf,newRow,newObj]
    simp [Sem.run,h0,hzv,hlim',hf]
end
end Go.Proofs.Ythadnhpkeljdoaa.pv
namespace Go.Proofs.Ythadnhpkeljdoaa.nd
open Go.RowKit Go.Shelf sx ed
attribute [local go_sem] Oper.semAt_some
def IB (w : World) (D : Nat → Prop) (W : World) : Prop:=Below w.heap.size w W ∧ ∀ k,D k → w.heap.size ≤ k
theorem IB.ab {w : World} {D D' : Nat → Prop} {A B : World} (h : IB w D A) (hb : But A.heap.size D A B) (hD : ∀ k,D' k → D k ∨ A.heap.size ≤ k) : IB w D' B :=
 ⟨h.1.trans ⟨hb.os,hb.tape,hb.output,hb.size,fun k hk=>hb.block k (Nat.lt_of_lt_of_le hk h.1.size) (fun e=>by have:=h.2 k e;omega)⟩,fun k hk=>by
  rcases hD k hk with e | e
  ·exact h.2 k e
  ·have:=h.1.size;omega⟩
theorem IB.own {w W : World} {D : Nat → Prop} {row : Option Nat} {B : Nat} {W' : World} (h : IB w D W) (hB : w.heap.size ≤ B) (hg : W.grownBy W' row) (hr : ∀ r,row = some r → B ≤ r) : IB w D W' :=
 ⟨h.1.grown hg h.1.size (fun k e=>by have:=hr k e;omega),h.2⟩
def BX (N : Nat) (t : TypeId) (v : Value) (D : Nat → Prop) (W : World) : Prop:=Boxed W N t v ∧ ¬ D N
theorem BX.ab {N : Nat} {t : TypeId} {v : Value} {D D' : Nat → Prop} {A B : World} (h : BX N t v D A) (hb : But A.heap.size D A B) (hD : ∀ k,D' k → D k ∨ A.heap.size ≤ k) : BX N t v D' B :=
 ⟨(hb.block N (Boxed.lt h.1) h.2).trans h.1,fun e=>by
  rcases hD N e with e | e
  ·exact h.2 e
  ·have:=Boxed.lt h.1;omega⟩
theorem BX.own {N : Nat} {t : TypeId} {v : Value} {D : Nat → Prop} {W W' : World} {row : Option Nat} (h : BX N t v D W) (hg : W.grownBy W' row) (hr : ∀ r,row = some r → ∃ o : Obj,W.heap[r]? = some o ∧ o.isCells = false) : BX N t v D W' :=
 ⟨boxed_own N t (fun (_ : Unit)=>v) () W W' row h.1 hg hr,h.2⟩
end Go.Proofs.Ythadnhpkeljdoaa.nd
namespace Go.Proofs.Ythadnhpkeljdoaa.nd
open Go.RowKit Go.Shelf sx ed
theorem clone_calls (t : ByteArray) (ht : t.size ≤ 140737488351232) (W : World) : Calls Try.prog 39 #[.string t] W fun e w'=>e = .returned (.string t) ∧ Below W.heap.size W w':=by
 have h:=Try.stringslite_Clone t W (by omega)
 go_enter Try.func39,Try.ntmps39
 go_wp2_with (go_at_call 53;refine h.mono ?_;rintro e w' ⟨rfl,hb⟩)
 go_ret
 exact ⟨rfl,hb⟩
end Go.Proofs.Ythadnhpkeljdoaa.nd
namespace Go.Proofs.Ythadnhpkeljdoaa.pa
open Go.RowKit nd pr sx ed
theorem bytes_eq (a b : ByteArray) : a.toList = b.toList ↔ a = b:=by
 rw [Lib.toList_data,Lib.toList_data]
 constructor
 ·intro e
  cases a;cases b
  rename_i a b
  cases a;cases b
  exact congrArg _ (congrArg _ e)
 ·rintro rfl;rfl
theorem tk_lt {E : Env} {i : Nat} {t : Tk} (h : tk E i = t) (ht : t ≠ noTk) : i < E.l.length:=by
 rcases Nat.lt_or_ge i E.l.length with h' | h'
 ·exact h'
 ·exact absurd (h.symm.trans (tk_end h')) ht
end Go.Proofs.Ythadnhpkeljdoaa.pa
namespace Go.Proofs.Ythadnhpkeljdoaa.lx
open Go.RowKit Go.Shelf
open sg (lst_len extract_drop ext_size)
open sx
theorem toList_eq (s : ByteArray) : s.toList = s.data.toList:=Lib.toList_data s
end Go.Proofs.Ythadnhpkeljdoaa.lx
namespace Go.Proofs.Ythadnhpkeljdoaa.nd
open Go.RowKit sx ed
abbrev cl (n : Nat) : List UInt8:=List.replicate n 41
end Go.Proofs.Ythadnhpkeljdoaa.nd
