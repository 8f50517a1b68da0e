/- Ground of the law: NdRPaths, BaPaths, LxMath3. -/
import Derived.Test.YthadnhpkeljdoaaQh14
import Derived.Test.YthadnhpkeljdoaaQh15
import Derived.Deep.RegionHeld3
import Derived.Deep.Cut
import Derived.IntWalk
import Derived.Laws.AppendOwnNone
set_option maxRecDepth 100000
set_option maxHeartbeats 8000000
set_option linter.unusedVariables false
set_option linter.unusedSimpArgs false
namespace Go.Proofs.Ythadnhpkeljdoaa.nd
open Go.Lib (hid)
open Go.RowKit sx ed
theorem Fo.paths_app : ∀ (i : Nat) (f g : Fo),Fo.paths i (f.app g) = Fo.paths i f ++ Fo.paths (i + f.len) g
  | i,.nil,g=>by simp [Fo.app,Fo.paths,Fo.len]
  | i,.cons k t kids r,g=>by
    simp only [Fo.app,Fo.paths,Fo.len,Fo.paths_app (i + 1) r g,List.append_assoc]
    rw [show i + 1 + r.len = i + (r.len + 1) by omega]
theorem Fo.paths_snoc {f : Fo} {i : Nat} {x : Nd} (h : f.get? i = some x) : Fo.paths 0 (f.take (i + 1)) = Fo.paths 0 (f.take i) ++ x.paths.map (i :: ·):=by
  rw [Fo.take_snoc h,Fo.paths_app,Fo.take_len (Nat.le_of_lt (Fo.get_lt h))]
  simp [Fo.paths,Nd.paths]
theorem wpList_append_ints2 {w : World} {ops : Array Oper} {rest : List Oper} {o : Oper} {a : Act} {Q : Exit → Act → World → Prop} (hgd : o.guard = none) (s x : Operand)
    (ho : o.op = .call { callee:=.builtin .append,args:=#[s,x],argTypes:=#[31,31] })
    (base n : Nat) (xs : List Value) (v : Value) (hs : a.eval s = v) (hown : w.ownsRow base 3 1 v n xs) (hbase : base ≤ w.heap.size)
    (S : Nat → Prop) (l : List Int) (u : Value) (hx : a.eval x = u) (hu : IntsAt S w u l) (hn : n ≤ 1000000) (hl : l.length ≤ 1000000)
    (h : ∀ v' w',w'.ownsRow base 3 1 v' (n + l.length) (xs ++ l.map fun z=>.int .i64 z) → w.grownBy w' v.ownBlock → wpList Try.prog ops Q rest (a.put o.dst v') w') : wpList Try.prog ops Q (o :: rest) a w:=by
  obtain ⟨i0,hi,hz0,hz1,hz2⟩:=info_parts infoI
  obtain ⟨ao,cap,rfl,hm,hlc,hr⟩:=hu
  cases ao with
  | none =>
    have hn : l = []:=by
      cases l with
      | nil=>rfl
      | cons z r=>obtain ⟨g,o,e,_⟩:=hr (by simp);cases e
    subst hn
    have hrun : (Builtin.append_ #[31,31] o.type #[v,.slice none 0 cap]).run Try.prog w = .ok v w:=by
      rcases hown.2 with ⟨rfl,_⟩ | ⟨g,c,cur,rfl,_,_,hle,_⟩
      · simp [Builtin.append_,run_underlying Try.underlying31,sizeOf,typeInfo,hi,Builtin.lenOf,Builtin.firstCells]
      · simp [Builtin.append_,run_underlying Try.underlying31,sizeOf,typeInfo,hi,Builtin.lenOf,Builtin.firstCells,hle,storeCells]
    refine wpList_plain hgd fun K hK=>?_
    unfold Oper.wp
    simp [execOp,ho,resolve,invoke,builtin,hs,hx,hrun,Result.andThen]
    exact hK _ _ (h _ _ (by simpa using hown) ⟨rfl,rfl,rfl,Nat.le_refl _,fun _ _ _=>rfl⟩)
  | some b =>
    have hnews : ∀ j u,(l.map fun z=>(Value.int .i64 z))[j]? = some u → w.cell? (b.add j) = some u:=fun j u hj=>by
      have hne : l ≠ []:=fun e=>by rw [e] at hj;simp at hj
      obtain ⟨g,o,e,_,hc⟩:=hr hne
      cases e
      rw [List.getElem?_map,Option.map_eq_some_iff] at hj
      obtain ⟨z,hz,rfl⟩:=hj
      rw [addr_add]
      exact hc j z hz
    refine wpList_append_own_at _ hgd s x 31 ho base 3 i0 _ 1 8 Try.underlying31 hi hz0 hz1 hz2 rfl (by decide) v n xs hs hown b l.length cap (l.map fun z=>.int .i64 z) hx (by simp) hnews (by intro u hu;obtain ⟨z,_,rfl⟩:=List.mem_map.1 hu;rfl) (by unfold maxLen;omega) (by omega) hbase ?_
    intro v' w' hown' hgrow _ _
    exact h v' w' hown' hgrow
theorem own_intsF {W : World} {base : Nat} {v : Value} {l : List Int} (h : W.ownsRow base 3 1 v l.length (l.map fun z=>.int .i64 z)) (hm : l.length ≤ maxLen) : IntsAt (Frsh base W.heap.size) W v l:=by
  obtain ⟨ao,cap,rfl,hc⟩:=own_len' h
  refine ⟨ao,cap,rfl,hm,hc,fun hn=>?_⟩
  rcases id h.2 with ⟨_,h0⟩ | ⟨g,cp,cur,e,_⟩
  · exact absurd (List.length_eq_zero_iff.1 h0) hn
  · cases e
    refine ⟨g,0,rfl,h.lt g rfl,fun j z hj=>?_⟩
    have:=h.cells (g:=g) rfl j (.int .i64 z) (by rw [List.getElem?_map,hj];rfl)
    rw [nd.addr_add] at this
    exact this
def SQ (N : Nat) (o : Value) (W : World) (k : Nat) : Prop:=N ≤ k ∧ k < W.heap.size ∧ o.ownBlock ≠ some k
structure RPI (N : Nat) (W1 wi : World) (oi : Value) (ps : List (List Int)) (o : Value) (L : List Value) (wr : World) : Prop where
  row : wr.ownsRow N 31 1 o ps.length L
  lists : ListsAt (SQ N o wr) wr L ps
  below : Below N W1 wr
  kept : ∀ b,b < wi.heap.size → oi.ownBlock ≠ some b → wr.heap[b]? = wi.heap[b]?
  size : wi.heap.size ≤ wr.heap.size
  since : o.ownBlock = oi.ownBlock ∨ ∃ b,wi.heap.size ≤ b ∧ o.ownBlock = some b
theorem RPI.start {N : Nat} {W1 wi : World} {oi : Value} {ps : List (List Int)} {o : Value} {L : List Value} {wr : World} (h : RPI N W1 wi oi ps o L wr) : RPI N W1 wr o ps o L wr :=
  ⟨h.row,h.lists,h.below,fun _ _ _=>rfl,Nat.le_refl _,.inl rfl⟩
theorem RPI.call {N : Nat} {W1 wi : World} {oi : Value} {ps : List (List Int)} {o : Value} {L : List Value} {wr w' : World} (h : RPI N W1 wi oi ps o L wr) (hN : N ≤ wr.heap.size) (hb : Below wr.heap.size wr w') : RPI N W1 w' o ps o L w':=by
  have hs:=hb.size
  refine ⟨own_keep h.row (fun k e=>hb.block k (h.row.lt k e).2),h.lists.keep (fun k hk=>⟨hk.1,Nat.lt_of_lt_of_le hk.2.1 hs,hk.2.2⟩) (fun k hk=>hb.block k hk.2.1),h.below.trans (hb.mono hN),fun _ _ _=>rfl,Nat.le_refl _,.inl rfl⟩
theorem RPI.step {N : Nat} {W1 wi wr W3 W5 : World} {oi o o' v' : Value} {ps : List (List Int)} {L : List Value} {j : Int} {q : List Int} (h : RPI N W1 wi oi ps o L wr) (hN : N ≤ wi.heap.size) (hq : q.length ≤ 1000000)
    (h3 : W3.ownsRow wr.heap.size 3 1 v' (1 + q.length) ((j :: q).map fun z=>.int .i64 z))
    (g3 : (wr.alloc (.cells #[.int .i64 j] 3)).grownBy W3 (some wr.heap.size))
    (h5 : W5.ownsRow N 31 1 o' (ps.length + 1) (L ++ [v']))
    (g5 : (W3.alloc (.cells #[v'] 31)).grownBy W5 o.ownBlock)
    (ha : o'.ownBlock = o.ownBlock ∨ o'.ownBlock = some (W3.heap.size + 1)) : RPI N W1 wi oi (ps ++ [j :: q]) o' (L ++ [v']) W5:=by
  have s3:=g3.size
  have s5:=g5.size
  rw [World.size_alloc] at s3 s5
  have hsz:=h.size
  have hov : ∀ b,o.ownBlock = some b → N ≤ b ∧ b < wr.heap.size:=h.row.lt
  have hlow : ∀ b,b < wr.heap.size → o.ownBlock ≠ some b → W5.heap[b]? = wr.heap[b]?:=fun b hb ho =>
    (((g5.block b (by simp;omega) (fun e=>ho e.symm)).trans (Below.heap_alloc _ _ _ (by omega))).trans (g3.block b (by simp;omega) (fun e=>by cases e;omega))).trans (Below.heap_alloc _ _ _ hb)
  have hnew : ∀ b,Frsh wr.heap.size W3.heap.size b → W5.heap[b]? = W3.heap[b]?:=fun b hb =>
    (g5.block b (by have:=hb.2;simp;omega) (fun e=>by have:=(hov b e.symm).2;have:=hb.1;omega)).trans (Below.heap_alloc _ _ _ hb.2)
  have hno : ∀ b,b < W3.heap.size → o.ownBlock ≠ some b → o'.ownBlock ≠ some b:=fun b hb ho e=>by
    rcases ha with h | h
    · exact ho (h ▸ e)
    · rw [h] at e;cases e;omega
  have hi:=own_intsF (l:=j :: q) (by rw [List.length_cons,Nat.add_comm];exact h3) (by unfold maxLen;simp;omega)
  refine ⟨by simpa using h5,?_,?_,fun b hb ho=>?_,by omega,?_⟩
  · refine ListsAt.snoc (h.lists.keep (fun k hk=>⟨hk.1,by have:=hk.2.1;omega,hno k (by have:=hk.2.1;omega) hk.2.2⟩) (fun k hk=>hlow k hk.2.1 hk.2.2)) (hi.keep (fun k hk=>⟨by have:=hk.1;omega,by have:=hk.2;omega,hno k hk.2 (fun e=>by have:=(hov k e).2;have:=hk.1;omega)⟩) hnew)
  · refine h.below.trans ?_
    exact ((((Below.refl N wr).alloc (by omega) _).grown g3 (by simp;omega) (fun k hk=>by cases hk;omega)).alloc (by omega) _).grown g5 (by simp;omega) (fun k hk=>(hov k hk).1)
  · have hb1 : o.ownBlock ≠ some b:=by
      rcases h.since with e | ⟨c,hc,e⟩
      · rw [e];exact ho
      · rw [e];intro e2;cases e2;omega
    exact (hlow b (by omega) hb1).trans (h.kept b hb ho)
  · rcases ha with e | e
    · rw [e];exact h.since
    · exact .inr ⟨_,by omega,e⟩
theorem lists_row {w2 : World} {G c : Nat} {v : Value} {L : List Value} {ps : List (List Nat)} (hc : 1 ≤ c) (hown : w2.ownsRow G 31 1 v c L) (hls : ListsAt (Frsh G w2.heap.size) w2 L (ps.map ints)) :
    ∃ gl cl,v = .slice (some ⟨gl,0,none⟩) c cl ∧ c ≤ cl ∧ gl < w2.heap.size ∧ ∀ (k : Nat) (p : List Nat),ps[k]? = some p → ∃ pa pc,∀ W,w2.heap.size ≤ W.heap.size → (∀ b,G ≤ b → b < w2.heap.size → W.heap[b]? = w2.heap[b]?) → W.cell? ⟨gl,k,none⟩ = some (.slice pa p.length pc) ∧ IntsAt (Lt W.heap.size) W (.slice pa p.length pc) (ints p):=by
  have hrow : ∃ gl cl,v = .slice (some ⟨gl,0,none⟩) c cl ∧ c ≤ cl ∧ gl < w2.heap.size ∧ G ≤ gl:=by
    rcases id hown.2 with ⟨_,h0⟩ | ⟨g,cp,cur,e,_,_,h4,_⟩
    · omega
    · have:=hown.lt g (by rw [e];rfl)
      exact ⟨g,cp,e,h4,this.2,this.1⟩
  obtain ⟨gl,cl,rfl,hcl,hgl,hgg⟩:=hrow
  refine ⟨gl,cl,rfl,hcl,hgl,fun k p hp=>?_⟩
  obtain ⟨cv,hcv,hci⟩:=hls.2 k (ints p) (by rw [List.getElem?_map,hp];rfl)
  obtain ⟨pa,pc,rfl,_⟩:=id hci
  have hcell:=hown.cells (g:=gl) rfl k _ hcv
  rw [nd.addr_add,Nat.zero_add] at hcell
  rw [show (ints p).length = p.length by simp [ints]] at hcell hci
  refine ⟨pa,pc,fun W hs hb=>⟨?_,hci.keep (fun j hj=>Nat.lt_of_lt_of_le hj.2 hs) (fun j hj=>hb j hj.1 hj.2)⟩⟩
  have:=hb gl hgg hgl
  rw [← hcell]
  simp [World.cell?,this]
theorem paths_short {x : Nd} {p : List Nat} (h : p ∈ x.paths) : p.length ≤ x.count:=by
  rw [← Nd.walk_paths] at h
  obtain ⟨y,hy,rfl⟩:=List.mem_map.1 h
  have h1:=Nd.walk_short x hy
  have h2:=Nd.deep_le x
  simp at h1
  omega
theorem num_next {q c : Nat} (h : q < c) (hc : c ≤ 1000000) : Value.int .i64 (wrap64 ((q : Int) + 1)) = .int .i64 ((q + 1 : Nat) : Int):=by
  rw [IntWalk.wrap64_in _ (by omega)];rfl
theorem num_less {q c : Nat} (h : q < c) (hc : c ≤ 1000000) : c - (intOf (Value.int .i64 (wrap64 ((q : Int) + 1)))).toNat < c - (intOf (Value.int .i64 (q : Int))).toNat:=by
  rw [num_next h hc];simp [intOf];omega
def RPathsOk (x : Nd) : Prop:=x.count ≤ 1000000 → ∀ (w : World) (v : Value),NdAt (Lt w.heap.size) w x v →
  Calls Try.prog 5 #[v] w fun e w'=>∃ v' L,e = .returned v' ∧ w'.ownsRow w.heap.size 31 1 v' x.count L ∧ ListsAt (Frsh w.heap.size w'.heap.size) w' L (x.paths.map ints) ∧ Below w.heap.size w w'
theorem rpaths_ok (x : Nd) : RPathsOk x:=by
  refine Nd.induct (p:=RPathsOk) (fun x hp hcnt w v hu=>?_) x
  obtain ⟨s,rfl,hs⟩:=hu
  obtain ⟨ao,cap,rfl,hm⟩:=hs.slice
  obtain ⟨k,t,f⟩:=x
  dsimp only at hs hm hp ⊢
  unfold maxLen at hm
  obtain ⟨W1,hW1⟩ : ∃ W1,w.alloc (.cells #[.int .i64 k,.string t,.slice ao f.len cap] 25) = W1:=⟨_,rfl⟩
  have hb0 : Below w.heap.size w W1:=by rw [← hW1];exact (Below.refl _ w).alloc (Nat.le_refl _) _
  have hk1 : Blk W1 w.heap.size 25 #[.int .i64 k,.string t,.slice ao f.len cap]:=by rw [← hW1];exact Blk.new w _ _
  have hsz : W1.heap.size = w.heap.size + 1:=by rw [← hW1];simp
  obtain ⟨m,hmm⟩ : ∃ m,f.len = m:=⟨_,rfl⟩
  rw [hmm] at hm hs hW1 hk1 ⊢
  obtain ⟨W0,hW0⟩ : ∃ W0,W1.alloc (.cells #[.slice none 0 0] 31) = W0:=⟨_,rfl⟩
  have hst : RPI W1.heap.size W1 W1 (.slice none 0 0) [[]] (.slice (some ⟨W1.heap.size,0,none⟩) 1 1) [.slice none 0 0] W0:=by
    rw [← hW0]
    refine ⟨⟨rfl,.inr ⟨W1.heap.size,1,#[.slice none 0 0],rfl,Nat.le_refl _,heap_alloc_new W1 _,Nat.le_refl _,by unfold maxLen;omega,rfl,rfl⟩⟩,⟨rfl,fun i q hq=>?_⟩,(Below.refl _ W1).alloc (Nat.le_refl _) _,fun b hb _=>Below.heap_alloc _ _ _ hb,by simp,.inr ⟨_,Nat.le_refl _,rfl⟩⟩
    match i,hq with
    | 0,hq=>cases hq;exact ⟨_,rfl,none,0,rfl,Nat.zero_le _,Nat.le_refl _,fun h=>absurd rfl h⟩
    | i + 1,hq=>simp at hq
  have HF:=hid (hs.below hb0 (Nat.le_refl _));have HL:=hid hmm;have HP:=hid hp;have HB0:=hid hb0
  have HK1:=hid hk1;have HW1:=hid hW1;have HW0:=hid hW0;have HCN:=hid hcnt;have HST:=hid hst;have HSZ:=hid hsz
  clear hs hmm hp hb0 hk1 hW1 hW0 hcnt hst hsz
  go_enter Try.func5,Try.ntmps5
  go_wp2_with fail
  rw [HW1.out,HW0.out]
  try rw [HSZ.out.symm]
  go_loopw [3,4] (fun o i wr=>∃ (j : Nat) (L : List Value) (ov : Value),j ≤ m ∧ i = .int .i64 (j : Int) ∧ ov = o ∧ RPI W1.heap.size W1 wr ov ([] :: (Fo.paths 0 (f.take j)).map ints) ov L wr) (fun _ i _=>m - (intOf i).toNat)
  case atStart =>
    refine ⟨0,[.slice none 0 0],_,Nat.zero_le _,rfl,rfl,?_⟩
    have : Fo.paths 0 (f.take 0) = []:=by cases f <;> rfl
    rw [this]
    exact HST.out.start
  case round =>
    obtain ⟨j,L,ov,hj,rfl,rfl,hI⟩:=hrel
    have hbw:=hI.below
    have hWl : W1.heap.size ≤ _:=hbw.size
    have a2:=(HK1.out.own hbw).cell 2
    by_cases hlt : j < m
    · obtain ⟨x,hx⟩:=Fo.get_of_lt (f:=f) (i:=j) (by rw [HL.out];exact hlt)
      have hFw:=HF.out.toLt.below hbw (Nat.le_refl _)
      obtain ⟨g1,o1,ao1,cap1,rfl,_,hg1,d0,d1,d2,d3⟩:=hFw.get hx
      have hlt1 : (j : Int) < (m : Int):=by omega
      have hcx:=Fo.count_get hx
      have hcn:=HCN.out
      simp only [Nd.count] at hcn
      obtain ⟨c,hc⟩ : ∃ c,x.count = c:=⟨_,rfl⟩
      have hc1 : 1 ≤ c:=by rw [← hc];simp [Nd.count]
      have hlp : (Fo.paths 0 (f.take j)).length + c ≤ 1000000:=by rw [Fo.paths_len];omega
      have hcall:=HP.out.get hx (by omega) wr _ (NdAt.mk d3.toLt)
      rw [hc] at hcall
      have hps:=Fo.paths_snoc hx
      obtain ⟨ps,hpe⟩ : ∃ ps,Fo.paths 0 (f.take j) = ps:=⟨_,rfl⟩
      rw [hpe] at hI hps hlp
      have HC:=hid hcall;have HI:=hid hI;have HPS:=hid hps;have HCC:=hid hc;have HLP:=hid hlp;have HWL:=hid hWl
      clear hcall hI hps hc hbw hWl hx d3 hFw hcx hcn hpe hlp
      go_wp2_with fail
      ((with_reducible refine HC.out.mono ?_);rintro e w1 ⟨v1,L1,rfl,hown1,hls1,hb1⟩)
      obtain ⟨gl,cl,rfl,hcl,hgl,hpath⟩:=lists_row hc1 hown1 hls1
      have hst:=HI.out.call HWL.out hb1
      have hNw : W1.heap.size ≤ w1.heap.size:=Nat.le_trans HWL.out hb1.size
      have hov:=fun b (e : ov.ownBlock = some b)=>(HI.out.row.lt b e).2
      have HPATH:=hid hpath;have HST1:=hid hst;have HNW:=hid hNw;have HOV:=hid hov
      clear hpath hst hNw hov hown1 hls1 hb1 a2 d0 d1 d2
      go_wp2_with fail
      go_loopw [3,6] (fun o' i' wz=>∃ (q : Nat) (L' : List Value) (ow : Value),q ≤ c ∧ i' = .int .i64 (q : Int) ∧ ow = o' ∧ RPI W1.heap.size W1 w1 ov (([] :: ps.map ints) ++ (x.paths.take q).map (fun p=>(j : Int) :: ints p)) ow L' wz) (fun _ i' _=>c - (intOf i').toNat)
      case atStart =>
        refine ⟨0,L,_,Nat.zero_le _,rfl,rfl,?_⟩
        rw [List.take_zero,List.map_nil,List.append_nil]
        exact HST1.out
      case round =>
        obtain ⟨q,L',ow,hq,rfl,rfl,hI'⟩:=hrel
        by_cases hql : q < c
        · have hql1 : (q : Int) < (c : Int):=by omega
          obtain ⟨p,hp⟩ : ∃ p,x.paths[q]? = some p:=⟨_,List.getElem?_eq_getElem (by rw [Nd.paths_len,HCC.out];exact hql)⟩
          have hplen : (ints p).length ≤ 1000000:=by have:=paths_short (List.mem_of_getElem? hp);have:=HCC.out;have:=HLP.out;simp [ints];omega
          obtain ⟨pa,pc,hpq⟩:=HPATH.out q p hp
          have hk:=hpq _ hI'.size (fun b hl hu=>hI'.kept b hu (fun e=>by have:=HOV.out b e;omega))
          have htk : x.paths.take (q + 1) = x.paths.take q ++ [p]:=by rw [List.take_add_one,hp];rfl
          have hlen : ((([] : List Int) :: ps.map ints) ++ (x.paths.take q).map (fun p=>(j : Int) :: ints p)).length ≤ 1000000:=by
            have:=HLP.out
            simp
            omega
          obtain ⟨P,hP⟩ : ∃ P,((([] : List Int) :: ps.map ints) ++ (x.paths.take q).map (fun p=>(j : Int) :: ints p)) = P:=⟨_,rfl⟩
          have hP2 : ((([] : List Int) :: ps.map ints) ++ (x.paths.take (q + 1)).map (fun p=>(j : Int) :: ints p)) = P ++ [(j : Int) :: ints p]:=by rw [← hP,htk];simp
          rw [hP] at hI' hlen
          have kq:=hk.1
          have HI2:=hid hI';have HK:=hid hk.2;have HP2:=hid hP2;have HPL:=hid hplen;have HLEN:=hid hlen
          clear hI' hk hP2 hplen hP htk hpq hp hlen
          go_upto_region 10 with fail
          obtain ⟨wz,hwz⟩ : ∃ wz,wr = wz:=⟨_,rfl⟩
          obtain ⟨W2,hW2⟩ : ∃ W2,wr.alloc (.cells #[.int .i64 (j : Int)] 3) = W2:=⟨_,rfl⟩
          rw [hW2]
          have hb2 : Below wr.heap.size wr W2:=by rw [← hW2];exact (Below.refl _ wr).alloc (Nat.le_refl _) _
          have own2 : W2.ownsRow wr.heap.size 3 1 (.slice (some ⟨wr.heap.size,0,none⟩) 1 1) 1 [.int .i64 (j : Int)]:=by
            rw [← hW2];exact World.ownsRow_lit wr #[.int .i64 (j : Int)] 1 (Nat.le_refl _) (by unfold maxLen;omega) rfl
          have hk2:=HK.out.below hb2 (Nat.le_refl _)
          have kq2:=(hb2.cell (p:=⟨gl,q,none⟩) (World.block_lt_of_cell? wr _ kq)).trans kq
          have hbs2:=hb2.size
          have hW2z : W2.heap.size = wr.heap.size + 1:=by rw [← hW2];simp
          clear kq
          go_upto_region 11 with (at_builtin;refine wpList_append_ints2 rfl _ _ rfl wr.heap.size 1 [.int .i64 (j : Int)] _ rfl own2 hbs2 _ (ints p) _ rfl hk2 (by omega) HPL.out ?_;intro v' w' hown' hgrow)
          obtain ⟨i0,hi,hz0,hz1,hz2⟩:=info_parts infoP
          have hgs:=hgrow.size
          have hovl:=HI2.out.row.lt
          have hNN : W1.heap.size ≤ wr.heap.size:=HI2.out.below.size
          have hrow5 : (w'.alloc (.cells #[v'] 31)).ownsRow W1.heap.size 31 1 ow P.length L':=by
            refine own_keep HI2.out.row fun b e=>?_
            have hbl:=hovl b e
            rw [Below.heap_alloc _ _ _ (by omega),hgrow.block b (by omega) (fun e=>by have e2 : b = wr.heap.size:=Option.some.inj e;omega),← hW2,Below.heap_alloc _ _ _ hbl.2]
          obtain ⟨a3,c3,hv3,_⟩:=own_len' hown'
          have HO:=hid hown';have HG:=hid hgrow;have HW2:=hid hW2;have HR5:=hid hrow5;have HLEN2:=hid HLEN.out
          subst hv3
          clear hown' hgrow hW2 own2 hk2 kq2 hb2 hovl hrow5
          go_wp2_with (at_builtin;refine wpList_append_own_at _ rfl _ _ 28 rfl W1.heap.size 31 i0 _ 1 24 Try.underlying28 hi hz0 hz1 hz2 rfl (by decide) _ _ _ rfl HR5.out ⟨w'.heap.size,0,none⟩ 1 1 [.slice a3 (1 + (ints p).length) c3] rfl rfl (cell_one_new _ _ _) (by simp [Value.oneCell']) (by unfold maxLen;have:=HLEN.out;omega) (by have:=HLEN.out;omega) (by simp;omega) ?_;intro v5 w5 hown5 hgrow5 _ hat5)
          have hstep:=RPI.step HI2.out HNW.out HPL.out HO.out (by rw [HW2.out];exact HG.out) hown5 hgrow5 (hat5.imp id fun e=>e.trans (by simp))
          rw [← HP2.out] at hstep
          have hcb : c ≤ 1000000:=by have:=HLP.out;omega
          have HSTEP:=hid hstep
          clear hstep hown5 hgrow5 hat5 hNN hgs hbs2 hW2z
          exact ⟨⟨q + 1,_,v5,hql,num_next hql hcb,rfl,HSTEP.out⟩,num_less hql hcb⟩
        · obtain rfl : q = c:=by omega
          have hge : decide ((q : Int) < (q : Int)) = false:=by simp
          have hfin : (([] : List Int) :: ps.map ints) ++ (x.paths.take q).map (fun p=>(j : Int) :: ints p) = [] :: (Fo.paths 0 (f.take (j + 1))).map ints:=by
            rw [List.take_of_length_le (by rw [Nd.paths_len,HCC.out];exact Nat.le_refl _),HPS.out]
            simp [ints,List.map_map,Function.comp_def]
          rw [hfin] at hI'
          have HI2:=hid hI'.start
          clear hI' hfin
          go_wp2_with fail
          exact ⟨⟨j + 1,L',_,by omega,by go_num,rfl,HI2.out⟩,by simp [intOf];omega⟩
    · obtain rfl : j = m:=by omega
      have hge : decide ((j : Int) < (j : Int)) = false:=by simp
      rw [Fo.take_all (by rw [HL.out];exact Nat.le_refl _)] at hI
      have HI:=hid hI
      clear hI hbw
      go_wp2_with fail
      go_ret
      refine ⟨_,L,rfl,?_,?_,?_⟩
      · have h1:=HI.out.row
        have h2 : (([] : List Int) :: (Fo.paths 0 f).map ints).length = (⟨k,t,f⟩ : Nd).count:=by simp [Fo.paths_len,Nd.count];omega
        rw [h2] at h1
        exact own_less h1 (by have:=HSZ.out;omega)
      · have h1:=HI.out.lists
        have h2 : (⟨k,t,f⟩ : Nd).paths.map ints = [] :: (Fo.paths 0 f).map ints:=rfl
        rw [h2]
        exact h1.keep (fun b hb=>⟨by have:=HSZ.out;have:=hb.1;omega,hb.2.1⟩) (fun _ _=>rfl)
      · exact HB0.out.trans (HI.out.below.mono (by have:=HSZ.out;omega))
end Go.Proofs.Ythadnhpkeljdoaa.nd
namespace Go.Proofs.Ythadnhpkeljdoaa.nd
open Go.Lib (hid)
open Go.RowKit Go.Shelf sx ed
attribute [local go_sem] Oper.semAt_some
def PIB (w : World) (N G B : Nat) (pre : List Told) (D : Nat → Prop) (W : World) : Prop:=PI w N G pre D W ∧ BX B 41 (.func (.func 13) #[] #[]) D W
theorem PIB.ab (w : World) (N G B : Nat) : AbD (PIB w N G B):=fun s D D' A A' h hb hD=>⟨PI.ab w N G s D D' A A' h.1 hb hD,h.2.ab hb hD⟩
theorem PIB.own (w : World) (N G B' B : Nat) (hB : w.heap.size ≤ B) (D : Nat → Prop) : OwnFrom B (fun s W=>PIB w N G B' s D W):=fun s X Y row h hg hr =>
  ⟨PI.own w N G B hB D s X Y row h.1 hg hr,h.2.own hg (fun r e=>(hr r e).2)⟩
theorem PR.box {W z w2 : World} {N B G n : Nat} {t e : TypeId} {u v' ov : Value} {L : List Value} {o : Obj} (hz : Below W.heap.size W z) (hg : (z.alloc o).grownBy w2 ov.ownBlock) (hrow : W.ownsRow G e 1 ov n L) (hb : Boxed W B t u) (ht : t ≠ e) (hN : N ≠ B) :
    Boxed (w2.setCell ⟨N,0,none⟩ v') B t u:=by
  have hB:=Boxed.lt hb
  have h0 : ov.ownBlock ≠ some B:=own_no hrow (show Blk W B t #[u] from hb) ht
  have hzs:=hz.size
  have h1 : w2.heap[B]? = z.heap[B]?:=(hg.block B (by simp;omega) (fun e=>h0 e.symm)).trans (Below.heap_alloc _ _ _ (by omega))
  have h2 : (w2.setCell ⟨N,0,none⟩ v').heap[B]? = w2.heap[B]?:=Below.heap_setCell _ _ _ B (fun e=>hN e.symm)
  exact h2.trans (h1.trans ((hz.block B hB).trans hb))
abbrev paTmpsB (w : World) (xv pv v9 v10 v11 v12 v13 : Value) : Act :=
  { tmps:=#[xv,.pointer (some ⟨w.heap.size,0,none⟩),.slice none 0 0,.pointer (some ⟨w.heap.size + 1,0,none⟩),pv,xv,.func (.func 23) #[] #[.pointer (some ⟨w.heap.size + 1 + 1 + 1,0,none⟩),.pointer (some ⟨w.heap.size + 1 + 1,0,none⟩)],pv,v9,v10,v11,v12,v13,undef],defers:=[] }
def PRVB (w : World) (xv pv : Value) (G : Nat) (ov : Value) (q : List Int) (m k : Nat) (L : List Value) (N : Nat) (W1 : World) (listed : Array Bool) (a : Act) (u : World) : Prop :=
  listed.size = 6 ∧ ∃ v9 v10 v11 v12 v13,a = paTmpsB w xv pv v9 v10 v11 v12 v13 ∧ PR G ov pv q m k L N W1 (rinv.done listed) v9 v10 v11 v12 v13 u
theorem brackets_in (n : Nat) (hn : 3 ≤ n) (x : Nd) (hct : x.count ≤ 1000000) (w : World) (v : Value) (hu : NdAt (Lt w.heap.size) w x v) :
    CallsIn Fence.wide n Try.prog 6 #[v] w fun e w'=>∃ v' L,e = .returned v' ∧ w'.ownsRow w.heap.size 31 1 v' (x.walkB []).length L ∧ ListsAt (Frsh w.heap.size w'.heap.size) w' L ((x.walkB []).map fun y=>ints y.1) ∧ Below w.heap.size w w':=by
  have h1 : 1 ≤ n:=by omega
  obtain ⟨s,rfl,hs⟩:=hu
  obtain ⟨ao,cap,rfl,hm⟩:=hs.slice
  obtain ⟨W0,hW0⟩ : ∃ W0,(((w.alloc (.cells #[.int .i64 x.k,.string x.t,.slice ao x.kids.len cap] 25)).alloc (.cells #[.slice none 0 0] 28)).alloc (.cells #[.int .i64 x.k,.string x.t,.slice ao x.kids.len cap] 25)).alloc (.cells #[(.func (.func 13) #[] #[])] 41) = W0:=⟨_,rfl⟩
  have hb0 : Below w.heap.size w W0:=by rw [← hW0];exact ((((Below.refl _ w).alloc (Nat.le_refl _) _).alloc (by simp) _).alloc (by simp;omega) _).alloc (by simp;omega) _
  have hsz : W0.heap.size = w.heap.size + 4:=by rw [← hW0];simp
  have k2 : Boxed W0 (w.heap.size + 1) 28 (.slice none 0 0):=by
    have:=((Boxed.new (w.alloc (.cells #[.int .i64 x.k,.string x.t,.slice ao x.kids.len cap] 25)) 28 (.slice none 0 0)).alloc (.cells #[.int .i64 x.k,.string x.t,.slice ao x.kids.len cap] 25)).alloc (.cells #[(.func (.func 13) #[] #[])] 41)
    rw [← hW0];simpa using this
  have k3 : Blk W0 (w.heap.size + 1 + 1) 25 #[.int .i64 x.k,.string x.t,.slice ao x.kids.len cap]:=by
    rw [← hW0]
    simpa using (Blk.new ((w.alloc (.cells #[.int .i64 x.k,.string x.t,.slice ao x.kids.len cap] 25)).alloc (.cells #[.slice none 0 0] 28)) 25 #[.int .i64 x.k,.string x.t,.slice ao x.kids.len cap]).alloc (.cells #[(.func (.func 13) #[] #[])] 41)
  have k4 : Boxed W0 (w.heap.size + 1 + 1 + 1) 41 (.func (.func 13) #[] #[]):=by
    rw [← hW0]
    simpa using Boxed.new (((w.alloc (.cells #[.int .i64 x.k,.string x.t,.slice ao x.kids.len cap] 25)).alloc (.cells #[.slice none 0 0] 28)).alloc (.cells #[.int .i64 x.k,.string x.t,.slice ao x.kids.len cap] 25)) 41 (.func (.func 13) #[] #[])
  have hseq:=sought_all x hct (n - 1) w.heap.size (w.heap.size + 1 + 1) W0 hb0.size ao cap (w.heap.size + 1 + 1 + 1) k3 (hs.below hb0 (Nat.le_refl _))
  obtain ⟨xv,hxv⟩ : ∃ xv,(Value.agg #[.int .i64 x.k,.string x.t,.slice ao x.kids.len cap]) = xv:=⟨_,rfl⟩
  have HSEQ:=hid hseq;have HW0:=hid hW0;have HB0:=hid hb0;have HSZ:=hid hsz;have HK2:=hid k2;have HK4:=hid k4;have HXV:=hid hxv
  clear hseq hW0 hb0 hsz k2 k3 k4 hs hxv
  refine callsIn_of_wp_marks Try.func6 rfl trivial ?_ rfl
  simp only [Try.ntmps6,List.size_toArray,List.length_cons,List.length_nil,Nat.reduceAdd,Nat.reduceSub,Array.replicate_succ,Array.replicate_zero,List.push_toArray,List.append_toArray,List.nil_append,List.cons_append]
  gi_wp2_with fail
  refine ⟨trivial,?_⟩
  refine (sought_calls x _ ao cap (n - 1)).mono ?_
  rintro e w' ⟨rfl,rfl⟩
  gi_wp2_with fail
  rw [HW0.out,HXV.out]
  have hws : w.heap.size ≤ W0.heap.size:=HB0.out.size
  refine wpIn_rangeFunc_E (F:=Fence.wide) rfl h1 (gf:=23) (lb:=#[.pointer (some ⟨w.heap.size + 1 + 1 + 1,0,none⟩),.pointer (some ⟨w.heap.size + 1 + 1,0,none⟩)]) rfl trivial (enters_of Try.func23 (by kernel_rfl) rfl)
    HSEQ.out hws (Below.refl _ _) (fun x D W vs h=>by obtain ⟨pv,rfl,_⟩:=h;rfl)
    (PIB w (w.heap.size + 1) W0.heap.size (w.heap.size + 1 + 1 + 1)) (PIB.ab w _ _ _) (fun pre D W h=>h.2.1) (PIB.own w _ _ _ _ hws) ⟨⟨⟨.slice none 0 0,[],⟨HK2.out,id⟩,World.ownsRow_nil _ _ _ _,(fun k e=>(by cases e)),⟨rfl,(fun i q h=>(by simp at h))⟩,Nat.le_refl _⟩,HB0.out,fun k hk=>hk.elim⟩,HK4.out,id⟩
    (fun y D vs a' W=>∃ yo yc,vs = #[.slice yo y.1.length yc] ∧ IntsAt D W (.slice yo y.1.length yc) (ints y.1) ∧ a' = paTmpsB w xv (.slice yo y.1.length yc) undef undef undef undef undef)
    (fun y D vs a' s X Y row h hg hr=>by obtain ⟨yo,yc,h1,h2,h3⟩:=h;exact ⟨yo,yc,h1,ints_own h2 hg (fun r e=>(hr r e).2),h3⟩) ?assign ?body ?done
  case assign =>
    rintro l pre y D W vs K hI hD ⟨pv,rfl,hp⟩ hK
    obtain ⟨yo,yc,rfl,_⟩:=id hp
    rw [show (y.1.map fun (n : Nat)=>(n : Int)).length = y.1.length by simp] at hp ⊢
    gi_wp2
    exact hK _ _ ((KeepsOthers.refl _).from _) (KD.refl _ _ _) hI ⟨yo,yc,by simp,hp,rfl⟩
  case body =>
    rintro l pre y rest D vs a' W hys hl hPI hD ⟨yo,yc,rfl,hpy,rfl⟩
    have hmx : Try.prog.follows .mixedOrders = true:=by kernel_rfl
    have hdep : 1 ≤ n - 1 - 1:=by omega
    have hfc : Fence.wide.fn 14:=trivial
    obtain ⟨⟨⟨ov,L,⟨hb,hnd⟩,hrow,hod,hL,hGW⟩,hI⟩,hbx⟩:=hPI
    have HBX:=hid hbx
    clear hbx
    obtain ⟨i0,hi,hz0,hz1,hz2⟩:=info_parts infoP
    have hpl : pre.length ≤ 1000000:=by
      have:=congrArg List.length hys
      have h0:=List.length_filter_le (fun (t : Told)=>t.2.isBr) (x.walk [])
      rw [Nd.walk_len] at h0
      unfold Nd.walkB at this
      rw [List.length_append,List.length_cons] at this
      omega
    have hql : (ints y.1).length ≤ 1000000:=by
      have h1:=Nd.walk_short x (p:=[]) (y:=y) (List.mem_filter.1 (show y ∈ (x.walk []).filter (fun (t : Told)=>t.2.isBr) from by rw [show (x.walk []).filter (fun (t : Told)=>t.2.isBr) = x.walkB [] from rfl,hys];simp)).1
      have h2:=Nd.deep_le x
      simp [ints] at h1 ⊢
      omega
    have hqm : (ints y.1).length = y.1.length:=by simp [ints]
    obtain ⟨q,hq⟩ : ∃ q,ints y.1 = q:=⟨_,rfl⟩
    obtain ⟨m,hmm⟩ : ∃ m,y.1.length = m:=⟨_,rfl⟩
    rw [hq] at hql hqm hpy
    rw [hmm] at hqm hpy ⊢
    have HQ:=hid hq;have HQM:=hid hqm;have HQL:=hid hql
    have hqm1 : m ≤ 1000000:=by omega
    clear hq hmm hqm hql
    have HROW:=hid hrow;have HB:=hid hb;have HPY:=hid hpy;have HL:=hid hL;have HOD:=hid hod;have HI:=hid hI;have HDL:=hid hD
    have hsz1 : W.drew.heap.size = W.heap.size:=rfl
    clear hb hpy hL hod hI hys hD hrow
    gi_wp2
    refine wpIn_region_any hmx ?_
    change wpAnyIn _ _ _ _ _ _ _ _ _ W.drew
    refine rinv.wpAnyIn_inv (PRVB w xv (.slice yo m yc) W0.heap.size ov q m pre.length L (w.heap.size + 1) W.drew) ?step ?fin _ _ _ _ (by decide) ?start
    case start =>
      refine ⟨rfl,_,_,_,_,_,rfl,?_⟩
      constructor <;> first | exact fun h=>absurd h (by decide) | exact fun _=>rfl
    case fin =>
      rintro listed a u ⟨hsl,v9,v10,v11,v12,v13,rfl,h⟩ hre
      have hno : ∀ i,i ∉ Region.ready _ _ listed:=fun i hi=>by rw [hre] at hi;cases hi
      have mk : ∀ i,i < 6 → _ → rinv.done listed i = true:=fun i hi ha=>by
        cases hq : rinv.done listed i with
        | true=>rfl
        | false=>exact absurd (rinv.ready_of hi hsl hq ha) (hno i)
      have k0:=mk 0 (by omega) (by simp)
      have k1:=mk 1 (by omega) (by simp)
      have k2:=mk 2 (by omega) (by simp [k1])
      have k3:=mk 3 (by omega) (by simp [k2])
      have k4:=mk 4 (by omega) (by simp [k0,k3,k2])
      have k5:=mk 5 (by omega) (by simp [k0,k1,k2,k3,k4])
      obtain ⟨z,w2,v',ca,cc,hi2,hz2,hown2,hg2,hat2,rfl⟩:=h.w5 k5
      have hL2:=HL.out
      have hlast:=PR.last (w:=w) (W:=W.drew) (N:=w.heap.size + 1) (G:=W0.heap.size) (m:=m) (pre:=pre) (y:=y) (D:=D) (L:=L) (by have:=HSZ.out;omega) (by omega) hGW hnd HB.out HROW.out HOD.out hL2 ⟨HI.out.1.drew,HI.out.2⟩ (fun k hk=>(HDL.out k hk).2) hz2 (by rw [HQ.out];exact hi2) hown2 hg2 hat2
      have hbx2 : BX (w.heap.size + 1 + 1 + 1) 41 (.func (.func 13) #[] #[]) D (w2.setCell ⟨w.heap.size + 1,0,none⟩ v'):=⟨PR.box hz2 hg2 HROW.out HBX.out.1 (by decide) (by omega),HBX.out.2⟩
      clear mk hno k0 k1 k2 k3 k4 k5 hre h hL2 hi2 hz2 hown2 hg2 hat2
      gi_wp2
      have hkd : KD w.heap.size D W _:=⟨((Below.refl _ W).drew).trans hlast.2.1.1,hlast.2.1.2⟩
      have hfin : PIB w (w.heap.size + 1) W0.heap.size (w.heap.size + 1 + 1 + 1) (pre ++ [y]) D _:=⟨hlast.2.2,hbx2⟩
      first | exact ⟨((KeepsOthers.drew W).trans hlast.1).from _,hkd⟩ | exact ⟨((KeepsOthers.drew W).trans hlast.1).from _,hkd,hfin⟩
    case step =>
      rintro listed a u i ⟨hsl,v9,v10,v11,v12,v13,rfl,h⟩ hi
      obtain ⟨hlt11,hnot,haft⟩:=rinv.ready_mem hi
      have hd : rinv.done (listed.setIfInBounds i true) = fun k=>(k == i) || rinv.done listed k:=funext (rinv.done_set hnot)
      have hni:=rinv.done_not hnot
      have hsl' : (listed.setIfInBounds i true).size = 6:=by rw [Array.size_setIfInBounds];exact hsl
      have HD:=hid hd;have HS:=hid hsl';have HN:=hid hni;have HA:=hid haft
      have HH:=hid h
      clear hd hsl' hsl hnot hi hni haft h
      match i,hlt11 with
      | 0,_ =>
        refine rinv.wpOpIn_of_list rfl ?_
        have h4:=not_of (fun e=>(HH.out.q4 e).1) HN.out
        have hc : u.cell? ⟨w.heap.size + 1,0,none⟩ = some ov:=by
          have hbx : Boxed u (w.heap.size + 1) 28 ov:=by
            have hW : Boxed W.drew (w.heap.size + 1) 28 ov:=HB.out
            cases h2 : rinv.done listed 2 with
            | false=>rw [HH.out.w1 h2];exact hW
            | true =>
              cases h3 : rinv.done listed 3 with
              | false =>
                obtain ⟨_,_,_,_,hb⟩:=HH.out.w2 h2 h3
                exact (hb.block _ (Boxed.lt hW)).trans hW
              | true =>
                obtain ⟨z,_,_,_,hb,rfl,_⟩:=HH.out.w3 h3 h4
                exact Boxed.alloc (W:=z) ((hb.block _ (Boxed.lt hW)).trans hW) _
          exact hbx.cell
        clear h4
        gi_wp2
        refine ⟨HS.out,_,_,_,_,_,rfl,?_⟩
        rw [HD.out]
        exact { HH.out with p0:=fun _=>rfl,q4:=fun e=>⟨rfl,(HH.out.q4 e).2⟩ }
      | 1,_ =>
        refine rinv.wpOpIn_of_list rfl ?_
        gi_wp2
        refine ⟨HS.out,_,_,_,_,_,rfl,?_⟩
        rw [HD.out]
        exact { HH.out with p1:=fun _=>rfl,q2:=fun _=>rfl }
      | 2,_ =>
        refine rinv.wpOpIn_of_list rfl ?_
        have h1 : rinv.done listed 1 = true:=by have h:=HA.out;simp [Region.binds] at h;simp [h]
        have e10:=HH.out.p1 h1
        subst e10
        have h3:=not_of HH.out.q3 HN.out
        have h4:=not_of (fun e=>(HH.out.q4 e).2) h3
        have h5:=not_of HH.out.q5 h4
        have hu:=HH.out.w1 HN.out
        have H1:=hid h1;have H3:=hid h3;have H4:=hid h4;have H5:=hid h5
        subst hu
        have hcl:=cloneI_calls D q HQL.out W.drew (.slice yo m yc) (HPY.out.keep (fun _ e=>e) (fun _ _=>rfl))
        rw [HQM.out] at hcl
        have HCL:=hid hcl
        clear h1 h3 h4 h5 hcl
        gi_wp2_with (gi_at_call 14;refine (CallsIn.inRound l (callsIn_wide.2 HCL.out)).mono ?_;rintro e w' ⟨ca,cc,rfl,hic,hbc⟩)
        refine ⟨HS.out,_,_,_,_,_,rfl,?_⟩
        rw [HD.out]
        exact { HH.out with
          q2:=fun _=>H1.out,q3:=fun _=>rfl
          w1:=fun e=>by cases e
          w2:=fun _ _=>⟨ca,cc,rfl,hic,hbc⟩
          w3:=fun e=>absurd (show rinv.done listed 3 = true from e) (by rw [H3.out];simp)
          w4:=fun e=>absurd (show rinv.done listed 4 = true from e) (by rw [H4.out];simp)
          w5:=fun e=>absurd (show rinv.done listed 5 = true from e) (by rw [H5.out];simp) }
      | 3,_ =>
        refine rinv.wpOpIn_of_list rfl ?_
        have h2 : rinv.done listed 2 = true:=by have h:=HA.out;simp [Region.binds] at h;simp [h]
        obtain ⟨ca,cc,rfl,hic,hbc⟩:=HH.out.w2 h2 HN.out
        have h4:=not_of (fun e=>(HH.out.q4 e).2) HN.out
        have h5:=not_of HH.out.q5 h4
        have H2:=hid h2;have H4:=hid h4;have H5:=hid h5
        clear h2 h4 h5
        gi_wp2
        refine ⟨HS.out,_,_,_,_,_,rfl,?_⟩
        rw [HD.out]
        exact { HH.out with
          q3:=fun _=>H2.out,q4:=fun e=>⟨(HH.out.q4 e).1,rfl⟩
          w1:=fun e=>absurd (show rinv.done listed 2 = false from e) (by rw [H2.out];simp)
          w2:=fun _ e=>by cases e
          w3:=fun _ _=>⟨u,ca,cc,hic,hbc,rfl,rfl⟩
          w4:=fun e=>absurd (show rinv.done listed 4 = true from e) (by rw [H4.out];simp)
          w5:=fun e=>absurd (show rinv.done listed 5 = true from e) (by rw [H5.out];simp) }
      | 4,_ =>
        refine rinv.wpOpIn_of_list rfl ?_
        have h2 : rinv.done listed 0 = true ∧ rinv.done listed 3 = true ∧ rinv.done listed 2 = true:=by have h:=HA.out;simp [Region.binds] at h;simp [h]
        obtain ⟨z,ca,cc,hic,hbc,rfl,e12⟩:=HH.out.w3 h2.2.1 HN.out
        subst e12
        have e9:=HH.out.p0 h2.1
        subst e9
        have h5:=not_of HH.out.q5 HN.out
        have H2:=hid h2;have H5:=hid h5
        have hrz:=(own_step (show W.drew.ownsRow W0.heap.size 31 1 v9 pre.length L from HROW.out) hbc).alloc (.cells #[.slice ca m cc] 31)
        have hzs:=hbc.size
        clear h2 h5
        refine wpListIn_append_own_at _ rfl _ _ 28 rfl W0.heap.size 31 i0 _ 1 24 Try.underlying28 hi hz0 hz1 hz2 rfl (by decide) _ _ _ rfl hrz ⟨z.heap.size,0,none⟩ 1 1 [.slice ca m cc] rfl rfl (cell_one_new _ _ _) (by simp [Value.oneCell']) (by unfold maxLen;omega) (by omega) (by simp;omega) ?_
        intro v' w' hown' hgrow _ hat
        obtain ⟨a7,c7,rfl,hc7⟩:=own_len' hown'
        gi_wp2
        refine ⟨HS.out,_,_,_,_,_,rfl,?_⟩
        rw [HD.out]
        exact { HH.out with
          q4:=fun _=>⟨H2.out.1,H2.out.2.1⟩,q5:=fun _=>rfl
          w1:=fun e=>absurd (show rinv.done listed 2 = false from e) (by rw [H2.out.2.2];simp)
          w2:=fun _ e=>absurd (show rinv.done listed 3 = false from e) (by rw [H2.out.2.1];simp)
          w3:=fun _ e=>by cases e
          w4:=fun _ _=>⟨z,ca,cc,hic,hbc,hown',hgrow,hat.imp id fun e=>e.trans (by simp)⟩
          w5:=fun e=>absurd (show rinv.done listed 5 = true from e) (by rw [H5.out];simp) }
      | 5,_ =>
        refine rinv.wpOpIn_of_list rfl ?_
        have h2 : rinv.done listed 4 = true:=by have h:=HA.out;simp [Region.binds] at h;simp [h]
        obtain ⟨z,ca,cc,hic,hbc,hown',hgrow,hat⟩:=HH.out.w4 h2 HN.out
        have h3:=HH.out.q4 h2
        have h22:=HH.out.q3 h3.2
        have H2:=hid h2;have H3:=hid h3;have H22:=hid h22
        obtain ⟨a7,c7,rfl,hc7⟩:=own_len' hown'
        have hbz : Boxed z (w.heap.size + 1) 28 ov:=(hbc.block _ (Boxed.lt HB.out)).trans HB.out
        have hbu : Boxed u (w.heap.size + 1) 28 ov:=(hgrow.block _ (by have:=Boxed.lt hbz;simp;omega) (fun e=>by have:=(HROW.out.lt _ e.symm).1;have:=HSZ.out;omega)).trans (hbz.alloc _)
        have hc:=hbu.cell
        have hf:=hbu.frozen
        clear h2 h3 h22 hbz hbu
        gi_wp2
        refine ⟨HS.out,_,_,_,_,_,rfl,?_⟩
        rw [HD.out]
        exact { HH.out with
          q5:=fun _=>H2.out
          w1:=fun e=>absurd (show rinv.done listed 2 = false from e) (by rw [H22.out];simp)
          w2:=fun _ e=>absurd (show rinv.done listed 3 = false from e) (by rw [H3.out.2];simp)
          w3:=fun _ e=>absurd (show rinv.done listed 4 = false from e) (by rw [H2.out];simp)
          w4:=fun _ e=>by cases e
          w5:=fun _=>⟨z,u,_,ca,cc,hic,hbc,hown',hgrow,hat,rfl⟩ }
      | (j + 6),h=>exact absurd h (by simp)
  case done =>
    rintro D D1 W hD ⟨⟨⟨ov,L,⟨hb,hnd⟩,hrow,hod,hL,hGW⟩,hI⟩,_⟩ hdef
    have c1:=hb.cell
    have HI:=hid hI;have HD:=hid hdef;have HL:=hid hL;have HROW:=hid hrow
    clear hI hdef hb hL hrow
    gi_wp2
    refine ⟨by simp,.inl ⟨_,_,rfl,run_takeDeferred HD.out,?_⟩⟩
    have hg:=grownBy_putObj' W D (.deferred none)
    have hDr : ∀ r,(some D : Option Nat) = some r → ∃ o : Obj,W.heap[r]? = some o ∧ o.isCells = false:=fun r e=>by cases e;exact ⟨_,HD.out,rfl⟩
    refine ⟨_,results_tmp rfl _ _ _,ov,L,rfl,own_less (row_own W0.heap.size 31 1 (fun (_ : Unit)=>ov) (fun _=>(x.walkB []).length) (fun _=>L) () W _ _ HROW.out hg hDr) hws,⟨HL.out.1,fun i q hq=>?_⟩,HI.out.1.grown hg HI.out.1.size (fun j e=>by cases e;omega)⟩
    obtain ⟨cv,e1,e2⟩:=HL.out.2 i q hq
    have hgs:=hg.size
    exact ⟨cv,e1,ints_own (e2.keep (fun k hk=>⟨by have:=hk.1;omega,by have:=hk.2.1;omega⟩) (fun _ _=>rfl)) hg hDr⟩
theorem brackets_calls (x : Nd) (hct : x.count ≤ 1000000) (w : World) (v : Value) (hu : NdAt (Lt w.heap.size) w x v) :
    Calls Try.prog 6 #[v] w fun e w'=>∃ v' L,e = .returned v' ∧ w'.ownsRow w.heap.size 31 1 v' (x.walkB []).length L ∧ ListsAt (Frsh w.heap.size w'.heap.size) w' L ((x.walkB []).map fun y=>ints y.1) ∧ Below w.heap.size w w' :=
  callsIn_wide.1 (brackets_in 3 (Nat.le_refl _) x hct w v hu)
end Go.Proofs.Ythadnhpkeljdoaa.nd
namespace Go.Proofs.Ythadnhpkeljdoaa.Lx
open Go.RowKit
theorem next_of {x y : Lex} {l : List UInt8} {k : Int} {n : Nat} (hf : find (tried x) l = some (k,n)) (ht : turn x k (l.take n) = .ok y) : next x l = .ok (k,n,y):=by
 unfold next;rw [hf];simp only;rw [ht]
theorem find_q_in (r : List UInt8) : find inside (34 :: r) = some (11,1):=rfl
theorem find_o_in (r : List UInt8) : find inside (92 :: 40 :: r) = some (9,2):=rfl
theorem find_c_clo (r : List UInt8) : find closing (41 :: r) = some (10,1):=rfl
end Go.Proofs.Ythadnhpkeljdoaa.Lx
