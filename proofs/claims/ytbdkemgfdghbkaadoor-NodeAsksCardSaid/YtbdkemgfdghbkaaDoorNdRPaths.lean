/-
  node: the document's Paths.
-/
import Derived.Test.YtbdkemgfdghbkaaDoorNdAppI
import Derived.Test.YtbdkemgfdghbkaaDoorNdPaths2
import Derived.Deep.RegionHeld3
import Derived.IntWalk
namespace Go.Proofs.YtbdkemgfdghbkaaDoor.nd
open Go.RowKit sx ed
set_option linter.unusedVariables false

theorem Fo.paths_app : ∀ (i : Nat) (f g : Fo), Fo.paths i (f.app g) = Fo.paths i f ++ Fo.paths (i + f.len) g
  | i, .nil, g => by simp [Fo.app, Fo.paths, Fo.len]
  | i, .cons k t kids r, g => by
    simp only [Fo.app, Fo.paths, Fo.len, Fo.paths_app (i + 1) r g, List.append_assoc]
    rw [show i + 1 + r.len = i + (r.len + 1) by omega]
theorem Fo.paths_snoc {f : Fo} {i : Nat} {x : Nd} (h : f.get? i = some x) : Fo.paths 0 (f.take (i + 1)) = Fo.paths 0 (f.take i) ++ x.paths.map (i :: ·) := by
  rw [Fo.take_snoc h, Fo.paths_app, Fo.take_len (Nat.le_of_lt (Fo.get_lt h))]
  simp [Fo.paths, Nd.paths]

/-- append(s, p...), where p is a list of numbers, nil or not, and s a row that is owned. -/
theorem wpList_append_ints2 {w : World} {ops : Array Oper} {rest : List Oper} {o : Oper} {a : Act} {Q : Exit → Act → World → Prop} (hgd : o.guard = none) (s x : Operand)
    (ho : o.op = .call { callee := .builtin .append, args := #[s, x], argTypes := #[25, 25] })
    (base n : Nat) (xs : List Value) (v : Value) (hs : a.eval s = v) (hown : w.ownsRow base 3 1 v n xs) (hbase : base ≤ w.heap.size)
    (S : Nat → Prop) (l : List Int) (u : Value) (hx : a.eval x = u) (hu : IntsAt S w u l) (hn : n ≤ 1000000) (hl : l.length ≤ 1000000)
    (h : ∀ v' w', w'.ownsRow base 3 1 v' (n + l.length) (xs ++ l.map fun z => .int .i64 z) → w.grownBy w' v.ownBlock → wpList Tryd.prog ops Q rest (a.put o.dst v') w') : wpList Tryd.prog ops Q (o :: rest) a w := by
  obtain ⟨i0, hi, hz0, hz1, hz2⟩ := info_parts infoI
  obtain ⟨ao, cap, rfl, hm, hlc, hr⟩ := hu
  cases ao with
  | none =>
    have hn : l = [] := by
      cases l with
      | nil => rfl
      | cons z r => obtain ⟨g, o, e, _⟩ := hr (by simp); cases e
    subst hn
    have hrun : (Builtin.append_ #[25, 25] o.type #[v, .slice none 0 cap]).run Tryd.prog w = .ok v w := by
      rcases hown.2 with ⟨rfl, _⟩ | ⟨g, c, cur, rfl, _, _, hle, _⟩
      · simp [Builtin.append_, run_underlying Tryd.underlying25, sizeOf, typeInfo, hi, Builtin.lenOf, Builtin.firstCells]
      · simp [Builtin.append_, run_underlying Tryd.underlying25, sizeOf, typeInfo, hi, Builtin.lenOf, Builtin.firstCells, hle, storeCells]
    refine wpList_plain hgd fun K hK => ?_
    unfold Oper.wp
    simp [execOp, ho, resolve, invoke, builtin, hs, hx, hrun, Result.andThen]
    exact hK _ _ (h _ _ (by simpa using hown) ⟨rfl, rfl, rfl, Nat.le_refl _, fun _ _ _ => rfl⟩)
  | some b =>
    have hnews : ∀ j u, (l.map fun z => (Value.int .i64 z))[j]? = some u → w.cell? (b.add j) = some u := fun j u hj => by
      have hne : l ≠ [] := fun e => by rw [e] at hj; simp at hj
      obtain ⟨g, o, e, _, hc⟩ := hr hne
      cases e
      rw [List.getElem?_map, Option.map_eq_some_iff] at hj
      obtain ⟨z, hz, rfl⟩ := hj
      rw [addr_add]
      exact hc j z hz
    refine wpList_append_own_at _ hgd s x 25 ho base 3 i0 _ 1 8 Tryd.underlying25 hi hz0 hz1 hz2 rfl (by decide) v n xs hs hown b l.length cap (l.map fun z => .int .i64 z) hx (by simp) hnews (by intro u hu; obtain ⟨z, _, rfl⟩ := List.mem_map.1 hu; rfl) (by unfold maxLen; omega) (by omega) hbase ?_
    intro v' w' hown' hgrow _ _
    exact h v' w' hown' hgrow

theorem own_intsF {W : World} {base : Nat} {v : Value} {l : List Int} (h : W.ownsRow base 3 1 v l.length (l.map fun z => .int .i64 z)) (hm : l.length ≤ maxLen) : IntsAt (Frsh base W.heap.size) W v l := by
  obtain ⟨ao, cap, rfl, hc⟩ := own_len' h
  refine ⟨ao, cap, rfl, hm, hc, fun hn => ?_⟩
  rcases id h.2 with ⟨_, h0⟩ | ⟨g, cp, cur, e, _⟩
  · exact absurd (List.length_eq_zero_iff.1 h0) hn
  · cases e
    refine ⟨g, 0, rfl, h.lt g rfl, fun j z hj => ?_⟩
    have := h.cells (g := g) rfl j (.int .i64 z) (by rw [List.getElem?_map, hj]; rfl)
    rw [nd.addr_add] at this
    exact this

/-- Blocks of lists: beyond N, there, not the row's own. -/
def SQ (N : Nat) (o : Value) (W : World) (k : Nat) : Prop := N ≤ k ∧ k < W.heap.size ∧ o.ownBlock ≠ some k
/-- The list that is made: since wi, where it was oi, nothing else has turned. -/
structure RPI (N : Nat) (W1 wi : World) (oi : Value) (ps : List (List Int)) (o : Value) (L : List Value) (wr : World) : Prop where
  row : wr.ownsRow N 25 1 o ps.length L
  lists : ListsAt (SQ N o wr) wr L ps
  below : Below N W1 wr
  kept : ∀ b, b < wi.heap.size → oi.ownBlock ≠ some b → wr.heap[b]? = wi.heap[b]?
  size : wi.heap.size ≤ wr.heap.size
  since : o.ownBlock = oi.ownBlock ∨ ∃ b, wi.heap.size ≤ b ∧ o.ownBlock = some b
theorem RPI.start {N : Nat} {W1 wi : World} {oi : Value} {ps : List (List Int)} {o : Value} {L : List Value} {wr : World} (h : RPI N W1 wi oi ps o L wr) : RPI N W1 wr o ps o L wr :=
  ⟨h.row, h.lists, h.below, fun _ _ _ => rfl, Nat.le_refl _, .inl rfl⟩
/-- A call that only adds. -/
theorem RPI.call {N : Nat} {W1 wi : World} {oi : Value} {ps : List (List Int)} {o : Value} {L : List Value} {wr w' : World} (h : RPI N W1 wi oi ps o L wr) (hN : N ≤ wr.heap.size) (hb : Below wr.heap.size wr w') : RPI N W1 w' o ps o L w' := by
  have hs := hb.size
  refine ⟨own_keep h.row (fun k e => hb.block k (h.row.lt k e).2), h.lists.keep (fun k hk => ⟨hk.1, Nat.lt_of_lt_of_le hk.2.1 hs, hk.2.2⟩) (fun k hk => hb.block k hk.2.1), h.below.trans (hb.mono hN), fun _ _ _ => rfl, Nat.le_refl _, .inl rfl⟩
theorem RPI.step {N : Nat} {W1 wi wr W3 W5 : World} {oi o o' v' : Value} {ps : List (List Int)} {L : List Value} {j : Int} {q : List Int} (h : RPI N W1 wi oi ps o L wr) (hN : N ≤ wi.heap.size) (hq : q.length ≤ 1000000)
    (h3 : W3.ownsRow wr.heap.size 3 1 v' (1 + q.length) ((j :: q).map fun z => .int .i64 z))
    (g3 : (wr.alloc (.cells #[.int .i64 j] 3)).grownBy W3 (some wr.heap.size))
    (h5 : W5.ownsRow N 25 1 o' (ps.length + 1) (L ++ [v']))
    (g5 : (W3.alloc (.cells #[v'] 25)).grownBy W5 o.ownBlock)
    (ha : o'.ownBlock = o.ownBlock ∨ o'.ownBlock = some (W3.heap.size + 1)) : RPI N W1 wi oi (ps ++ [j :: q]) o' (L ++ [v']) W5 := by
  have s3 := g3.size
  have s5 := g5.size
  rw [World.size_alloc] at s3 s5
  have hsz := h.size
  have hov : ∀ b, o.ownBlock = some b → N ≤ b ∧ b < wr.heap.size := h.row.lt
  have hlow : ∀ b, b < wr.heap.size → o.ownBlock ≠ some b → W5.heap[b]? = wr.heap[b]? := fun b hb ho =>
    (((g5.block b (by simp; omega) (fun e => ho e.symm)).trans (Below.heap_alloc _ _ _ (by omega))).trans (g3.block b (by simp; omega) (fun e => by cases e; omega))).trans (Below.heap_alloc _ _ _ hb)
  have hnew : ∀ b, Frsh wr.heap.size W3.heap.size b → W5.heap[b]? = W3.heap[b]? := fun b hb =>
    (g5.block b (by have := hb.2; simp; omega) (fun e => by have := (hov b e.symm).2; have := hb.1; omega)).trans (Below.heap_alloc _ _ _ hb.2)
  have hno : ∀ b, b < W3.heap.size → o.ownBlock ≠ some b → o'.ownBlock ≠ some b := fun b hb ho e => by
    rcases ha with h | h
    · exact ho (h ▸ e)
    · rw [h] at e; cases e; omega
  have hi := own_intsF (l := j :: q) (by rw [List.length_cons, Nat.add_comm]; exact h3) (by unfold maxLen; simp; omega)
  refine ⟨by simpa using h5, ?_, ?_, fun b hb ho => ?_, by omega, ?_⟩
  · refine ListsAt.snoc (h.lists.keep (fun k hk => ⟨hk.1, by have := hk.2.1; omega, hno k (by have := hk.2.1; omega) hk.2.2⟩) (fun k hk => hlow k hk.2.1 hk.2.2)) (hi.keep (fun k hk => ⟨by have := hk.1; omega, by have := hk.2; omega, hno k hk.2 (fun e => by have := (hov k e).2; have := hk.1; omega)⟩) hnew)
  · refine h.below.trans ?_
    exact ((((Below.refl N wr).alloc (by omega) _).grown g3 (by simp; omega) (fun k hk => by cases hk; omega)).alloc (by omega) _).grown g5 (by simp; omega) (fun k hk => (hov k hk).1)
  · have hb1 : o.ownBlock ≠ some b := by
      rcases h.since with e | ⟨c, hc, e⟩
      · rw [e]; exact ho
      · rw [e]; intro e2; cases e2; omega
    exact (hlow b (by omega) hb1).trans (h.kept b hb ho)
  · rcases ha with e | e
    · rw [e]; exact h.since
    · exact .inr ⟨_, by omega, e⟩

/-- A row of lists, as the walk wants it. -/
theorem lists_row {w2 : World} {G c : Nat} {v : Value} {L : List Value} {ps : List (List Nat)} (hc : 1 ≤ c) (hown : w2.ownsRow G 25 1 v c L) (hls : ListsAt (Frsh G w2.heap.size) w2 L (ps.map ints)) :
    ∃ gl cl, v = .slice (some ⟨gl, 0, none⟩) c cl ∧ c ≤ cl ∧ gl < w2.heap.size ∧ ∀ (k : Nat) (p : List Nat), ps[k]? = some p → ∃ pa pc, ∀ W, w2.heap.size ≤ W.heap.size → (∀ b, G ≤ b → b < w2.heap.size → W.heap[b]? = w2.heap[b]?) → W.cell? ⟨gl, k, none⟩ = some (.slice pa p.length pc) ∧ IntsAt (Lt W.heap.size) W (.slice pa p.length pc) (ints p) := by
  have hrow : ∃ gl cl, v = .slice (some ⟨gl, 0, none⟩) c cl ∧ c ≤ cl ∧ gl < w2.heap.size ∧ G ≤ gl := by
    rcases id hown.2 with ⟨_, h0⟩ | ⟨g, cp, cur, e, _, _, h4, _⟩
    · omega
    · have := hown.lt g (by rw [e]; rfl)
      exact ⟨g, cp, e, h4, this.2, this.1⟩
  obtain ⟨gl, cl, rfl, hcl, hgl, hgg⟩ := hrow
  refine ⟨gl, cl, rfl, hcl, hgl, fun k p hp => ?_⟩
  obtain ⟨cv, hcv, hci⟩ := hls.2 k (ints p) (by rw [List.getElem?_map, hp]; rfl)
  obtain ⟨pa, pc, rfl, _⟩ := id hci
  have hcell := hown.cells (g := gl) rfl k _ hcv
  rw [nd.addr_add, Nat.zero_add] at hcell
  rw [show (ints p).length = p.length by simp [ints]] at hcell hci
  refine ⟨pa, pc, fun W hs hb => ⟨?_, hci.keep (fun j hj => Nat.lt_of_lt_of_le hj.2 hs) (fun j hj => hb j hj.1 hj.2)⟩⟩
  have := hb gl hgg hgl
  rw [← hcell]
  simp [World.cell?, this]
theorem paths_short {x : Nd} {p : List Nat} (h : p ∈ x.paths) : p.length ≤ x.count := by
  rw [← Nd.walk_paths] at h
  obtain ⟨y, hy, rfl⟩ := List.mem_map.1 h
  have h1 := Nd.walk_short x hy
  have h2 := Nd.deep_le x
  simp at h1
  omega

theorem num_next {q c : Nat} (h : q < c) (hc : c ≤ 1000000) : Value.int .i64 (wrap64 ((q : Int) + 1)) = .int .i64 ((q + 1 : Nat) : Int) := by
  rw [IntWalk.wrap64_in _ (by omega)]; rfl
theorem num_less {q c : Nat} (h : q < c) (hc : c ≤ 1000000) : c - (intOf (Value.int .i64 (wrap64 ((q : Int) + 1)))).toNat < c - (intOf (Value.int .i64 (q : Int))).toNat := by
  rw [num_next h hc]; simp [intOf]; omega
def RPathsOk (x : Nd) : Prop := x.count ≤ 1000000 → ∀ (w : World) (v : Value), NdAt (Lt w.heap.size) w x v →
  Calls Tryd.prog 12 #[v] w fun e w' => ∃ v' L, e = .returned v' ∧ w'.ownsRow w.heap.size 25 1 v' x.count L ∧ ListsAt (Frsh w.heap.size w'.heap.size) w' L (x.paths.map ints) ∧ Below w.heap.size w w'

set_option maxRecDepth 100000 in
set_option maxHeartbeats 8000000 in
theorem rpaths_ok (x : Nd) : RPathsOk x := by
  refine Nd.induct (p := RPathsOk) (fun x hp hcnt w v hu => ?_) x
  obtain ⟨s, rfl, hs⟩ := hu
  obtain ⟨ao, cap, rfl, hm⟩ := hs.slice
  obtain ⟨k, t, f⟩ := x
  dsimp only at hs hm hp ⊢
  unfold maxLen at hm
  obtain ⟨W1, hW1⟩ : ∃ W1, w.alloc (.cells #[.int .i64 k, .string t, .slice ao f.len cap] 24) = W1 := ⟨_, rfl⟩
  have hb0 : Below w.heap.size w W1 := by rw [← hW1]; exact (Below.refl _ w).alloc (Nat.le_refl _) _
  have hk1 : Blk W1 w.heap.size 24 #[.int .i64 k, .string t, .slice ao f.len cap] := by rw [← hW1]; exact Blk.new w _ _
  have hsz : W1.heap.size = w.heap.size + 1 := by rw [← hW1]; simp
  obtain ⟨m, hmm⟩ : ∃ m, f.len = m := ⟨_, rfl⟩
  rw [hmm] at hm hs hW1 hk1 ⊢
  obtain ⟨W0, hW0⟩ : ∃ W0, W1.alloc (.cells #[.slice none 0 0] 25) = W0 := ⟨_, rfl⟩
  have hst : RPI W1.heap.size W1 W1 (.slice none 0 0) [[]] (.slice (some ⟨W1.heap.size, 0, none⟩) 1 1) [.slice none 0 0] W0 := by
    rw [← hW0]
    refine ⟨⟨rfl, .inr ⟨W1.heap.size, 1, #[.slice none 0 0], rfl, Nat.le_refl _, heap_alloc_new W1 _, Nat.le_refl _, by unfold maxLen; omega, rfl, rfl⟩⟩, ⟨rfl, fun i q hq => ?_⟩, (Below.refl _ W1).alloc (Nat.le_refl _) _, fun b hb _ => Below.heap_alloc _ _ _ hb, by simp, .inr ⟨_, Nat.le_refl _, rfl⟩⟩
    match i, hq with
    | 0, hq => cases hq; exact ⟨_, rfl, none, 0, rfl, Nat.zero_le _, Nat.le_refl _, fun h => absurd rfl h⟩
    | i + 1, hq => simp at hq
  have HF := Lib.hid (hs.below hb0 (Nat.le_refl _)); have HL := Lib.hid hmm; have HP := Lib.hid hp; have HB0 := Lib.hid hb0
  have HK1 := Lib.hid hk1; have HW1 := Lib.hid hW1; have HW0 := Lib.hid hW0; have HCN := Lib.hid hcnt; have HST := Lib.hid hst; have HSZ := Lib.hid hsz
  clear hs hmm hp hb0 hk1 hW1 hW0 hcnt hst hsz
  go_enter Tryd.func12, Tryd.ntmps12
  go_wp2_with fail
  rw [HW1.out, HW0.out]
  try rw [HSZ.out.symm]
  go_loopw [3, 4] (fun o i wr => ∃ (j : Nat) (L : List Value) (ov : Value), j ≤ m ∧ i = .int .i64 (j : Int) ∧ ov = o ∧ RPI W1.heap.size W1 wr ov ([] :: (Fo.paths 0 (f.take j)).map ints) ov L wr) (fun _ i _ => m - (intOf i).toNat)
  case atStart =>
    refine ⟨0, [.slice none 0 0], _, Nat.zero_le _, rfl, rfl, ?_⟩
    have : Fo.paths 0 (f.take 0) = [] := by cases f <;> rfl
    rw [this]
    exact HST.out.start
  case round =>
    obtain ⟨j, L, ov, hj, rfl, rfl, hI⟩ := hrel
    have hbw := hI.below
    have hWl : W1.heap.size ≤ _ := hbw.size
    have a2 := (HK1.out.own hbw).cell 2
    by_cases hlt : j < m
    · obtain ⟨x, hx⟩ := Fo.get_of_lt (f := f) (i := j) (by rw [HL.out]; exact hlt)
      have hFw := HF.out.toLt.below hbw (Nat.le_refl _)
      obtain ⟨g1, o1, ao1, cap1, rfl, _, hg1, d0, d1, d2, d3⟩ := hFw.get hx
      have hlt1 : (j : Int) < (m : Int) := by omega
      have hcx := Fo.count_get hx
      have hcn := HCN.out
      simp only [Nd.count] at hcn
      obtain ⟨c, hc⟩ : ∃ c, x.count = c := ⟨_, rfl⟩
      have hc1 : 1 ≤ c := by rw [← hc]; simp [Nd.count]
      have hlp : (Fo.paths 0 (f.take j)).length + c ≤ 1000000 := by rw [Fo.paths_len]; omega
      have hcall := HP.out.get hx (by omega) wr _ (NdAt.mk d3.toLt)
      rw [hc] at hcall
      have hps := Fo.paths_snoc hx
      obtain ⟨ps, hpe⟩ : ∃ ps, Fo.paths 0 (f.take j) = ps := ⟨_, rfl⟩
      rw [hpe] at hI hps hlp
      have HC := Lib.hid hcall; have HI := Lib.hid hI; have HPS := Lib.hid hps; have HCC := Lib.hid hc; have HLP := Lib.hid hlp; have HWL := Lib.hid hWl
      clear hcall hI hps hc hbw hWl hx d3 hFw hcx hcn hpe hlp
      go_wp2_with fail
      ((with_reducible refine HC.out.mono ?_); rintro e w1 ⟨v1, L1, rfl, hown1, hls1, hb1⟩)
      obtain ⟨gl, cl, rfl, hcl, hgl, hpath⟩ := lists_row hc1 hown1 hls1
      have hst := HI.out.call HWL.out hb1
      have hNw : W1.heap.size ≤ w1.heap.size := Nat.le_trans HWL.out hb1.size
      have hov := fun b (e : ov.ownBlock = some b) => (HI.out.row.lt b e).2
      have HPATH := Lib.hid hpath; have HST1 := Lib.hid hst; have HNW := Lib.hid hNw; have HOV := Lib.hid hov
      clear hpath hst hNw hov hown1 hls1 hb1 a2 d0 d1 d2
      go_wp2_with fail
      go_loopw [3, 6] (fun o' i' wz => ∃ (q : Nat) (L' : List Value) (ow : Value), q ≤ c ∧ i' = .int .i64 (q : Int) ∧ ow = o' ∧ RPI W1.heap.size W1 w1 ov (([] :: ps.map ints) ++ (x.paths.take q).map (fun p => (j : Int) :: ints p)) ow L' wz) (fun _ i' _ => c - (intOf i').toNat)
      case atStart =>
        refine ⟨0, L, _, Nat.zero_le _, rfl, rfl, ?_⟩
        rw [List.take_zero, List.map_nil, List.append_nil]
        exact HST1.out
      case round =>
        obtain ⟨q, L', ow, hq, rfl, rfl, hI'⟩ := hrel
        by_cases hql : q < c
        · have hql1 : (q : Int) < (c : Int) := by omega
          obtain ⟨p, hp⟩ : ∃ p, x.paths[q]? = some p := ⟨_, List.getElem?_eq_getElem (by rw [Nd.paths_len, HCC.out]; exact hql)⟩
          have hplen : (ints p).length ≤ 1000000 := by have := paths_short (List.mem_of_getElem? hp); have := HCC.out; have := HLP.out; simp [ints]; omega
          obtain ⟨pa, pc, hpq⟩ := HPATH.out q p hp
          have hk := hpq _ hI'.size (fun b hl hu => hI'.kept b hu (fun e => by have := HOV.out b e; omega))
          have htk : x.paths.take (q + 1) = x.paths.take q ++ [p] := by rw [List.take_add_one, hp]; rfl
          have hlen : ((([] : List Int) :: ps.map ints) ++ (x.paths.take q).map (fun p => (j : Int) :: ints p)).length ≤ 1000000 := by
            have := HLP.out
            simp
            omega
          obtain ⟨P, hP⟩ : ∃ P, ((([] : List Int) :: ps.map ints) ++ (x.paths.take q).map (fun p => (j : Int) :: ints p)) = P := ⟨_, rfl⟩
          have hP2 : ((([] : List Int) :: ps.map ints) ++ (x.paths.take (q + 1)).map (fun p => (j : Int) :: ints p)) = P ++ [(j : Int) :: ints p] := by rw [← hP, htk]; simp
          rw [hP] at hI' hlen
          have kq := hk.1
          have HI2 := Lib.hid hI'; have HK := Lib.hid hk.2; have HP2 := Lib.hid hP2; have HPL := Lib.hid hplen; have HLEN := Lib.hid hlen
          clear hI' hk hP2 hplen hP htk hpq hp hlen
          go_upto_region 10 with fail
          obtain ⟨wz, hwz⟩ : ∃ wz, wr = wz := ⟨_, rfl⟩
          obtain ⟨W2, hW2⟩ : ∃ W2, wr.alloc (.cells #[.int .i64 (j : Int)] 3) = W2 := ⟨_, rfl⟩
          rw [hW2]
          have hb2 : Below wr.heap.size wr W2 := by rw [← hW2]; exact (Below.refl _ wr).alloc (Nat.le_refl _) _
          have own2 : W2.ownsRow wr.heap.size 3 1 (.slice (some ⟨wr.heap.size, 0, none⟩) 1 1) 1 [.int .i64 (j : Int)] := by
            rw [← hW2]; exact World.ownsRow_lit wr #[.int .i64 (j : Int)] 1 (Nat.le_refl _) (by unfold maxLen; omega) rfl
          have hk2 := HK.out.below hb2 (Nat.le_refl _)
          have kq2 := (hb2.cell (p := ⟨gl, q, none⟩) (World.block_lt_of_cell? wr _ kq)).trans kq
          have hbs2 := hb2.size
          have hW2z : W2.heap.size = wr.heap.size + 1 := by rw [← hW2]; simp
          clear kq
          go_upto_region 11 with (at_builtin; refine wpList_append_ints2 rfl _ _ rfl wr.heap.size 1 [.int .i64 (j : Int)] _ rfl own2 hbs2 _ (ints p) _ rfl hk2 (by omega) HPL.out ?_; intro v' w' hown' hgrow)
          obtain ⟨i0, hi, hz0, hz1, hz2⟩ := info_parts infoP
          have hgs := hgrow.size
          have hovl := HI2.out.row.lt
          have hNN : W1.heap.size ≤ wr.heap.size := HI2.out.below.size
          have hrow5 : (w'.alloc (.cells #[v'] 25)).ownsRow W1.heap.size 25 1 ow P.length L' := by
            refine own_keep HI2.out.row fun b e => ?_
            have hbl := hovl b e
            rw [Below.heap_alloc _ _ _ (by omega), hgrow.block b (by omega) (fun e => by have e2 : b = wr.heap.size := Option.some.inj e; omega), ← hW2, Below.heap_alloc _ _ _ hbl.2]
          obtain ⟨a3, c3, hv3, _⟩ := own_len' hown'
          have HO := Lib.hid hown'; have HG := Lib.hid hgrow; have HW2 := Lib.hid hW2; have HR5 := Lib.hid hrow5; have HLEN2 := Lib.hid HLEN.out
          subst hv3
          clear hown' hgrow hW2 own2 hk2 kq2 hb2 hovl hrow5
          go_wp2_with (at_builtin; refine wpList_append_own_at _ rfl _ _ 30 rfl W1.heap.size 25 i0 _ 1 24 Tryd.underlying30 hi hz0 hz1 hz2 rfl (by decide) _ _ _ rfl HR5.out ⟨w'.heap.size, 0, none⟩ 1 1 [.slice a3 (1 + (ints p).length) c3] rfl rfl (cell_one_new _ _ _) (by simp [Value.oneCell']) (by unfold maxLen; have := HLEN.out; omega) (by have := HLEN.out; omega) (by simp; omega) ?_; intro v5 w5 hown5 hgrow5 _ hat5)
          have hstep := RPI.step HI2.out HNW.out HPL.out HO.out (by rw [HW2.out]; exact HG.out) hown5 hgrow5 (hat5.imp id fun e => e.trans (by simp))
          rw [← HP2.out] at hstep
          have hcb : c ≤ 1000000 := by have := HLP.out; omega
          have HSTEP := Lib.hid hstep
          clear hstep hown5 hgrow5 hat5 hNN hgs hbs2 hW2z
          exact ⟨⟨q + 1, _, v5, hql, num_next hql hcb, rfl, HSTEP.out⟩, num_less hql hcb⟩
        · obtain rfl : q = c := by omega
          have hge : decide ((q : Int) < (q : Int)) = false := by simp
          have hfin : (([] : List Int) :: ps.map ints) ++ (x.paths.take q).map (fun p => (j : Int) :: ints p) = [] :: (Fo.paths 0 (f.take (j + 1))).map ints := by
            rw [List.take_of_length_le (by rw [Nd.paths_len, HCC.out]; exact Nat.le_refl _), HPS.out]
            simp [ints, List.map_map, Function.comp_def]
          rw [hfin] at hI'
          have HI2 := Lib.hid hI'.start
          clear hI' hfin
          go_wp2_with fail
          exact ⟨⟨j + 1, L', _, by omega, by go_num, rfl, HI2.out⟩, by simp [intOf]; omega⟩
    · obtain rfl : j = m := by omega
      have hge : decide ((j : Int) < (j : Int)) = false := by simp
      rw [Fo.take_all (by rw [HL.out]; exact Nat.le_refl _)] at hI
      have HI := Lib.hid hI
      clear hI hbw
      go_wp2_with fail
      go_ret
      refine ⟨_, L, rfl, ?_, ?_, ?_⟩
      · have h1 := HI.out.row
        have h2 : (([] : List Int) :: (Fo.paths 0 f).map ints).length = (⟨k, t, f⟩ : Nd).count := by simp [Fo.paths_len, Nd.count]; omega
        rw [h2] at h1
        exact own_less h1 (by have := HSZ.out; omega)
      · have h1 := HI.out.lists
        have h2 : (⟨k, t, f⟩ : Nd).paths.map ints = [] :: (Fo.paths 0 f).map ints := rfl
        rw [h2]
        exact h1.keep (fun b hb => ⟨by have := HSZ.out; have := hb.1; omega, hb.2.1⟩) (fun _ _ => rfl)
      · exact HB0.out.trans (HI.out.below.mono (by have := HSZ.out; omega))
end Go.Proofs.YtbdkemgfdghbkaaDoor.nd
