/-
  edit.Right: the contract, for every list of edits and every number.
-/
import Derived.Test.YtepniobmhplphaaEdIter
import Derived.ChangeAlike
namespace Go.Proofs.Ytepniobmhplphaa.ed
open Go.RowKit Go.Shelf
attribute [local go_sem] Oper.semAt_some
set_option linter.unusedVariables false

abbrev snds (pre : List (Int × Ed)) : List Ed := pre.map (·.2)

/-- Between two rounds. -/
def RI (w : World) (v : Value) (n : Int) (pre : List (Int × Ed)) (W : World) : Prop :=
  ((((((Boxed W w.heap.size 3 (.int .i64 n) ∧ Boxed W (w.heap.size + 1) 4 (.bool false)) ∧ Boxed W (w.heap.size + 1 + 1) 3 (.int .i64 (lastF (-1) (snds pre)))) ∧ Boxed W (w.heap.size + 1 + 1 + 1) 3 (.int .i64 (lastT 0 (snds pre)))) ∧ Boxed W (w.heap.size + 1 + 1 + 1 + 1) 22 v)) ∧ rightG (-1) 0 n (snds pre) = true) ∧ Below w.heap.size w W
/-- A round has left. -/
def RX (w : World) (n : Int) (c : Code) (pre : List (Int × Ed)) (W : World) : Prop :=
  ((c = .ret ∧ rightG (-1) 0 n (snds pre) = false) ∧ Boxed W (w.heap.size + 1) 4 (.bool false)) ∧ Below w.heap.size w W
def RA (w : World) (v : Value) (n : Int) (len : Nat) (x : Int × Ed) (a' : Act) (W : World) : Prop :=
  ∃ Bx, w.heap.size + 4 < Bx ∧ Blk W Bx 44 #[.int .i64 x.2.f, .int .i64 x.2.t, .string x.2.x] ∧ a' = { tmps := #[v, .int .i64 n, undef, .pointer (some ⟨w.heap.size, 0, none⟩), .pointer (some ⟨w.heap.size + 1, 0, none⟩), .pointer (some ⟨w.heap.size + 1 + 1, 0, none⟩), .pointer (some ⟨w.heap.size + 1 + 1 + 1, 0, none⟩), undef, .pointer (some ⟨Bx, 0, none⟩), v, .int .i64 (len : Int), .bool (decide ((1000 : Int) < (len : Int))), v, .func (.func 34) #[] #[.pointer (some ⟨w.heap.size + 1 + 1 + 1 + 1, 0, none⟩)], .int .i64 x.1, edV x.2, undef, undef, undef, undef, undef, undef, undef, undef, undef, undef, undef, undef, undef, undef, undef, undef, undef, undef, undef, undef, undef, undef, undef, undef, undef, undef, undef], defers := [] }
def RXs (w : World) (k : Nat) : Prop := k = w.heap.size + 1 + 1 ∨ k = w.heap.size + 1 + 1 + 1
theorem RI_own (w : World) (v : Value) (n : Int) (B : Nat) (hB : w.heap.size ≤ B) : OwnFrom B (RI w v n) :=
  OwnFrom.and (OwnFrom.and (OwnFrom.and (OwnFrom.and (OwnFrom.and (OwnFrom.and (Own.from (boxed_own _ _ _) _) (Own.from (boxed_own _ _ _) _)) (Own.from (boxed_own _ _ _) _)) (Own.from (boxed_own _ _ _) _)) (Own.from (boxed_own _ _ _) _)) (ownFrom_pure _ _)) (ownFrom_below (Nat.le_refl _) hB)
theorem RX_own (w : World) (n : Int) (c : Code) (B : Nat) (hB : w.heap.size ≤ B) : OwnFrom B (RX w n c) :=
  OwnFrom.and (OwnFrom.and (ownFrom_pure _ _) (Own.from (boxed_own _ _ _) _)) (ownFrom_below (Nat.le_refl _) hB)
theorem RA_own (w : World) (v : Value) (n : Int) (len : Nat) (x : Int × Ed) (a' : Act) (B : Nat) : OwnFrom B (fun (_ : Unit) W => RA w v n len x a' W) :=
  fun _ X Y row hs hg hr => by obtain ⟨Bx, h1, h2, h3⟩ := hs; exact ⟨Bx, h1, blk_own Bx 44 (fun (_ : Unit) => #[.int .i64 x.2.f, .int .i64 x.2.t, .string x.2.x]) () X Y row h2 hg (fun r e => (hr r e).2), h3⟩

theorem rightG_snoc (f t n : Int) (a : List Ed) (e : Ed) : rightG f t n (a ++ [e]) = (rightG f t n a && !bad (lastF f a) (lastT t a) n e) := by
  rw [rightG_append]; simp [rightG]

theorem Boxed.drew' {W : World} {B : Nat} {t : TypeId} {v : Value} (h : Boxed W B t v) : Boxed W.drew B t v := h

theorem RI_go {w W : World} {v : Value} {n : Int} {pre : List (Int × Ed)} {x : Int × Ed} (h : RI w v n pre W) (hle : bad (lastF (-1) (snds pre)) (lastT 0 (snds pre)) n x.2 = false) :
    KeepsOthers W ((W.setCell ⟨w.heap.size + 1 + 1, 0, none⟩ (.int .i64 x.2.f)).setCell ⟨w.heap.size + 1 + 1 + 1, 0, none⟩ (.int .i64 x.2.t)).drew ∧
    KX w.heap.size (RXs w) W ((W.setCell ⟨w.heap.size + 1 + 1, 0, none⟩ (.int .i64 x.2.f)).setCell ⟨w.heap.size + 1 + 1 + 1, 0, none⟩ (.int .i64 x.2.t)).drew ∧
    RI w v n (pre ++ [x]) ((W.setCell ⟨w.heap.size + 1 + 1, 0, none⟩ (.int .i64 x.2.f)).setCell ⟨w.heap.size + 1 + 1 + 1, 0, none⟩ (.int .i64 x.2.t)).drew := by
  obtain ⟨⟨⟨⟨⟨⟨b0, b1⟩, b2⟩, b3⟩, b4⟩, hp⟩, hB⟩ := h
  refine ⟨((KeepsOthers.setCell _ _ _).trans (KeepsOthers.setCell _ _ _)).trans (KeepsOthers.drew _), ⟨(((Below.refl _ W).setCell (p := ⟨w.heap.size + 1 + 1, 0, none⟩) (by simp; omega) _).setCell (p := ⟨w.heap.size + 1 + 1 + 1, 0, none⟩) (by simp; omega) _).drew, ?_⟩, ⟨⟨⟨⟨⟨⟨?_, ?_⟩, ?_⟩, ?_⟩, ?_⟩, ?_⟩, ?_⟩⟩
  · intro k vs t _ hX _ hb
    exact Blk.drew' ((hb.other (fun e => hX (.inl e)) _).other (fun e => hX (.inr e)) _)
  · exact Boxed.drew' ((b0.other (by omega) _).other (by omega) _)
  · exact Boxed.drew' ((b1.other (by omega) _).other (by omega) _)
  · simp only [snds, List.map_append, List.map_cons, List.map_nil, lastF_snoc]; exact Boxed.drew' ((b2.set _).other (by omega) _)
  · simp only [snds, List.map_append, List.map_cons, List.map_nil, lastT_snoc]; exact Boxed.drew' ((b3.other (by omega) _).set _)
  · exact Boxed.drew' ((b4.other (by omega) _).other (by omega) _)
  · simp only [snds, List.map_append, List.map_cons, List.map_nil]; rw [rightG_snoc]; unfold snds at hp hle; rw [hp, hle]; rfl
  · exact ((hB.setCell (p := ⟨w.heap.size + 1 + 1, 0, none⟩) (by simp; omega) _).setCell (p := ⟨w.heap.size + 1 + 1 + 1, 0, none⟩) (by simp; omega) _).drew

theorem RX_fin {w W : World} {v : Value} {n : Int} {pre : List (Int × Ed)} {x : Int × Ed} (h : RI w v n pre W) (hle : bad (lastF (-1) (snds pre)) (lastT 0 (snds pre)) n x.2 = true) :
    KeepsOthers W (W.setCell ⟨w.heap.size + 1, 0, none⟩ (.bool false)) ∧ RX w n .ret (pre ++ [x]) (W.setCell ⟨w.heap.size + 1, 0, none⟩ (.bool false)) := by
  obtain ⟨⟨⟨⟨⟨⟨b0, b1⟩, b2⟩, b3⟩, b4⟩, hp⟩, hB⟩ := h
  refine ⟨KeepsOthers.setCell _ _ _, ⟨⟨rfl, ?_⟩, b1.set _⟩, hB.setCell (p := ⟨w.heap.size + 1, 0, none⟩) (by simp) _⟩
  simp only [snds, List.map_append, List.map_cons, List.map_nil]; rw [rightG_snoc]; unfold snds at hle; rw [hle]; simp

set_option maxRecDepth 100000 in
set_option maxHeartbeats 1000000 in
theorem right_many (n : Nat) (v : Value) (es : List Ed) (ao : Option Addr) (cap : Nat) (hv : v = .slice ao es.length cap) (h : 1000 < es.length) (m : Int) (w : World) :
    CallsIn Fence.wide n Try.prog 15 #[v, .int .i64 m] w fun e W' => e = .returned (.bool false) ∧ Below w.heap.size w W' := by
  subst hv
  have hd : (1000 : Int) < (es.length : Int) := by omega
  refine callsIn_of_wp_marks Try.func15 rfl trivial ?_ rfl
  simp only [Try.ntmps15, List.size_toArray, List.length_cons, List.length_nil, Nat.reduceAdd, Nat.reduceSub, Array.replicate_succ, Array.replicate_zero, List.push_toArray, List.append_toArray, List.nil_append, List.cons_append]
  gi_wp2
  refine ⟨.bool false, ?_, rfl, ?_⟩
  · simp [results, Try.f15, go_sem]
  · exact (((Below.refl _ w).alloc (Nat.le_refl _) _).alloc (by simp) _)

set_option maxRecDepth 100000 in
set_option maxHeartbeats 2000000 in
theorem right_few (n : Nat) (hn : 3 ≤ n) (v : Value) (es : List Ed) (h : es.length ≤ 1000) (m : Int) (w : World) (hes : EdsAt w.heap.size w v es) :
    CallsIn Fence.wide n Try.prog 15 #[v, .int .i64 m] w fun e W' => e = .returned (.bool (rightG (-1) 0 m es)) ∧ Below w.heap.size w W' := by
  obtain ⟨ao, cap, rfl, hmax, hcells⟩ := id hes
  have hd : (es.length : Int) ≤ 1000 := by omega
  have h1 : 1 ≤ n := by omega
  have hf : Fence.wide.fn 26 := trivial
  clear hcells
  obtain ⟨v, hv⟩ : ∃ v, v = Value.slice ao es.length cap := ⟨_, rfl⟩
  refine callsIn_of_wp_marks Try.func15 rfl trivial ?_ rfl
  simp only [Try.ntmps15, List.size_toArray, List.length_cons, List.length_nil, Nat.reduceAdd, Nat.reduceSub, Array.replicate_succ, Array.replicate_zero, List.push_toArray, List.append_toArray, List.nil_append, List.cons_append]
  gi_wp2_with (gi_at_call 26; refine (placed_in (n - 1) _ ao es.length cap rfl _).mono ?_; rintro e w' ⟨rfl, rfl⟩)
  rw [← hv] at hes ⊢
  clear hv
  obtain ⟨W0, hW0⟩ : ∃ W0, (((((w.alloc (.cells #[.int .i64 m] 3)).alloc (.cells #[.bool false] 4)).alloc (.cells #[.int .i64 (-1)] 3)).alloc (.cells #[.int .i64 0] 3)).alloc (.cells #[v] 22)) = W0 := ⟨_, rfl⟩
  have hB0 : Below w.heap.size w W0 := by rw [← hW0]; exact (((((Below.refl _ w).alloc (Nat.le_refl _) _).alloc (by simp) _).alloc (by simp; omega) _).alloc (by simp; omega) _).alloc (by simp; omega) _
  have hsz : W0.heap.size = w.heap.size + 5 := by rw [← hW0]; simp
  have b0 : Boxed W0 w.heap.size 3 (.int .i64 m) := by rw [← hW0]; exact ((((Boxed.new w _ _).alloc _).alloc _).alloc _).alloc _
  have b1 : Boxed W0 (w.heap.size + 1) 4 (.bool false) := by
    rw [← hW0]; have := (((Boxed.new (w.alloc (.cells #[.int .i64 m] 3)) 4 (.bool false)).alloc (.cells #[.int .i64 (-1)] 3)).alloc (.cells #[.int .i64 0] 3)).alloc (.cells #[v] 22)
    simpa only [World.size_alloc] using this
  have b2 : Boxed W0 (w.heap.size + 1 + 1) 3 (.int .i64 (-1)) := by
    rw [← hW0]; have := ((Boxed.new ((w.alloc (.cells #[.int .i64 m] 3)).alloc (.cells #[.bool false] 4)) 3 (.int .i64 (-1))).alloc (.cells #[.int .i64 0] 3)).alloc (.cells #[v] 22)
    simpa only [World.size_alloc] using this
  have b3 : Boxed W0 (w.heap.size + 1 + 1 + 1) 3 (.int .i64 0) := by
    rw [← hW0]; have := (Boxed.new (((w.alloc (.cells #[.int .i64 m] 3)).alloc (.cells #[.bool false] 4)).alloc (.cells #[.int .i64 (-1)] 3)) 3 (.int .i64 0)).alloc (.cells #[v] 22)
    simpa only [World.size_alloc] using this
  have b4 : Boxed W0 (w.heap.size + 1 + 1 + 1 + 1) 22 v := by
    rw [← hW0]; have := Boxed.new ((((w.alloc (.cells #[.int .i64 m] 3)).alloc (.cells #[.bool false] 4)).alloc (.cells #[.int .i64 (-1)] 3)).alloc (.cells #[.int .i64 0] 3)) 22 v
    simpa only [World.size_alloc] using this
  rw [hW0]
  clear hW0
  refine wpIn_rangeFunc_ownH (F := Fence.wide) rfl h1 (gf := 34) (lb := #[.pointer (some ⟨w.heap.size + 1 + 1 + 1 + 1, 0, none⟩)]) rfl trivial (enters_of Try.func34 (by kernel_rfl) rfl)
    (placed_stops (n - 1) (by omega) (w.heap.size + 1 + 1 + 1 + 1) w.heap.size (RXs w) (by unfold RXs; omega) v es W0 (fun k hk => by simp [RXs]; omega) (by omega) b4 (hes.below hB0)) KX.trans (KX.put (by omega)) (Below.refl _ _) (fun _ => rfl)
    (RI w v m) (RX w m)
    (RI_own w v m _ (by omega)) (fun c => RX_own w m c _ (by omega))
    ⟨⟨⟨⟨⟨⟨b0, b1⟩, b2⟩, b3⟩, b4⟩, rfl⟩, hB0⟩
    (RA w v m es.length) (fun x a' => RA_own w v m es.length x a' _)
    ?assign ?body ?done ?stop
  case assign =>
    rintro l pre x W K hI hK
    gi_wp2
    obtain ⟨⟨⟨⟨⟨⟨b0, b1⟩, b2⟩, b3⟩, b4⟩, hp⟩, hB⟩ := hI
    exact hK _ _ ((KeepsOthers.alloc _ _).from _) (KX.alloc _ _ _ hB.size) ⟨⟨⟨⟨⟨⟨b0.alloc _, b1.alloc _⟩, b2.alloc _⟩, b3.alloc _⟩, b4.alloc _⟩, hp⟩, hB.alloc hB.size _⟩ ⟨W.heap.size, by have := b4.lt; omega, Blk.new W 44 _, rfl⟩
  case body =>
    rintro l pre x a' W hl ⟨r, hr⟩ hI ⟨Bx, hBx, bX, rfl⟩ hlt
    obtain ⟨⟨⟨⟨⟨⟨b0, b1⟩, b2⟩, b3⟩, b4⟩, hp⟩, hB⟩ := id hI
    have HI := Lib.hid hI
    have c0 := b0.cell
    have f1 := b1.frozen
    have f2 := b2.frozen
    have f3 := b3.frozen
    have c1 := b1.cell
    have c2 := b2.cell
    have c3 := b3.cell
    have x0 : W.cell? ⟨Bx, 0, none⟩ = some (.int .i64 x.2.f) := bX.cell 0
    have x1 : W.cell? ⟨Bx, 1, none⟩ = some (.int .i64 x.2.t) := bX.cell 1
    have hmx : Try.prog.follows .mixedOrders = true := by kernel_rfl
    have hgo := fun hh => RI_go (x := x) hI hh
    have hfin := fun hh => RX_fin (x := x) hI hh
    obtain ⟨F0, hF0⟩ : ∃ F0, lastF (-1) (snds pre) = F0 := ⟨_, rfl⟩
    obtain ⟨T0, hT0⟩ : ∃ T0, lastT 0 (snds pre) = T0 := ⟨_, rfl⟩
    rw [hF0, hT0] at hgo hfin
    rw [hF0] at c2
    rw [hT0] at c3
    clear hF0 hT0 hp hI b2 b3
    have HG := Lib.hid hgo; have HF := Lib.hid hfin
    clear hgo hfin
    by_cases t1 : x.2.f < T0
    · gi_wp2
      have := HF.out (by simp [bad, t1])
      exact ⟨this.1.from _, this.2⟩
    · have t1' : T0 ≤ x.2.f := by omega
      by_cases t2 : x.2.f ≤ F0
      · gi_wp2
        have := HF.out (by simp [bad, t2])
        exact ⟨this.1.from _, this.2⟩
      · have t2' : F0 < x.2.f := by omega
        by_cases t3 : x.2.t < x.2.f
        · gi_wp2
          have := HF.out (by simp [bad, t3])
          exact ⟨this.1.from _, this.2⟩
        · have t3' : x.2.f ≤ x.2.t := by omega
          by_cases t4 : m < x.2.t
          · gi_wp2
            have := HF.out (by simp [bad, t4])
            exact ⟨this.1.from _, this.2⟩
          · have t4' : x.2.t ≤ m := by omega
            have hG := HG.out (by simp [bad, t1, t2, t3, t4])
            have HH := Lib.hid hG
            clear hG
            gi_wp2
            gi_region_o
            all_goals gi_wp2
            all_goals exact ⟨HH.out.1.from _, HH.out.2⟩
  case done =>
    rintro D ys W hD rfl hI hK
    obtain ⟨⟨⟨⟨⟨⟨b0, b1⟩, b2⟩, b3⟩, b4⟩, hp⟩, hB⟩ := hI
    have HP := Lib.hid hp
    have f1 := b1.frozen
    have c1 := b1.cell
    clear hp
    gi_wp2
    have hk3 : KeepsOthers W (W.setCell ⟨w.heap.size + 1, 0, none⟩ (.bool true)) := KeepsOthers.setCell _ _ _
    have hK' := hk3.same D _ hK rfl
    have d1 := (b1.set (.bool true)).cell
    have hB3 := hB.setCell (p := ⟨w.heap.size + 1, 0, none⟩) (by simp) (.bool true)
    refine ⟨by simp, .inl ⟨_, _, rfl, run_takeDeferred hK', ?_⟩⟩
    have e1 := cell_kept d1 (grownBy_putObj' _ D (.deferred none)) (fun r e => by cases e; exact ⟨_, hK', rfl⟩)
    refine ⟨.bool true, ?_, by have := HP.out; unfold snds at this; rw [placed_snd] at this; rw [this], hB3.trans (belowK_b (w := w) (Nat.le_refl _) _ D _ _ (by omega) hK' rfl rfl)⟩
    simp [results, Try.f15, go_sem, e1]
  case stop =>
    rintro D c pre W hD hpre hX hK
    obtain ⟨⟨⟨rfl, hno⟩, c1⟩, hB⟩ := hX
    have HP := Lib.hid (rightG_pre (placed_pre hpre) hno)
    clear hno hpre
    gi_wp2
    refine ⟨by simp, .inl ⟨_, _, rfl, run_takeDeferred hK, ?_⟩⟩
    have e1 := cell_kept c1.cell (grownBy_putObj' _ D (.deferred none)) (fun r e => by cases e; exact ⟨_, hK, rfl⟩)
    refine ⟨.bool false, ?_, by rw [HP.out], hB.trans (belowK_b (w := w) (Nat.le_refl _) _ D _ _ (by omega) hK rfl rfl)⟩
    simp [results, Try.f15, go_sem, e1]

/-- edit.Right, for every list and every number. -/
theorem right_in (n : Nat) (hn : 3 ≤ n) (v : Value) (es : List Ed) (m : Int) (w : World) (hes : EdsAt w.heap.size w v es) :
    CallsIn Fence.wide n Try.prog 15 #[v, .int .i64 m] w fun e W' => e = .returned (.bool (rightF es m)) ∧ Below w.heap.size w W' := by
  unfold rightF
  by_cases h : es.length ≤ 1000
  · rw [decide_eq_true h, Bool.true_and]
    exact right_few n hn v es h m w hes
  · rw [decide_eq_false h, Bool.false_and]
    obtain ⟨ao, cap, hv, _⟩ := hes
    exact right_many n v es ao cap hv (by omega) m w

end Go.Proofs.Ytepniobmhplphaa.ed
