/-
  edit.Shift: the contract.
-/
import Derived.Test.YtepniobmhplphaaEdMath
import Derived.Stop.RegionWithIn
namespace Go.Proofs.Ytepniobmhplphaa.ed
open Go.RowKit Go.Shelf
attribute [local go_sem] Oper.semAt_some
set_option linter.unusedVariables false

def shiftG (at' : Int) : Int → List Ed → Int
  | m, [] => wr (at' + m)
  | m, e :: r => if at' < e.f then wr (at' + m) else if at' < e.t then wr (e.f + m) else shiftG at' (wr (m + grow e)) r
def shiftF (l : List Ed) (at' : Int) : Int := shiftG at' 0 l
def passed (at' : Int) (l : List Ed) : Prop := ∀ e ∈ l, e.f ≤ at' ∧ e.t ≤ at'
theorem shiftG_passed (at' : Int) : ∀ (m : Int) (a b : List Ed), passed at' a → shiftG at' m (a ++ b) = shiftG at' (more m a) b
  | _, [], _, _ => rfl
  | m, e :: r, b, h => by
    have he := h e (List.mem_cons_self ..)
    rw [List.cons_append]
    simp only [shiftG, more]
    rw [if_neg (by omega), if_neg (by omega)]
    exact shiftG_passed at' _ r b (fun x hx => h x (List.mem_cons_of_mem _ hx))
theorem passed_snoc {at' : Int} {l : List Ed} {e : Ed} (h : passed at' l) (h1 : e.f ≤ at') (h2 : e.t ≤ at') : passed at' (l ++ [e]) := fun x hx => by
  rcases List.mem_append.1 hx with hx | hx
  · exact h x hx
  · simp at hx; subst hx; exact ⟨h1, h2⟩

set_option maxHeartbeats 1000000 in
theorem growth_exact (n : Nat) (e : Ed) (w : World) :
    CallsIn Fence.wide n Try.prog 27 #[edV e] w fun ee w' => ee = .returned (.int .i64 (grow e)) ∧ w' = w.alloc (.cells #[.int .i64 e.f, .int .i64 e.t, .string e.x] 44) := by
  refine callsIn_of_wp Try.func27 rfl trivial ?_ rfl
  simp only [Try.ntmps27, List.size_toArray, List.length_cons, List.length_nil, Nat.reduceAdd, Nat.reduceSub, Array.replicate_succ, Array.replicate_zero, List.push_toArray, List.append_toArray, List.nil_append, List.cons_append]
  gi_wp2
  go_ret
  exact ⟨by simp [grow], rfl⟩

def SI (w : World) (v : Value) (at' : Int) (pre : List (Int × Ed)) (W : World) : Prop :=
  (((((Boxed W w.heap.size 3 (.int .i64 at') ∧ Boxed W (w.heap.size + 1) 3 (.int .i64 0)) ∧ Boxed W (w.heap.size + 1 + 1) 3 (.int .i64 (more 0 (snds pre)))) ∧ Boxed W (w.heap.size + 1 + 1 + 1) 22 v)) ∧ passed at' (snds pre)) ∧ Below w.heap.size w W
def SXb (w : World) (at' : Int) (c : Code) (pre : List (Int × Ed)) (W : World) : Prop :=
  ((((c = .exit 0 ∧ ∃ p x, pre = p ++ [x] ∧ passed at' (snds p) ∧ at' < x.2.f) ∧ Boxed W w.heap.size 3 (.int .i64 at')) ∧ Boxed W (w.heap.size + 1) 3 (.int .i64 0)) ∧ Boxed W (w.heap.size + 1 + 1) 3 (.int .i64 (more 0 (snds pre.dropLast)))) ∧ Below w.heap.size w W
def SXr (w : World) (at' : Int) (c : Code) (pre : List (Int × Ed)) (W : World) : Prop :=
  ((c = .ret ∧ ∃ p x, pre = p ++ [x] ∧ passed at' (snds p) ∧ x.2.f ≤ at' ∧ at' < x.2.t) ∧ Boxed W (w.heap.size + 1) 3 (.int .i64 (pre.getLastD (0, ⟨0, 0, ⟨#[]⟩⟩)).1)) ∧ Below w.heap.size w W
def SX (w : World) (at' : Int) (c : Code) (pre : List (Int × Ed)) (W : World) : Prop := SXb w at' c pre W ∨ SXr w at' c pre W
def SA (w : World) (v : Value) (at' : Int) (x : Int × Ed) (a' : Act) (W : World) : Prop :=
  ∃ Bx, w.heap.size + 3 < Bx ∧ Blk W Bx 44 #[.int .i64 x.2.f, .int .i64 x.2.t, .string x.2.x] ∧ a' = { tmps := #[v, .int .i64 at', undef, .pointer (some ⟨w.heap.size, 0, none⟩), .pointer (some ⟨w.heap.size + 1, 0, none⟩), .pointer (some ⟨w.heap.size + 1 + 1, 0, none⟩), .int .i64 x.1, .pointer (some ⟨Bx, 0, none⟩), v, .func (.func 34) #[] #[.pointer (some ⟨w.heap.size + 1 + 1 + 1, 0, none⟩)], .int .i64 x.1, edV x.2, undef, undef, undef, undef, undef, undef, undef, undef, undef, undef, undef, undef, undef, undef, undef, undef], defers := [] }
def SXs (w : World) (k : Nat) : Prop := k = w.heap.size + 1 + 1
theorem SI_own (w : World) (v : Value) (n : Int) (B : Nat) (hB : w.heap.size ≤ B) : OwnFrom B (SI w v n) :=
  OwnFrom.and (OwnFrom.and (OwnFrom.and (OwnFrom.and (OwnFrom.and (Own.from (boxed_own _ _ _) _) (Own.from (boxed_own _ _ _) _)) (Own.from (boxed_own _ _ _) _)) (Own.from (boxed_own _ _ _) _)) (ownFrom_pure _ _)) (ownFrom_below (Nat.le_refl _) hB)
theorem SXb_own (w : World) (n : Int) (c : Code) (B : Nat) (hB : w.heap.size ≤ B) : OwnFrom B (SXb w n c) :=
  OwnFrom.and (OwnFrom.and (OwnFrom.and (OwnFrom.and (ownFrom_pure _ _) (Own.from (boxed_own _ _ _) _)) (Own.from (boxed_own _ _ _) _)) (Own.from (boxed_own _ _ _) _)) (ownFrom_below (Nat.le_refl _) hB)
theorem SXr_own (w : World) (n : Int) (c : Code) (B : Nat) (hB : w.heap.size ≤ B) : OwnFrom B (SXr w n c) :=
  OwnFrom.and (OwnFrom.and (ownFrom_pure _ _) (Own.from (boxed_own _ _ _) _)) (ownFrom_below (Nat.le_refl _) hB)
theorem SX_own (w : World) (n : Int) (c : Code) (B : Nat) (hB : w.heap.size ≤ B) : OwnFrom B (SX w n c) := fun s X Y row h hg hr => by
  rcases h with h | h
  · exact .inl (SXb_own w n c B hB s X Y row h hg hr)
  · exact .inr (SXr_own w n c B hB s X Y row h hg hr)
theorem SA_own (w : World) (v : Value) (n : Int) (x : Int × Ed) (a' : Act) (B : Nat) : OwnFrom B (fun (_ : Unit) W => SA w v n x a' W) :=
  fun _ X Y row hs hg hr => by obtain ⟨Bx, h1, h2, h3⟩ := hs; exact ⟨Bx, h1, blk_own Bx 44 (fun (_ : Unit) => #[.int .i64 x.2.f, .int .i64 x.2.t, .string x.2.x]) () X Y row h2 hg (fun r e => (hr r e).2), h3⟩

theorem Blk.lt' {W : World} {k : Nat} {t : TypeId} {vs : Array Value} {o : Obj} (h : Blk W k t vs) : Blk (W.alloc o) k t vs := h.alloc o

theorem SI_go {w W : World} {v : Value} {n : Int} {pre : List (Int × Ed)} {x : Int × Ed} (h : SI w v n pre W) (h1 : x.2.f ≤ n) (h2 : x.2.t ≤ n) (o : Obj) (q : Int) (hq : q = wr (more 0 (snds pre) + grow x.2)) :
    KeepsOthers W ((W.setCell ⟨w.heap.size + 1 + 1, 0, none⟩ (.int .i64 q)).alloc o).drew ∧
    KX w.heap.size (SXs w) W ((W.setCell ⟨w.heap.size + 1 + 1, 0, none⟩ (.int .i64 q)).alloc o).drew ∧
    SI w v n (pre ++ [x]) ((W.setCell ⟨w.heap.size + 1 + 1, 0, none⟩ (.int .i64 q)).alloc o).drew := by
  obtain ⟨⟨⟨⟨⟨b0, b1⟩, b2⟩, b3⟩, hp⟩, hB⟩ := h
  have hs := hB.size
  have hB2 := hB.setCell (p := ⟨w.heap.size + 1 + 1, 0, none⟩) (by simp; omega) (.int .i64 q)
  have hW2 : Below w.heap.size W (W.setCell ⟨w.heap.size + 1 + 1, 0, none⟩ (.int .i64 q)) := (Below.refl _ W).setCell (p := ⟨w.heap.size + 1 + 1, 0, none⟩) (by simp; omega) _
  refine ⟨((KeepsOthers.setCell _ _ _).trans (KeepsOthers.alloc _ _)).trans (KeepsOthers.drew _), ⟨(hW2.alloc hB2.size o).drew, ?_⟩, ⟨⟨⟨⟨⟨?_, ?_⟩, ?_⟩, ?_⟩, ?_⟩, ?_⟩⟩
  · intro k vs t _ hX _ hb
    exact Blk.drew' ((hb.other (fun e => hX e) _).alloc o)
  · exact Boxed.drew' ((b0.other (by omega) _).alloc o)
  · exact Boxed.drew' ((b1.other (by omega) _).alloc o)
  · have : more 0 (snds (pre ++ [x])) = q := by rw [hq]; simp only [snds, List.map_append, List.map_cons, List.map_nil]; rw [more_append]; rfl
    rw [this]; exact Boxed.drew' ((b2.set _).alloc o)
  · exact Boxed.drew' ((b3.other (by omega) _).alloc o)
  · simp only [snds, List.map_append, List.map_cons, List.map_nil]; exact passed_snoc hp h1 h2
  · exact (hB2.alloc hB2.size o).drew

theorem SXb_fin {w W : World} {v : Value} {n : Int} {pre : List (Int × Ed)} {x : Int × Ed} (h : SI w v n pre W) (h1 : n < x.2.f) : SX w n (.exit 0) (pre ++ [x]) W := by
  obtain ⟨⟨⟨⟨⟨b0, b1⟩, b2⟩, b3⟩, hp⟩, hB⟩ := h
  refine .inl ⟨⟨⟨⟨⟨rfl, pre, x, rfl, hp, h1⟩, b0⟩, b1⟩, ?_⟩, hB⟩
  rw [List.dropLast_concat]; exact b2
theorem SXr_fin {w W : World} {v : Value} {n : Int} {pre : List (Int × Ed)} {x : Int × Ed} (h : SI w v n pre W) (h1 : x.2.f ≤ n) (h2 : n < x.2.t) :
    KeepsOthers W (W.setCell ⟨w.heap.size + 1, 0, none⟩ (.int .i64 x.1)) ∧ SX w n .ret (pre ++ [x]) (W.setCell ⟨w.heap.size + 1, 0, none⟩ (.int .i64 x.1)) := by
  obtain ⟨⟨⟨⟨⟨b0, b1⟩, b2⟩, b3⟩, hp⟩, hB⟩ := h
  refine ⟨KeepsOthers.setCell _ _ _, .inr ⟨⟨⟨rfl, pre, x, rfl, hp, h1, h2⟩, ?_⟩, hB.setCell (p := ⟨w.heap.size + 1, 0, none⟩) (by simp) _⟩⟩
  rw [List.getLastD_concat]; exact b1.set _

theorem shift_break {es : List Ed} {at' : Int} {p : List (Int × Ed)} {x : Int × Ed} (h : p ++ [x] <+: placed 0 es) (hp : passed at' (snds p)) (hx : at' < x.2.f) : shiftF es at' = wr (at' + more 0 (snds p)) := by
  obtain ⟨r, hr⟩ := h
  have h1 : es = snds p ++ (x.2 :: snds r) := by rw [← placed_snd 0 es, ← hr]; simp [snds]
  unfold shiftF
  rw [h1, shiftG_passed _ _ _ _ hp]
  simp only [shiftG]
  rw [if_pos hx]
theorem shift_ret {es : List Ed} {at' : Int} {p : List (Int × Ed)} {x : Int × Ed} (h : p ++ [x] <+: placed 0 es) (hp : passed at' (snds p)) (h1 : x.2.f ≤ at') (h2 : at' < x.2.t) : shiftF es at' = x.1 := by
  have hpl := placed_of_pre h
  obtain ⟨r, hr⟩ := h
  have he : es = snds p ++ (x.2 :: snds r) := by rw [← placed_snd 0 es, ← hr]; simp [snds]
  have hx : x.1 = wr (x.2.f + more 0 (snds p)) := by
    rw [List.map_append, placed_append] at hpl
    have h3 := (List.append_inj' hpl (by simp [placed])).2
    simp [placed] at h3
    have h4 := congrArg Prod.fst h3
    exact h4
  unfold shiftF
  rw [he, shiftG_passed _ _ _ _ hp]
  simp only [shiftG]
  rw [if_neg (by omega), if_pos h2, hx]

set_option maxRecDepth 100000 in
set_option maxHeartbeats 2000000 in
theorem shift_in (n : Nat) (hn : 3 ≤ n) (v : Value) (es : List Ed) (m : Int) (w : World) (hes : EdsAt w.heap.size w v es) :
    CallsIn Fence.wide n Try.prog 17 #[v, .int .i64 m] w fun e W' => e = .returned (.int .i64 (shiftF es m)) ∧ Below w.heap.size w W' := by
  obtain ⟨ao, cap, rfl, hmax, hcells⟩ := id hes
  have h1 : 1 ≤ n := by omega
  have hf : Fence.wide.fn 26 := trivial
  clear hcells
  obtain ⟨v, hv⟩ : ∃ v, v = Value.slice ao es.length cap := ⟨_, rfl⟩
  refine callsIn_of_wp_marks Try.func17 rfl trivial ?_ rfl
  simp only [Try.ntmps17, List.size_toArray, List.length_cons, List.length_nil, Nat.reduceAdd, Nat.reduceSub, Array.replicate_succ, Array.replicate_zero, List.push_toArray, List.append_toArray, List.nil_append, List.cons_append]
  gi_wp2_with (gi_at_call 26; refine (placed_in (n - 1) _ ao es.length cap rfl _).mono ?_; rintro e w' ⟨rfl, rfl⟩)
  rw [← hv] at hes ⊢
  clear hv
  obtain ⟨W0, hW0⟩ : ∃ W0, ((((w.alloc (.cells #[.int .i64 m] 3)).alloc (.cells #[.int .i64 0] 3)).alloc (.cells #[.int .i64 0] 3)).alloc (.cells #[v] 22)) = W0 := ⟨_, rfl⟩
  have hB0 : Below w.heap.size w W0 := by rw [← hW0]; exact ((((Below.refl _ w).alloc (Nat.le_refl _) _).alloc (by simp) _).alloc (by simp; omega) _).alloc (by simp; omega) _
  have hsz : W0.heap.size = w.heap.size + 4 := by rw [← hW0]; simp
  have b0 : Boxed W0 w.heap.size 3 (.int .i64 m) := by rw [← hW0]; exact (((Boxed.new w _ _).alloc _).alloc _).alloc _
  have b1 : Boxed W0 (w.heap.size + 1) 3 (.int .i64 0) := by
    rw [← hW0]; have := ((Boxed.new (w.alloc (.cells #[.int .i64 m] 3)) 3 (.int .i64 0)).alloc (.cells #[.int .i64 0] 3)).alloc (.cells #[v] 22)
    simpa only [World.size_alloc] using this
  have b2 : Boxed W0 (w.heap.size + 1 + 1) 3 (.int .i64 0) := by
    rw [← hW0]; have := (Boxed.new ((w.alloc (.cells #[.int .i64 m] 3)).alloc (.cells #[.int .i64 0] 3)) 3 (.int .i64 0)).alloc (.cells #[v] 22)
    simpa only [World.size_alloc] using this
  have b3 : Boxed W0 (w.heap.size + 1 + 1 + 1) 22 v := by
    rw [← hW0]; have := Boxed.new (((w.alloc (.cells #[.int .i64 m] 3)).alloc (.cells #[.int .i64 0] 3)).alloc (.cells #[.int .i64 0] 3)) 22 v
    simpa only [World.size_alloc] using this
  rw [hW0]
  clear hW0
  refine wpIn_rangeFunc_ownH (F := Fence.wide) rfl h1 (gf := 34) (lb := #[.pointer (some ⟨w.heap.size + 1 + 1 + 1, 0, none⟩)]) rfl trivial (enters_of Try.func34 (by kernel_rfl) rfl)
    (placed_stops (n - 1) (by omega) (w.heap.size + 1 + 1 + 1) w.heap.size (SXs w) (by unfold SXs; omega) v es W0 (fun k hk => by simp [SXs]; omega) (by omega) b3 (hes.below hB0)) KX.trans (KX.put (by omega)) (Below.refl _ _) (fun _ => rfl)
    (SI w v m) (SX w m)
    (SI_own w v m _ (by omega)) (fun c => SX_own w m c _ (by omega))
    ⟨⟨⟨⟨⟨b0, b1⟩, b2⟩, b3⟩, fun e he => by cases he⟩, hB0⟩
    (SA w v m) (fun x a' => SA_own w v m x a' _)
    ?assign ?body ?done ?stop
  case assign =>
    rintro l pre x W K hI hK
    gi_wp2
    obtain ⟨⟨⟨⟨⟨b0, b1⟩, b2⟩, b3⟩, hp⟩, hB⟩ := hI
    exact hK _ _ ((KeepsOthers.alloc _ _).from _) (KX.alloc _ _ _ hB.size) ⟨⟨⟨⟨⟨b0.alloc _, b1.alloc _⟩, b2.alloc _⟩, b3.alloc _⟩, hp⟩, hB.alloc hB.size _⟩ ⟨W.heap.size, by have := b3.lt; omega, Blk.new W 44 _, rfl⟩
  case body =>
    rintro l pre x a' W hl ⟨r, hr⟩ hI ⟨Bx, hBx, bX, rfl⟩ hlt
    obtain ⟨⟨⟨⟨⟨b0, b1⟩, b2⟩, b3⟩, hp⟩, hB⟩ := id hI
    have c0 := b0.cell
    have f1 := b1.frozen
    have f2 := b2.frozen
    have c1 := b1.cell
    have c2 := b2.cell
    have x0 : W.cell? ⟨Bx, 0, none⟩ = some (.int .i64 x.2.f) := bX.cell 0
    have x1 : W.cell? ⟨Bx, 1, none⟩ = some (.int .i64 x.2.t) := bX.cell 1
    have x2 : W.cell? ⟨Bx, 2, none⟩ = some (.string x.2.x) := bX.cell 2
    have hmx : Try.prog.follows .mixedOrders = true := by kernel_rfl
    have hgo := fun h1 h2 o => SI_go (x := x) hI h1 h2 o (IntKind.i64.wrap (more 0 (snds pre) + grow x.2)) (IntWalk.i64_left _)
    have hb := fun h1 => SXb_fin (x := x) hI h1
    have hrr := fun h1 h2 => SXr_fin (x := x) hI h1 h2
    obtain ⟨M, hM⟩ : ∃ M, more 0 (snds pre) = M := ⟨_, rfl⟩
    rw [hM] at hgo c2 b2
    have HG := Lib.hid hgo; have HF := Lib.hid hb; have HR := Lib.hid hrr
    clear hM hp hI hgo hb hrr
    by_cases t1 : m < x.2.f
    · gi_wp2
      exact ⟨⟨Nat.le_refl _, fun _ _ _ h _ => h⟩, HF.out t1⟩
    · have t1' : x.2.f ≤ m := by omega
      by_cases t2 : m < x.2.t
      · gi_wp2
        have := HR.out t1' t2
        exact ⟨this.1.from _, this.2⟩
      · have t2' : x.2.t ≤ m := by omega
        have hdep : 1 ≤ n - 1 - 1 := by omega
        have hfg : Fence.wide.fn 27 := trivial
        have HH := Lib.hid (fun o => HG.out t1' t2' o)
        have f2' : (W.alloc (.cells #[.int .i64 x.2.f, .int .i64 x.2.t, .string x.2.x] 44)).frozen? ⟨w.heap.size + 1 + 1, 0, none⟩ = false := (b2.alloc _).frozen
        have c2' : (W.alloc (.cells #[.int .i64 x.2.f, .int .i64 x.2.t, .string x.2.x] 44)).cell? ⟨w.heap.size + 1 + 1, 0, none⟩ = some (.int .i64 M) := (b2.alloc _).cell
        have l2 := b2.lt
        have lX := bX.lt
        gi_wp2
        gi_region_with (gi_at_call 27; refine (CallsIn.inRound l (growth_exact (n - 1 - 1 - 1) x.2 _)).mono ?_; rintro ee w' ⟨rfl, rfl⟩)
        all_goals gi_wp2
        all_goals exact ⟨(HH.out _).1.from _, (HH.out _).2⟩
  case done =>
    rintro D ys W hD rfl hI hK
    obtain ⟨⟨⟨⟨⟨b0, b1⟩, b2⟩, b3⟩, hp⟩, hB⟩ := hI
    have hsn : snds (placed 0 es) = es := placed_snd 0 es
    rw [hsn] at hp b2
    have hsh : shiftF es m = wr (m + more 0 es) := by
      have := shiftG_passed m 0 es [] hp
      rw [List.append_nil] at this
      exact this
    have HP := Lib.hid hsh
    have c0 := b0.cell
    have f1 := b1.frozen
    have c1 := b1.cell
    obtain ⟨M, hM⟩ : ∃ M, more 0 es = M := ⟨_, rfl⟩
    rw [hM] at b2
    have HM := Lib.hid hM
    have c2 := b2.cell
    clear hp hsn hsh hM
    gi_wp2
    have hk3 : KeepsOthers W (W.setCell ⟨w.heap.size + 1, 0, none⟩ (.int .i64 (wrap64 (m + M)))) := KeepsOthers.setCell _ _ _
    have hK' := hk3.same D _ hK rfl
    have d1 := (b1.set (.int .i64 (wrap64 (m + M)))).cell
    have hB3 := hB.setCell (p := ⟨w.heap.size + 1, 0, none⟩) (by simp) (.int .i64 (wrap64 (m + M)))
    refine ⟨by simp, .inl ⟨_, _, rfl, run_takeDeferred hK', ?_⟩⟩
    have e1 := cell_kept d1 (grownBy_putObj' _ D (.deferred none)) (fun r e => by cases e; exact ⟨_, hK', rfl⟩)
    refine ⟨.int .i64 (wrap64 (m + M)), ?_, by rw [HP.out, HM.out], hB3.trans (belowK_b (w := w) (Nat.le_refl _) _ D _ _ (by omega) hK' rfl rfl)⟩
    simp [results, Try.f17, go_sem, e1]
  case stop =>
    rintro D c pre W hD hpre hX hK
    rcases hX with ⟨⟨⟨⟨⟨rfl, p, x, rfl, hp, hx⟩, b0⟩, b1⟩, b2⟩, hB⟩ | ⟨⟨⟨rfl, p, x, rfl, hp, hx1, hx2⟩, b1⟩, hB⟩
    · have hsh := shift_break hpre hp hx
      rw [List.dropLast_concat] at b2
      have HP := Lib.hid hsh
      have c0 := b0.cell
      have f1 := b1.frozen
      have c1 := b1.cell
      obtain ⟨M, hM⟩ : ∃ M, more 0 (snds p) = M := ⟨_, rfl⟩
      rw [hM] at b2
      have HM := Lib.hid hM
      have c2 := b2.cell
      clear hp hsh hM hpre hx
      gi_wp2
      have hk3 : KeepsOthers W (W.setCell ⟨w.heap.size + 1, 0, none⟩ (.int .i64 (wrap64 (m + M)))) := KeepsOthers.setCell _ _ _
      have hK' := hk3.same D _ hK rfl
      have d1 := (b1.set (.int .i64 (wrap64 (m + M)))).cell
      have hB3 := hB.setCell (p := ⟨w.heap.size + 1, 0, none⟩) (by simp) (.int .i64 (wrap64 (m + M)))
      refine ⟨by simp, .inl ⟨_, _, rfl, run_takeDeferred hK', ?_⟩⟩
      have e1 := cell_kept d1 (grownBy_putObj' _ D (.deferred none)) (fun r e => by cases e; exact ⟨_, hK', rfl⟩)
      refine ⟨.int .i64 (wrap64 (m + M)), ?_, by rw [HP.out, HM.out], hB3.trans (belowK_b (w := w) (Nat.le_refl _) _ D _ _ (by omega) hK' rfl rfl)⟩
      simp [results, Try.f17, go_sem, e1]
    · have hsh := shift_ret hpre hp hx1 hx2
      rw [List.getLastD_concat] at b1
      have HP := Lib.hid hsh
      clear hsh hpre hp hx1 hx2
      gi_wp2
      refine ⟨by simp, .inl ⟨_, _, rfl, run_takeDeferred hK, ?_⟩⟩
      have e1 := cell_kept b1.cell (grownBy_putObj' _ D (.deferred none)) (fun r e => by cases e; exact ⟨_, hK, rfl⟩)
      refine ⟨.int .i64 x.1, ?_, by rw [HP.out], hB.trans (belowK_b (w := w) (Nat.le_refl _) _ D _ _ (by omega) hK rfl rfl)⟩
      simp [results, Try.f17, go_sem, e1]

theorem shift_calls (v : Value) (es : List Ed) (m : Int) (w : World) (hes : EdsAt w.heap.size w v es) (r : Int) (hr : shiftF es m = r) :
    Calls Try.prog 17 #[v, .int .i64 m] w fun e W' => e = .returned (.int .i64 r) ∧ Below w.heap.size w W' := by
  subst hr
  exact callsIn_wide.1 (shift_in 3 (Nat.le_refl _) v es m w hes)
end Go.Proofs.Ytepniobmhplphaa.ed
