/-
  utf.Offset: the contract: the place of a line and a column, for every text and every two numbers.
-/
import Derived.Test.YtmcjjkjolbpneaaUtfPlace
namespace Go.Proofs.Ytmcjjkjolbpneaa.utf
open Go.RowKit Go.Shelf
attribute [local go_sem] Oper.semAt_some

def offW (f t col : Int) : Int × Bool := if col < 0 ∨ wrap64 (t - f) < col then (0, false) else (wrap64 (f + col), true)
abbrev off2 (r : Int × Bool) : Value := .tuple #[.int .i64 r.1, .bool r.2]

set_option maxRecDepth 100000 in
set_option maxHeartbeats 1000000 in
theorem offset1_calls (f t col : Int) (w : World) :
    Calls Try.prog 24 #[.agg #[.int .i64 f, .int .i64 t], .int .i64 col] w fun e w' => e = .returned (off2 (offW f t col)) ∧ w' = w.alloc (.cells #[.int .i64 f, .int .i64 t] 44) := by
  by_cases h1 : col < 0
  · have HF := Lib.hid (show offW f t col = (0, false) from by simp [offW, h1])
    have hd : decide (col < 0) = true := by simpa using h1
    go_enter Try.func24, Try.ntmps24
    go_wp2
    go_ret2
    exact ⟨by rw [HF.out]; rfl, rfl⟩
  · have hd : decide (col < 0) = false := by simpa using h1
    by_cases h2 : wrap64 (t - f) < col
    · have HF := Lib.hid (show offW f t col = (0, false) from by simp [offW, h2])
      have hd2 : decide (wrap64 (t - f) < col) = true := by simpa using h2
      go_enter Try.func24, Try.ntmps24
      go_wp2
      go_ret2
      exact ⟨by rw [HF.out]; rfl, rfl⟩
    · have HF := Lib.hid (show offW f t col = (wrap64 (f + col), true) from by simp [offW, h2, h1])
      have hd2 : decide (wrap64 (t - f) < col) = false := by simpa using h2
      go_enter Try.func24, Try.ntmps24
      go_wp2
      go_ret2
      exact ⟨by rw [HF.out]; rfl, rfl⟩

/-- Between two rounds. -/
def OI (w : World) (s : ByteArray) (line col : Int) (pre : List (Nat × Nat × Nat)) (W : World) : Prop :=
  ((((((Boxed W w.heap.size 3 (.int .i64 line) ∧ Boxed W (w.heap.size + 1) 3 (.int .i64 col)) ∧ Boxed W (w.heap.size + 1 + 1) 3 (.int .i64 0)) ∧ Boxed W (w.heap.size + 1 + 1 + 1) 4 (.bool false)) ∧ Boxed W (w.heap.size + 1 + 1 + 1 + 1) 9 (.string s))) ∧ (∀ x ∈ pre, ((x.1 : Int) == line) = false)) ∧ Below w.heap.size w W
/-- A round has left. -/
def OX (w : World) (line col : Int) (c : Code) (pre : List (Nat × Nat × Nat)) (W : World) : Prop :=
  (c = .ret ∧ ∃ ini last, pre = ini ++ [last] ∧ (∀ x ∈ ini, ((x.1 : Int) == line) = false) ∧ ((last.1 : Int) == line) = true ∧ Boxed W (w.heap.size + 1 + 1) 3 (.int .i64 (offW last.2.1 last.2.2 col).1) ∧ Boxed W (w.heap.size + 1 + 1 + 1) 4 (.bool (offW last.2.1 last.2.2 col).2)) ∧ Below w.heap.size w W
def OA (w : World) (s : ByteArray) (line col : Int) (x : Nat × Nat × Nat) (a' : Act) (W : World) : Prop :=
  ∃ Bx, w.heap.size + 4 < Bx ∧ Blk W Bx 44 #[.int .i64 (x.2.1 : Int), .int .i64 (x.2.2 : Int)] ∧ a' = { tmps := #[.string s, .int .i64 line, .int .i64 col, undef, .pointer (some ⟨w.heap.size, 0, none⟩), .pointer (some ⟨w.heap.size + 1, 0, none⟩), .pointer (some ⟨w.heap.size + 1 + 1, 0, none⟩), .pointer (some ⟨w.heap.size + 1 + 1 + 1, 0, none⟩), .int .i64 (x.1 : Int), .pointer (some ⟨Bx, 0, none⟩), .string s, .func (.func 28) #[] #[.pointer (some ⟨w.heap.size + 1 + 1 + 1 + 1, 0, none⟩)], .int .i64 (x.1 : Int), .agg #[.int .i64 (x.2.1 : Int), .int .i64 (x.2.2 : Int)], undef, undef, undef, undef, undef, undef, undef, undef], defers := [] }
theorem OI_own (w : World) (s : ByteArray) (line col : Int) (B : Nat) (hB : w.heap.size ≤ B) : OwnFrom B (OI w s line col) :=
  OwnFrom.and (OwnFrom.and (OwnFrom.and (OwnFrom.and (OwnFrom.and (OwnFrom.and (Own.from (boxed_own _ _ _) _) (Own.from (boxed_own _ _ _) _)) (Own.from (boxed_own _ _ _) _)) (Own.from (boxed_own _ _ _) _)) (Own.from (boxed_own _ _ _) _)) (ownFrom_pure _ _)) (ownFrom_below (Nat.le_refl _) hB)
theorem OX_own (w : World) (line col : Int) (c : Code) (B : Nat) (hB : w.heap.size ≤ B) : OwnFrom B (OX w line col c) :=
  OwnFrom.and (fun pre X Y row hs hg hr => by
      obtain ⟨hc, ini, last, e1, e2, e3, c1, c2⟩ := hs
      exact ⟨hc, ini, last, e1, e2, e3, boxed_own _ _ (fun (_ : Unit) => _) () X Y row c1 hg (fun r e => (hr r e).2), boxed_own _ _ (fun (_ : Unit) => _) () X Y row c2 hg (fun r e => (hr r e).2)⟩) (ownFrom_below (Nat.le_refl _) hB)
theorem OA_own (w : World) (s : ByteArray) (line col : Int) (x : Nat × Nat × Nat) (a' : Act) (B : Nat) : OwnFrom B (fun (_ : Unit) W => OA w s line col x a' W) :=
  fun _ X Y row hs hg hr => by obtain ⟨Bx, h1, h2, h3⟩ := hs; exact ⟨Bx, h1, blk_own Bx 44 (fun (_ : Unit) => #[.int .i64 (x.2.1 : Int), .int .i64 (x.2.2 : Int)]) () X Y row h2 hg (fun r e => (hr r e).2), h3⟩
theorem OI_go {w W : World} {s : ByteArray} {line col : Int} {pre : List (Nat × Nat × Nat)} {x : Nat × Nat × Nat} (h : OI w s line col pre W) (hle : ((x.1 : Int) == line) = false) : OI w s line col (pre ++ [x]) W := by
  obtain ⟨⟨hb, hp⟩, hB⟩ := h
  exact ⟨⟨hb, fun y hy => (List.mem_append.1 hy).elim (hp y) (fun e => by simp at e; subst e; exact hle)⟩, hB⟩
theorem OX_fin {w W : World} {s : ByteArray} {line col : Int} {pre : List (Nat × Nat × Nat)} {x : Nat × Nat × Nat} (o : Obj) (h : OI w s line col pre W) (hle : ((x.1 : Int) == line) = true) :
    KeepsOthers W (((W.setCell ⟨w.heap.size + 1 + 1, 0, none⟩ (.int .i64 (offW x.2.1 x.2.2 col).1)).setCell ⟨w.heap.size + 1 + 1 + 1, 0, none⟩ (.bool (offW x.2.1 x.2.2 col).2)).alloc o) ∧
    OX w line col .ret (pre ++ [x]) (((W.setCell ⟨w.heap.size + 1 + 1, 0, none⟩ (.int .i64 (offW x.2.1 x.2.2 col).1)).setCell ⟨w.heap.size + 1 + 1 + 1, 0, none⟩ (.bool (offW x.2.1 x.2.2 col).2)).alloc o) := by
  obtain ⟨⟨⟨⟨⟨⟨b0, b1⟩, b2⟩, b3⟩, b4⟩, hp⟩, hB⟩ := h
  refine ⟨((KeepsOthers.setCell _ _ _).trans (KeepsOthers.setCell _ _ _)).trans (KeepsOthers.alloc _ _), ⟨rfl, pre, x, rfl, hp, hle, ?_, ?_⟩, ?_⟩
  · exact ((b2.set _).other (by omega) _).alloc _
  · exact ((b3.other (by omega) _).set _).alloc _
  · exact ((hB.setCell (p := ⟨w.heap.size + 1 + 1, 0, none⟩) (by simp; omega) _).setCell (p := ⟨w.heap.size + 1 + 1 + 1, 0, none⟩) (by simp; omega) _).alloc (by simpa using hB.size) _

theorem off_find {l : List UInt8} {line : Int} (col : Int) {ini : List (Nat × Nat × Nat)} {x : Nat × Nat × Nat} (hpre : ini ++ [x] <+: Sp.spansOf l) (hno : ∀ y ∈ ini, ((y.1 : Int) == line) = false) (hle : ((x.1 : Int) == line) = true) :
    Sp.offF l line col = Sp.offIn x col := by
  obtain ⟨rest, hr⟩ := hpre
  unfold Sp.offF
  rw [← hr, List.append_assoc, List.find?_append, List.find?_eq_none.2 (fun y hy => by rw [hno y hy]; simp)]
  have e : ([x] ++ rest).find? (fun x => (x.1 : Int) == line) = some x := by simp [hle]
  rw [e]; rfl
theorem off_none {l : List UInt8} {line : Int} (col : Int) (hno : ∀ y ∈ Sp.spansOf l, ((y.1 : Int) == line) = false) : Sp.offF l line col = (0, false) := by
  unfold Sp.offF
  rw [List.find?_eq_none.2 (fun y hy => by rw [hno y hy]; simp)]
theorem offW_in {x : Nat × Nat × Nat} {col : Int} (h1 : x.2.1 ≤ x.2.2) (h2 : x.2.2 ≤ 140737488351232) : offW x.2.1 x.2.2 col = Sp.offIn x col := by
  unfold offW Sp.offIn
  rw [IntWalk.wrap64_in _ (by omega)]
  split
  · rfl
  · rw [IntWalk.wrap64_in _ (by omega)]

set_option maxRecDepth 100000 in
set_option maxHeartbeats 2000000 in
theorem offset_in (n : Nat) (hn : 3 ≤ n) (s : ByteArray) (hs : s.size ≤ 140737488351232) (line col : Int) (w : World) :
    CallsIn Fence.wide n Try.prog 13 #[.string s, .int .i64 line, .int .i64 col] w fun e W' => e = .returned (off2 (Sp.offF s.data.toList line col)) ∧ Below w.heap.size w W' := by
  have h1 : 1 ≤ n := by omega
  have hf : Fence.wide.fn 23 := trivial
  refine callsIn_of_wp_marks Try.func13 rfl trivial ?_ rfl
  simp only [Try.ntmps13, List.size_toArray, List.length_cons, List.length_nil, Nat.reduceAdd, Nat.reduceSub, Array.replicate_succ, Array.replicate_zero, List.push_toArray, List.append_toArray, List.nil_append, List.cons_append]
  gi_wp2_with (gi_at_call 23; refine (lines_calls (n - 1) _ _).mono ?_; rintro e w' ⟨rfl, rfl⟩)
  have b0 := ((((Boxed.new w 3 (.int .i64 line)).alloc (.cells #[.int .i64 col] 3)).alloc (.cells #[.int .i64 0] 3)).alloc (.cells #[.bool false] 4)).alloc (.cells #[.string s] 9)
  have b1 := (((Boxed.new (w.alloc (.cells #[.int .i64 line] 3)) 3 (.int .i64 col)).alloc (.cells #[.int .i64 0] 3)).alloc (.cells #[.bool false] 4)).alloc (.cells #[.string s] 9)
  have b2 := ((Boxed.new ((w.alloc (.cells #[.int .i64 line] 3)).alloc (.cells #[.int .i64 col] 3)) 3 (.int .i64 0)).alloc (.cells #[.bool false] 4)).alloc (.cells #[.string s] 9)
  have b3 := (Boxed.new (((w.alloc (.cells #[.int .i64 line] 3)).alloc (.cells #[.int .i64 col] 3)).alloc (.cells #[.int .i64 0] 3)) 4 (.bool false)).alloc (.cells #[.string s] 9)
  have b4 := Boxed.new ((((w.alloc (.cells #[.int .i64 line] 3)).alloc (.cells #[.int .i64 col] 3)).alloc (.cells #[.int .i64 0] 3)).alloc (.cells #[.bool false] 4)) 9 (.string s)
  simp only [World.size_alloc] at b1 b2 b3 b4
  have hB0 : Below w.heap.size w (((((w.alloc (.cells #[.int .i64 line] 3)).alloc (.cells #[.int .i64 col] 3)).alloc (.cells #[.int .i64 0] 3)).alloc (.cells #[.bool false] 4)).alloc (.cells #[.string s] 9)) :=
    (((((Below.refl _ w).alloc (Nat.le_refl _) _).alloc (by simp) _).alloc (by simp; omega) _).alloc (by simp; omega) _).alloc (by simp; omega) _
  have hsz : (((((w.alloc (.cells #[.int .i64 line] 3)).alloc (.cells #[.int .i64 col] 3)).alloc (.cells #[.int .i64 0] 3)).alloc (.cells #[.bool false] 4)).alloc (.cells #[.string s] 9)).heap.size = w.heap.size + 5 := by simp
  obtain ⟨W0, hW0⟩ : ∃ W0, ((((w.alloc (.cells #[.int .i64 line] 3)).alloc (.cells #[.int .i64 col] 3)).alloc (.cells #[.int .i64 0] 3)).alloc (.cells #[.bool false] 4)).alloc (.cells #[.string s] 9) = W0 := ⟨_, rfl⟩
  rw [hW0] at b0 b1 b2 b3 b4 hB0 hsz ⊢
  clear hW0
  refine wpIn_rangeFunc_ownH (F := Fence.wide) rfl h1 (gf := 28) (lb := #[.pointer (some ⟨w.heap.size + 1 + 1 + 1 + 1, 0, none⟩)]) rfl trivial (enters_of Try.func28 (by kernel_rfl) rfl)
    (lines_stops (n - 1) (by omega) (w.heap.size + 1 + 1 + 1 + 1) s hs W0 (by omega) b4.cell) KC.trans KC.put (Below.refl _ _) (fun _ => rfl)
    (OI w s line col) (OX w line col)
    (OI_own w s line col _ (by omega)) (fun c => OX_own w line col c _ (by omega))
    ⟨⟨⟨⟨⟨⟨b0, b1⟩, b2⟩, b3⟩, b4⟩, by simp⟩, hB0⟩
    (OA w s line col) (fun x a' => OA_own w s line col x a' _)
    ?assign ?body ?done ?stop
  case assign =>
    rintro l pre x W K hI hK
    gi_wp2
    obtain ⟨⟨⟨⟨⟨⟨b0, b1⟩, b2⟩, b3⟩, b4⟩, hp⟩, hB⟩ := hI
    exact hK _ _ ((KeepsOthers.alloc _ _).from _) (KC.alloc _ _ _) ⟨⟨⟨⟨⟨⟨b0.alloc _, b1.alloc _⟩, b2.alloc _⟩, b3.alloc _⟩, b4.alloc _⟩, hp⟩, hB.alloc hB.size _⟩ ⟨W.heap.size, by have := b4.lt; omega, Blk.new W 44 _, rfl⟩
  case body =>
    rintro l pre x a' W hl ⟨r, hr⟩ hI ⟨Bx, hBx, bX, rfl⟩ hlt
    obtain ⟨⟨⟨⟨⟨⟨b0, b1⟩, b2⟩, b3⟩, b4⟩, hp⟩, hB⟩ := id hI
    clear hp
    have c0 := b0.cell
    have c1 := b1.cell
    have f2 := b2.frozen
    have f3 := b3.frozen
    have c2 := b2.cell
    have c3 := b3.cell
    have x0 : W.cell? ⟨Bx, 0, none⟩ = some (.int .i64 (x.2.1 : Int)) := bX.cell 0
    have x1 : W.cell? ⟨Bx, 1, none⟩ = some (.int .i64 (x.2.2 : Int)) := bX.cell 1
    have l2 := b2.lt
    have l3 := b3.lt
    have hdep : 1 ≤ n - 1 - 1 := by omega
    have hf24 : Fence.wide.fn 24 := trivial
    cases hle : ((x.1 : Int) == line) with
    | true =>
      have hfin := fun o => OX_fin o hI hle
      gi_wp2_with (gi_at_call 24; refine (CallsIn.inRound l (callsIn_wide.2 (offset1_calls _ _ _ _))).mono ?_; rintro e w' ⟨rfl, rfl⟩)
      exact ⟨(hfin _).1.from _, (hfin _).2⟩
    | false =>
      gi_wp2
      exact ⟨KeepsFrom.refl _ _, KC.refl _ _, OI_go hI hle⟩
  case done =>
    rintro D ys W hD rfl hI hK
    obtain ⟨⟨⟨⟨⟨⟨b0, b1⟩, b2⟩, b3⟩, b4⟩, hp⟩, hB⟩ := hI
    have HP := Lib.hid (off_none col hp)
    have f2 := b2.frozen
    have f3 := b3.frozen
    have c2 := b2.cell
    have c3 := b3.cell
    clear hp
    gi_wp2
    have hk3 : KeepsOthers W ((W.setCell ⟨w.heap.size + 1 + 1, 0, none⟩ (.int .i64 0)).setCell ⟨w.heap.size + 1 + 1 + 1, 0, none⟩ (.bool false)) := (KeepsOthers.setCell _ _ _).trans (KeepsOthers.setCell _ _ _)
    have hK' := hk3.same D _ hK rfl
    have d2 := ((b2.set (.int .i64 0)).other (by omega : w.heap.size + 1 + 1 ≠ w.heap.size + 1 + 1 + 1) (.bool false)).cell
    have d3 := ((b3.other (by omega : w.heap.size + 1 + 1 + 1 ≠ w.heap.size + 1 + 1) (.int .i64 0)).set (.bool false)).cell
    have hB3 := (hB.setCell (p := ⟨w.heap.size + 1 + 1, 0, none⟩) (by simp; omega) (.int .i64 0)).setCell (p := ⟨w.heap.size + 1 + 1 + 1, 0, none⟩) (by simp; omega) (.bool false)
    refine ⟨by simp, .inl ⟨_, _, rfl, run_takeDeferred hK', ?_⟩⟩
    have e2 := cell_kept d2 (grownBy_putObj' _ D (.deferred none)) (fun r e => by cases e; exact ⟨_, hK', rfl⟩)
    have e3 := cell_kept d3 (grownBy_putObj' _ D (.deferred none)) (fun r e => by cases e; exact ⟨_, hK', rfl⟩)
    refine ⟨off2 (0, false), ?_, by rw [HP.out], hB3.trans (belowK_b (w := w) (Nat.le_refl _) _ D _ _ (by omega) hK' rfl rfl)⟩
    simp [results, Try.f13, go_sem, e2, e3]
  case stop =>
    rintro D c pre W hD hpre hX hK
    obtain ⟨⟨rfl, ini, last, rfl, hno, hle, c2, c3⟩, hB⟩ := hX
    have HP := Lib.hid (off_find col hpre hno hle)
    have hmem : last ∈ Sp.spansOf s.data.toList := by obtain ⟨r, hr⟩ := hpre; rw [← hr]; simp
    have hbd := Sp.spans_bd _ 0 0 0 (Nat.le_refl _) last hmem
    rw [size_toList] at hbd
    rw [offW_in (by omega) (by omega)] at c2 c3
    clear hno hmem hpre hle
    gi_wp2
    refine ⟨by simp, .inl ⟨_, _, rfl, run_takeDeferred hK, ?_⟩⟩
    have e2 := cell_kept c2.cell (grownBy_putObj' _ D (.deferred none)) (fun r e => by cases e; exact ⟨_, hK, rfl⟩)
    have e3 := cell_kept c3.cell (grownBy_putObj' _ D (.deferred none)) (fun r e => by cases e; exact ⟨_, hK, rfl⟩)
    refine ⟨off2 (Sp.offIn last col), ?_, by rw [HP.out], hB.trans (belowK_b (w := w) (Nat.le_refl _) _ D _ _ (by omega) hK rfl rfl)⟩
    simp [results, Try.f13, go_sem, e2, e3]

theorem offset_calls (s : ByteArray) (hs : s.size ≤ 140737488351232) (line col : Int) (w : World) :
    Calls Try.prog 13 #[.string s, .int .i64 line, .int .i64 col] w fun e W' => e = .returned (off2 (Sp.offF s.data.toList line col)) ∧ Below w.heap.size w W' :=
  callsIn_wide.1 (offset_in 3 (Nat.le_refl _) s hs line col w)

end Go.Proofs.Ytmcjjkjolbpneaa.utf
